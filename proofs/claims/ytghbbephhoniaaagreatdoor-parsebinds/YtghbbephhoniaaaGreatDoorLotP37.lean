import Derived.Test.YtghbbephhoniaaaGreatDoorLotP36
import Derived.Deep.DeepCutAuto
import Derived.Test.YtghbbephhoniaaaGreatDoorLotP11
import Derived.Test.YtghbbephhoniaaaGreatDoorLotP3
import Derived.Lib.IndexMore
import Derived.Test.YtghbbephhoniaaaGreatDoorLotP1
import Derived.Test.YtghbbephhoniaaaGreatDoorLotP35
import Derived.Lib.LaidTab
import Derived.Shelf.Vars
import Derived.Lib.OwnKind
import Derived.Test.YtghbbephhoniaaaGreatDoorLotP4
import Derived.Test.YtghbbephhoniaaaGreatDoorLotP7
import Derived.Test.YtghbbephhoniaaaGreatDoorLotP6
namespace Go.Proofs.YtghbbephhoniaaaGreatDoor
open Go.RowKit
set_option maxRecDepth 100000
theorem TOwns.toks {w : World} {base : Nat} {v : Value} {xs : List Tk} (h : TOwns w base v xs) (hx : 0 < xs.length) : ∃ g cap, v = .slice (some ⟨g, 0, none⟩) xs.length cap ∧ ∀ i (hi : i < xs.length), w.cell? ⟨g, i * 4, none⟩ = some (.int .i64 (xs[i].kind : Int)) ∧ w.cell? ⟨g, i * 4 + 1, none⟩ = some (.int .i64 (xs[i].pos : Int)) ∧
   w.cell? ⟨g, i * 4 + 2, none⟩ = some (str xs[i].text) ∧ w.cell? ⟨g, i * 4 + 3, none⟩ = some (.int .u32 (xs[i].num : Int)) := by
 obtain ⟨g, cap, hv, -⟩ := owns_head h hx
 obtain ⟨ao, cap', hv', C, -⟩ := cv_of_row h
 rw [hv] at hv'
 simp only [Value.slice.injEq, true_and] at hv'
 obtain ⟨rfl, rfl⟩ := hv'
 refine ⟨g, cap, hv, fun i hi => ?_⟩
 obtain ⟨b, off, e, hc⟩ := C.toks hi
 simp only [Option.some.injEq, Addr.mk.injEq] at e
 obtain ⟨rfl, rfl, -⟩ := e
 have := hc i hi
 simpa using this
theorem lexR_few : ∀ (k p : Nat) (s : List UInt8) (ts : List Tk), s.length ≤ k → lexR p s = .ok ts → ts.length ≤ s.length + 1
 | k, p, [], ts, _, h => by
  rw [lexR_nil] at h
  cases h
  simp
 | 0, p, c :: r, ts, hk, h => by simp at hk
 | k + 1, p, c :: r, ts, hk, h => by
  simp only [List.length_cons] at hk
  cases hb : blankB c with
  | true =>
   rw [lexR_blank p r hb] at h
   have := lexR_few k (p + 1) r ts (by omega) h
   simp only [List.length_cons]
   omega
  | false =>
   cases ht : tokV (c :: r) with
   | error e => rw [lexR_err p hb ht] at h; cases h
   | ok x =>
    obtain ⟨q, t, n⟩ := x
    rw [lexR_tok p hb ht] at h
    have hl := List.length_pos_iff.2 (tok_ok ht).1
    have hle := (tok_ok ht).2.2.1
    split at h
    ·cases h
    ·rename_i ts' h'
     cases h
     have := lexR_few k (p + t.length) ((c :: r).drop t.length) ts' (by rw [List.length_drop, List.length_cons]; omega) h'
     rw [List.length_drop] at this
     simp only [List.length_cons] at *
     omega
theorem TOwns.items {w : World} {base : Nat} {v : Value} {xs : List Tk} (h : TOwns w base v xs) : ∃ ao ca, v = .slice ao xs.length ca ∧ CV w ao (flatT xs) ∧ xs.length ≤ ca ∧ (ao = none → ca = 0) := by
 obtain ⟨ao, cap, hv, C, h1, -, h2, -⟩ := cv_of_row h
 exact ⟨ao, cap, hv, C, h1, h2⟩
theorem lexR_text : ∀ (k p : Nat) (s : List UInt8) (ts : List Tk), s.length ≤ k → lexR p s = .ok ts → ∀ t ∈ ts, t.text.length ≤ s.length ∧ t.pos ≤ p + s.length ∧ t.kind ≤ 5 ∧ t.num ≤ 4294967295
 | k, p, [], ts, _, h, t, ht => by
  rw [lexR_nil] at h
  cases h
  simp only [List.mem_singleton] at ht
  subst ht
  simp
 | 0, p, c :: r, ts, hk, h, t, ht => by simp at hk
 | k + 1, p, c :: r, ts, hk, h, t, ht => by
  simp only [List.length_cons] at hk
  cases hb : blankB c with
  | true =>
   rw [lexR_blank p r hb] at h
   have := lexR_text k (p + 1) r ts (by omega) h t ht
   simp only [List.length_cons]
   omega
  | false =>
   cases hx : tokV (c :: r) with
   | error e => rw [lexR_err p hb hx] at h; cases h
   | ok x =>
    obtain ⟨q, u, n⟩ := x
    rw [lexR_tok p hb hx] at h
    have hok := tok_ok hx
    have hl := List.length_pos_iff.2 hok.1
    have hle := hok.2.2.1
    split at h
    ·cases h
    ·rename_i ts' h'
     cases h
     rcases List.mem_cons.1 ht with rfl | ht
     ·exact ⟨hle, by simp only; omega, by simp only; omega, hok.2.2.2.2.2⟩
     ·have := lexR_text k (p + u.length) ((c :: r).drop u.length) ts' (by rw [List.length_drop, List.length_cons]; omega) h' t ht
      rw [List.length_drop] at this
      simp only [List.length_cons] at *
      omega
theorem lexV_toks {s : List UInt8} {ts : List Tk} (h : lexV s = .ok ts) : s.length ≤ 65536 ∧ ∃ us, ts = us ++ [⟨0, s.length, [], 0⟩] ∧ us.length ≤ 65536 ∧ ∀ t ∈ us, t.text ≠ [] ∧ tokV t.text = .ok (t.kind, t.text, t.num) ∧ t.text.length ≤ 65536 ∧ t.pos ≤ 65536 ∧ t.kind ≤ 5 ∧ t.num ≤ 4294967295 := by
 unfold lexV at h
 split at h
 ·cases h
 ·rename_i hl
  obtain ⟨us, e, hu⟩ := lexR_end _ 0 s ts (Nat.le_refl _) h
  have hf := lexR_few _ 0 s ts (Nat.le_refl _) h
  have ht := lexR_text _ 0 s ts (Nat.le_refl _) h
  rw [Nat.zero_add] at e
  refine ⟨by omega, us, e, ?_, fun t hm => ?_⟩
  ·rw [e, List.length_append, List.length_singleton] at hf
   omega
  ·obtain ⟨a, b⟩ := hu t hm
   obtain ⟨c, d, e', f⟩ := ht t (by rw [e]; exact List.mem_append_left _ hm)
   exact ⟨a, b, by omega, by omega, e', f⟩
theorem lexE_err {s : List UInt8} {x : Nat × Int} (h : lexV s = .error x) : (x.2 != 0) = true := by
 unfold lexV at h
 split at h
 ·cases h; rfl
 ·exact go _ 0 s (Nat.le_refl _) x h
where
 go : ∀ (k p : Nat) (s : List UInt8), s.length ≤ k → ∀ x, lexR p s = .error x → (x.2 != 0) = true
  | k, p, [], _, x, h => by rw [lexR_nil] at h; cases h
  | 0, p, c :: r, hk, x, h => by simp at hk
  | k + 1, p, c :: r, hk, x, h => by
   simp only [List.length_cons] at hk
   cases hb : blankB c with
   | true =>
    rw [lexR_blank p r hb] at h
    exact go k (p + 1) r (by omega) x h
   | false =>
    cases hx : tokV (c :: r) with
    | error e =>
     rw [lexR_err p hb hx] at h
     cases h
     exact tok_er hx
    | ok y =>
     obtain ⟨q, u, n⟩ := y
     rw [lexR_tok p hb hx] at h
     have hl := List.length_pos_iff.2 (tok_ok hx).1
     split at h
     ·rename_i e h'
      cases h
      exact go k (p + u.length) ((c :: r).drop u.length) (by rw [List.length_drop, List.length_cons]; omega) _ h'
     ·cases h
def TkG (t : Tk) : Prop := ((t.kind = 0 ∧ t.text = []) ∨ tokV t.text = .ok (t.kind, t.text, t.num)) ∧ t.text.length ≤ 65536 ∧ t.pos ≤ 65536 ∧ t.num ≤ 4294967295 ∧ t.kind ≤ 5
def Asked (x : List UInt8) : Prop := x ≠ [] ∧ ∃ q, (q = 5 ∨ q = 2) ∧ tokV x = .ok (q, x, 0)
def TksG (ts : List Tk) : Prop := EndsOk ts ∧ ∀ t ∈ ts, TkG t
theorem TksG.hd {ts : List Tk} (h : TksG ts) : TkG (hdT ts) := h.2 _ h.1.mem
theorem TksG.tail {ts : List Tk} (h : TksG ts) (hk : (hdT ts).kind ≠ 0) : TksG ts.tail := ⟨h.1.tail hk, fun t ht => h.2 t (List.mem_of_mem_tail ht)⟩
theorem TksG.ne {ts : List Tk} (h : TksG ts) : ts ≠ [] := fun e => by
 obtain ⟨us, x, hx, -⟩ := h.1
 rw [e] at hx
 cases us <;> cases hx
theorem lexV_good {s : List UInt8} {ts : List Tk} (h : lexV s = .ok ts) : TksG ts ∧ ts.length ≤ 65537 := by
 obtain ⟨hl, us, rfl, hu, ht⟩ := lexV_toks h
 have hk : ∀ t ∈ us, t.kind ≠ 0 := fun t hm => by
  have := (tok_ok (ht t hm).2.1).2.2.2.1
  omega
 refine ⟨⟨⟨us, _, rfl, rfl, hk⟩, fun t hm => ?_⟩, by rw [List.length_append, List.length_singleton]; omega⟩
 rcases List.mem_append.1 hm with hm | hm
 ·obtain ⟨-, h2, h3, h4, h5, h6⟩ := ht t hm
  exact ⟨.inr h2, h3, h4, h6, h5⟩
 ·rw [List.mem_singleton] at hm
  subst hm
  exact ⟨.inl ⟨rfl, rfl⟩, by simp, hl, by simp, by simp⟩
theorem asked_is {ts : List Tk} {x : List UInt8} (h : TkG (hdT ts)) (hx : Asked x) : isB ts x = decide ((hdT ts).text = x) := by
 unfold isB
 by_cases e : (hdT ts).text = x
 ·rw [decide_eq_true e]
  obtain ⟨hne, q, hq, ht⟩ := hx
  rcases h.1 with ⟨-, h0⟩ | h1
  ·exact absurd (e.symm.trans h0) hne
  ·rw [e, ht] at h1
   have hk : (hdT ts).kind = q := (congrArg Prod.fst (Except.ok.inj h1)).symm
   rw [hk, e]
   rcases hq with rfl | rfl <;> simp
 ·rw [decide_eq_false e]
  simp [e]
theorem asked_kind {ts : List Tk} {x : List UInt8} {q : Nat} (h : TkG (hdT ts)) (hne : x ≠ []) (hx : tokV x = .ok (q, x, 0)) (e : (hdT ts).text = x) : (hdT ts).kind = q := by
 rcases h.1 with ⟨-, h0⟩ | h1
 ·exact absurd (e.symm.trans h0) hne
 ·rw [e, hx] at h1
  exact (congrArg Prod.fst (Except.ok.inj h1)).symm
def wordsL : List (List UInt8) := [wLen, wInbound, wOutbound, wProto, wSrc, wDst, wHost, wNet, wPort, wPortrange]
theorem tok_words : ∀ x ∈ wordsL, x ≠ [] ∧ tokV x = .ok (2, x, 0) ∧ nameN x = 0 := by
 intro x hx
 simp only [wordsL, List.mem_cons, List.not_mem_nil, or_false] at hx
 rcases hx with rfl | rfl | rfl | rfl | rfl | rfl | rfl | rfl | rfl | rfl <;> exact ⟨by decide, by kernel_rfl, by decide⟩
def namesL : List (List UInt8) := [[112, 112, 112], [105, 112], [105, 112, 54], [116, 99, 112], [117, 100, 112], [105, 99, 109, 112], [105, 99, 109, 112, 54], [108, 99, 112], [112, 97, 112], [99, 104, 97, 112], [105, 112, 99, 112], [105, 112, 54, 99, 112], [109, 112]]
theorem tok_names : ∀ x ∈ namesL, x ≠ [] ∧ tokV x = .ok (2, x, 0) := by
 intro x hx
 simp only [namesL, List.mem_cons, List.not_mem_nil, or_false] at hx
 rcases hx with rfl | rfl | rfl | rfl | rfl | rfl | rfl | rfl | rfl | rfl | rfl | rfl | rfl <;> exact ⟨by decide, by kernel_rfl⟩
theorem name_in {x : List UInt8} (h : nameN x ≠ 0) : x ∈ namesL := by
 unfold nameN at h
 simp only [namesL, List.mem_cons, List.not_mem_nil, or_false]
 by_cases e1 : x = [112, 112, 112]; · simp [e1]
 by_cases e2 : x = [105, 112]; · simp [e2]
 by_cases e3 : x = [105, 112, 54]; · simp [e3]
 by_cases e4 : x = [116, 99, 112]; · simp [e4]
 by_cases e5 : x = [117, 100, 112]; · simp [e5]
 by_cases e6 : x = [105, 99, 109, 112]; · simp [e6]
 by_cases e7 : x = [105, 99, 109, 112, 54]; · simp [e7]
 by_cases e8 : x = [108, 99, 112]; · simp [e8]
 by_cases e9 : x = [112, 97, 112]; · simp [e9]
 by_cases e10 : x = [99, 104, 97, 112]; · simp [e10]
 by_cases e11 : x = [105, 112, 99, 112]; · simp [e11]
 by_cases e12 : x = [105, 112, 54, 99, 112]; · simp [e12]
 by_cases e13 : x = [109, 112]; · simp [e13]
 simp [e1, e2, e3, e4, e5, e6, e7, e8, e9, e10, e11, e12, e13] at h
theorem part_num {rec : Nat → List Tk → Out} {nest : Nat} {ts : List Tk} (h : (hdT ts).kind = 1) : partF rec nest ts = .ok ([({ ndK 1 with n := (hdT ts).num }, (hdT ts).pos)], ts.tail) := by rw [partF, if_pos h]
theorem part_paren {rec : Nat → List Tk → Out} {nest : Nat} {ts : List Tk} (hG : TkG (hdT ts)) (h : (hdT ts).text = [40]) : partF rec nest ts = opnV nest ts (thenE (rec (nest + 1) ts.tail) fun p => thenE (mustV [41] p.2) fun r => .ok (p.1, r)) := by
 have hk : (hdT ts).kind = 5 := asked_kind hG (by decide) (by kernel_rfl) h
 have hb : isB ts [40] = true := by rw [isB, hk, h]; rfl
 rw [partF, if_neg (by omega), if_pos hb]
theorem part_word {rec : Nat → List Tk → Out} {nest : Nat} {ts : List Tk} (hG : TkG (hdT ts)) (h : (hdT ts).text ∈ wordsL) : partF rec nest ts = wordF ts := by
 obtain ⟨h0, h1, h2⟩ := tok_words _ h
 have hk : (hdT ts).kind = 2 := asked_kind hG h0 h1 rfl
 have hb : ¬ isB ts [40] = true := fun e => by
  have := isB_text e
  rw [this] at h
  simp [wordsL, wLen, wInbound, wOutbound, wProto, wSrc, wDst, wHost, wNet, wPort, wPortrange] at h
 rw [partF, if_neg (by omega), if_neg hb, if_neg (by omega), if_neg (by rw [h2]; simp)]
theorem part_name {rec : Nat → List Tk → Out} {nest : Nat} {ts : List Tk} (hG : TkG (hdT ts)) (h : nameN (hdT ts).text ≠ 0) : partF rec nest ts = nameF rec nest (nameN (hdT ts).text) (hdT ts).pos ts.tail ∧ (hdT ts).kind = 2 := by
 obtain ⟨h0, h1⟩ := tok_names _ (name_in h)
 have hk : (hdT ts).kind = 2 := asked_kind hG h0 h1 rfl
 have hb : ¬ isB ts [40] = true := fun e => by
  have := isB_text e
  rw [this] at h
  exact h (by decide)
 refine ⟨?_, hk⟩
 rw [partF, if_neg (by omega), if_neg hb, if_neg (by omega), if_pos h]
theorem part_none {rec : Nat → List Tk → Out} {nest : Nat} {ts : List Tk} (h1 : (hdT ts).kind ≠ 1) (h2 : (hdT ts).text ≠ [40]) (h3 : (hdT ts).text ∉ wordsL) (h4 : nameN (hdT ts).text = 0) : partF rec nest ts = failV ts 111 := by
 have hb : ¬ isB ts [40] = true := fun e => h2 (isB_text e)
 rw [partF, if_neg h1, if_neg hb]
 by_cases hk : (hdT ts).kind ≠ 2
 ·rw [if_pos hk]
 ·rw [if_neg hk, if_neg (by rw [h4]; simp)]
  simp only [wordsL, List.mem_cons, List.not_mem_nil, or_false, not_or] at h3
  obtain ⟨a, b, c, d, e, f, g, h, i, j⟩ := h3
  rw [wordF, if_neg a, if_neg b, if_neg c, if_neg d, if_neg (by simp [e, f, g, h, i, j])]
theorem idx_none (b : UInt8) (s : List UInt8) (h : b ∉ s) : Lib.index s [b] = -1 := by
 induction s with
 | nil => rfl
 | cons c r ih =>
  have hc : (b == c) = false := by rw [beq_eq_false_iff_ne]; intro e; exact h (by rw [e]; simp)
  rw [Lib.index, show ([b] : List UInt8).isPrefixOf (c :: r) = false by simp [List.isPrefixOf, hc], ih (fun e => h (by simp [e]))]
  rfl
theorem idx_at (b : UInt8) (x y : List UInt8) (h : b ∉ x) : Lib.index (x ++ b :: y) [b] = (x.length : Int) := by
 induction x with
 | nil => simp [Lib.index, List.isPrefixOf]
 | cons c r ih =>
  have hc : (b == c) = false := by rw [beq_eq_false_iff_ne]; intro e; exact h (by rw [e]; simp)
  rw [List.cons_append, Lib.index, show ([b] : List UInt8).isPrefixOf (c :: (r ++ b :: y)) = false by simp [List.isPrefixOf, hc], ih (fun e => h (by simp [e]))]
  have : ((r.length : Int) == -1) = false := by rw [beq_eq_false_iff_ne]; omega
  rw [this]
  simp
theorem cut_one (b : UInt8) (s : List UInt8) : (Lib.cut s [b] = (s, [], false) ∧ splitV b s = [s]) ∨ (∃ x y, Lib.cut s [b] = (x, y, true) ∧ splitV b s = x :: splitV b y ∧ x.length + y.length + 1 = s.length) := by
 by_cases h : b ∈ s
 ·right
  obtain ⟨x, y, rfl, hx⟩ := List.eq_append_cons_of_mem h
  refine ⟨x, y, ?_, ?_, ?_⟩
  ·rw [Lib.cut, idx_at b x y hx, if_pos (by omega)]
   simp only [Int.toNat_natCast, List.take_left, List.length_cons, List.length_nil]
   rw [← List.drop_drop, List.drop_left]
   rfl
  ·unfold splitV
   rw [splitG_piece b [] x y hx]
   rfl
  ·simp
   omega
 ·left
  refine ⟨?_, ?_⟩
  ·rw [Lib.cut, idx_none b s h, if_neg (by decide)]
  ·unfold splitV
   rw [splitG_plain b [] s h]
   rfl
theorem idx_gap (s : List UInt8) : Lib.index s [58, 58] = gapI (gapV s) := by
 induction s with
 | nil => rfl
 | cons a r ih =>
  rw [Lib.index, gapV, ih]
  by_cases h : a = 58 ∧ r.head? = some 58
  ·rw [if_pos h]
   obtain ⟨rfl, h2⟩ := h
   cases r with
   | nil => cases h2
   | cons c r =>
    simp only [List.head?_cons, Option.some.injEq] at h2
    subst h2
    rw [if_pos (by simp [List.isPrefixOf])]
    rfl
  ·rw [if_neg h]
   have hp : ([58, 58] : List UInt8).isPrefixOf (a :: r) = false := by
    cases r with
    | nil => simp [List.isPrefixOf]
    | cons c r =>
     simp only [List.head?_cons, Option.some.injEq] at h
     by_cases ha : a = 58
     ·have hc : ((58 : UInt8) == c) = false := by rw [beq_eq_false_iff_ne]; intro e; exact h ⟨ha, e.symm⟩
      simp [List.isPrefixOf, hc]
     ·have hc : ((58 : UInt8) == a) = false := by rw [beq_eq_false_iff_ne]; intro e; exact ha e.symm
      simp [List.isPrefixOf, hc]
   rw [hp]
   cases gapV r with
   | none => rfl
   | some k =>
    have : (((k : Nat) : Int) == -1) = false := by rw [beq_eq_false_iff_ne]; omega
    simp only [gapI, Option.map_some, this, Bool.false_eq_true, if_false]
    omega
theorem cut_gap_none (s : List UInt8) (h : gapV s = none) : Lib.cut s [58, 58] = (s, [], false) := by
 rw [Lib.cut, idx_gap, h]
 rfl
theorem cut_gap_some (s : List UInt8) (k : Nat) (h : gapV s = some k) : Lib.cut s [58, 58] = (s.take k, s.drop (k + 2), true) := by
 rw [Lib.cut, idx_gap, h]
 simp [gapI]
def numF {α : Type} : Nat → List α → List (Nat × α)
 | _, [] => []
 | i, x :: r => (i, x) :: numF (i + 1) r
theorem numF_len {α : Type} (i : Nat) (l : List α) : (numF i l).length = l.length := by
 induction l generalizing i with
 | nil => rfl
 | cons x r ih => rw [numF, List.length_cons, List.length_cons, ih]
theorem numF_snd {α : Type} (i : Nat) (l : List α) : (numF i l).map (·.2) = l := by
 induction l generalizing i with
 | nil => rfl
 | cons x r ih => rw [numF, List.map_cons, ih]
theorem numF_at {α : Type} (i : Nat) (l : List α) (j : Nat) (h : j < l.length) : (numF i l)[j]? = some (i + j, l[j]) := by
 induction l generalizing i j with
 | nil => simp at h
 | cons x r ih =>
  cases j with
  | zero => rfl
  | succ j =>
   rw [numF, List.getElem?_cons_succ, ih (i + 1) j (by simpa using h)]
   simp
   omega
theorem cell_same {w w' : World} (a : Addr) (h : w'.heap[a.block]? = w.heap[a.block]?) : w'.cell? a = w.cell? a := by unfold World.cell?; rw [h]
def TabA (w : World) : Prop := ∃ m, w.cell? ⟨6, 0, none⟩ = some (.int .i64 m)
theorem TabA.len {w : World} (T : TabA w) : ∃ m, w.cell? ⟨6, 0, none⟩ = some (.int .i64 m) := T
theorem TabA.size {w : World} (T : TabA w) : 6 < w.heap.size := by
 obtain ⟨m, this⟩ := T
 by_cases h : 6 < w.heap.size
 ·exact h
 ·unfold World.cell? at this
  rw [Array.getElem?_eq_none (by simpa using h)] at this
  simp at this
theorem TabA.blocks {w w' : World} (T : TabA w) (h : ∀ k, k ≤ 6 → w'.heap[k]? = w.heap[k]?) : TabA w' := by
 obtain ⟨m, hm⟩ := T
 exact ⟨m, by rw [cell_same ⟨6, 0, none⟩ (h 6 (Nat.le_refl _))]; exact hm⟩
theorem TabA.grown {w w' : World} (T : TabA w) (G : w.grownBy w' none) : TabA w' := T.blocks (fun k hk => G.block k (by have := T.size; omega) (by simp))
theorem TabA.below {w w' : World} {B : Nat} (T : TabA w) (hB : 6 < B) (h : Below B w w') : TabA w' := T.blocks (fun k hk => h.block k (by omega))
def Ap (B : Nat) (w w' : World) : Prop := Below B w w' ∧ Lib.OthersKept 5 none w w'
theorem Ap.refl (B : Nat) (w : World) : Ap B w w := ⟨Below.refl _ _, Lib.OthersKept.refl _ _ _⟩
theorem Ap.trans {B : Nat} {a b c : World} (h : Ap B a b) (k : Ap B b c) : Ap B a c := ⟨h.1.trans k.1, h.2.trans k.2⟩
theorem Ap.heap {B : Nat} {w w' : World} (h : Ap B w w') {b : Nat} {cs : Array Value} {e : TypeId} {fz : Nat × Nat} (hb : w.heap[b]? = some (.cells cs e fz)) (he : e ≠ 5) : w'.heap[b]? = some (.cells cs e fz) :=
 h.2 b _ hb (by simp) (fun c f hc => he (by injection hc))
theorem Ap.size {B : Nat} {w w' : World} (h : Ap B w w') : w.heap.size ≤ w'.heap.size := h.1.size
theorem cut1_any (b : UInt8) (s : List UInt8) (w : World) (hs : s.length < 4294967281) (T : TabA w) :
  Calls Tryz.prog 129 #[str s, .string ⟨#[b]⟩] w fun e w' => (∃ x y m, e = .returned (.tuple #[str x, str y, .bool m]) ∧ ((m = false ∧ x = s ∧ y = [] ∧ splitV b s = [s]) ∨ (m = true ∧ splitV b s = x :: splitV b y ∧ x.length + y.length + 1 = s.length))) ∧ ∃ n, w' = w.drewN n := by
 obtain ⟨m, hm⟩ := T.len
 refine (Tryz.strings_Cut ⟨s.toArray⟩ ⟨#[b]⟩ m w (by rw [← sl_len]; exact hs) hm).mono ?_
 rintro e w' ⟨rfl, n, rfl⟩
 refine ⟨?_, n, rfl⟩
 show ∃ x y m, Ending.returned (.tuple #[str (Lib.cut s [b]).1, str (Lib.cut s [b]).2.1, .bool (Lib.cut s [b]).2.2]) = _ ∧ _
 rcases cut_one b s with ⟨h1, h2⟩ | ⟨x, y, h1, h2, h3⟩
 ·rw [h1]
  exact ⟨s, [], false, rfl, .inl ⟨rfl, rfl, rfl, h2⟩⟩
 ·rw [h1]
  exact ⟨x, y, true, rfl, .inr ⟨rfl, h2, h3⟩⟩
theorem cut2_any (s : List UInt8) (w : World) (hs : s.length < 4294967281) (T : TabA w) :
  Calls Tryz.prog 129 #[str s, .string ⟨#[58, 58]⟩] w fun e w' => (∃ x y m, e = .returned (.tuple #[str x, str y, .bool m]) ∧ ((m = false ∧ gapV s = none ∧ x = s ∧ y = []) ∨ (m = true ∧ ∃ k, gapV s = some k ∧ x = s.take k ∧ y = s.drop (k + 2)))) ∧ ∃ n, w' = w.drewN n := by
 obtain ⟨m, hm⟩ := T.len
 refine (Tryz.strings_Cut ⟨s.toArray⟩ ⟨#[58, 58]⟩ m w (by rw [← sl_len]; exact hs) hm).mono ?_
 rintro e w' ⟨rfl, n, rfl⟩
 refine ⟨?_, n, rfl⟩
 show ∃ x y m, Ending.returned (.tuple #[str (Lib.cut s [58, 58]).1, str (Lib.cut s [58, 58]).2.1, .bool (Lib.cut s [58, 58]).2.2]) = _ ∧ _
 cases hg : gapV s with
 | none =>
  rw [cut_gap_none s hg]
  exact ⟨s, [], false, rfl, .inl ⟨rfl, rfl, rfl, rfl⟩⟩
 | some k =>
  rw [cut_gap_some s k hg]
  exact ⟨_, _, true, rfl, .inr ⟨rfl, k, rfl, rfl, rfl⟩⟩
structure PC where
 w0 : World
 g : Nat
 tv : Value
 all : List Tk
def foot (g : Nat) (vt vp : Value) (x : Nat) : Prop := x = g ∨ vt.ownBlock = some x ∨ vp.ownBlock = some x
def plc (p : Nd × Nat) : Int := (p.2 : Int)
structure PS (c : PC) (w : World) (i : Nat) (vt vp : Value) (ts : List Tk) (nest bud : Nat) (ns : List (Nd × Nat)) : Prop where
 tab : TabA c.w0
 grown : c.w0.grownBy w none
 blk : VAt w c.g 51 #[c.tv, .int .i64 (i : Int), .int .i64 (nest : Int), vt, vp]
 new : c.w0.heap.size ≤ c.g
 toks : TOwns w c.w0.heap.size c.tv c.all
 drop : c.all.drop i = ts
 good : TksG ts
 len : c.all.length ≤ 65537
 nest_le : nest ≤ 200
 bud_le : ns.length + ts.length + bud ≤ 65537
 tree : NOwns w c.w0.heap.size vt (ns.map Prod.fst)
 places : ZOwns w c.w0.heap.size vp (ns.map plc)

section
variable {c : PC} {w w' : World} {i nest bud : Nat} {vt vp : Value} {ts : List Tk} {ns : List (Nd × Nat)}
theorem PS.lt (h : PS c w i vt vp ts nest bud ns) {x : Nat} (hx : foot c.g vt vp x) : x < w.heap.size := by
 rcases hx with rfl | hx | hx
 ·exact h.blk.lt
 ·exact (h.tree.lt x hx).2
 ·exact (h.places.lt x hx).2
theorem PS.ge (h : PS c w i vt vp ts nest bud ns) {x : Nat} (hx : foot c.g vt vp x) : c.w0.heap.size ≤ x := by
 rcases hx with rfl | hx | hx
 ·exact h.new
 ·exact (h.tree.lt x hx).1
 ·exact (h.places.lt x hx).1
theorem PS.ne_tree (h : PS c w i vt vp ts nest bud ns) : ¬ vt.ownBlock = some c.g := own_vat h.tree h.blk (by decide)
theorem PS.ne_places (h : PS c w i vt vp ts nest bud ns) : ¬ vp.ownBlock = some c.g := own_vat h.places h.blk (by decide)
theorem PS.keep (h : PS c w i vt vp ts nest bud ns) (G : w.grownBy w' none) : PS c w' i vt vp ts nest bud ns :=
 { h with grown := grown_trans h.grown G, blk := h.blk.kept G, toks := owns_keptNone h.toks G, tree := owns_keptNone h.tree G, places := owns_keptNone h.places G }
theorem PS.less (h : PS c w i vt vp ts nest bud ns) {b : Nat} (hb : b ≤ bud) : PS c w i vt vp ts nest b ns := { h with bud_le := by have := h.bud_le; omega }
theorem PS.tabw (h : PS c w i vt vp ts nest bud ns) : TabA w := h.tab.grown h.grown
theorem PS.gb (h : PS c w i vt vp ts nest bud ns) (G : GB w w' (foot c.g vt vp)) : c.w0.grownBy w' none :=
 ⟨G.os.trans h.grown.os, G.tape.trans h.grown.tape, G.output.trans h.grown.output, Nat.le_trans h.grown.size G.size, fun k hk _ =>
  (G.block k (Nat.lt_of_lt_of_le hk h.grown.size) (fun hf => by have := h.ge hf; omega)).trans (h.grown.block k hk (by simp))⟩
theorem PS.idx (h : PS c w i vt vp ts nest bud ns) : ∃ hi : i < c.all.length, c.all[i] = hdT ts ∧ c.all.drop (i + 1) = ts.tail := by
 have hne := h.good.ne
 have hd := h.drop
 have hi : i < c.all.length := by
  by_cases hh : i < c.all.length
  ·exact hh
  ·rw [List.drop_eq_nil_of_le (by omega)] at hd
   exact absurd hd.symm hne
 rw [List.drop_eq_getElem_cons hi] at hd
 refine ⟨hi, ?_, ?_⟩
 ·rw [← hd]; rfl
 ·rw [← hd]; rfl
theorem setCell_ne (W : World) (g j k : Nat) (v : Value) (h : k ≠ g) : (W.setCell ⟨g, j, none⟩ v).heap[k]? = W.heap[k]? := Below.heap_setCell _ _ _ _ h
theorem grown_set (W : World) (g j : Nat) (v : Value) : W.grownBy (W.setCell ⟨g, j, none⟩ v) (some g) := grown_setCell (World.grownBy.refl W (some g)) _ _ (.inl rfl)
theorem PS.store (h : PS c w i vt vp ts nest bud ns) (j : Nat) (v : Value) {i' nest' : Nat} {ts' : List Tk} {bud' : Nat} (hc : (#[c.tv, .int .i64 (i : Int), .int .i64 (nest : Int), vt, vp] : Array Value).setIfInBounds j v = #[c.tv, .int .i64 (i' : Int), .int .i64 (nest' : Int), vt, vp])
  (h1 : c.all.drop i' = ts') (h2 : TksG ts') (h3 : nest' ≤ 200) (h4 : ns.length + ts'.length + bud' ≤ 65537) : PS c (w.setCell ⟨c.g, j, none⟩ v) i' vt vp ts' nest' bud' ns := by
 have G := grown_set w c.g j v
 exact { h with
  grown := grown_trans_new h.grown G (fun x hx => by cases hx; exact h.new)
  blk := by have := h.blk.set j v; rw [hc] at this; exact this
  toks := own_kept h.toks G (own_vat h.toks h.blk (by decide))
  drop := h1, good := h2, nest_le := h3, bud_le := h4
  tree := own_kept h.tree G h.ne_tree
  places := own_kept h.places G h.ne_places }
def Ret (c : PC) (w : World) (vt vp : Value) (ts' : List Tk) (nest' bud' : Nat) (ns' : List (Nd × Nat)) (w' : World) : Prop :=
 ∃ i' vt' vp', PS c w' i' vt' vp' ts' nest' bud' ns' ∧ GB w w' (foot c.g vt vp) ∧ ∀ x, x < w.heap.size → foot c.g vt' vp' x → foot c.g vt vp x
theorem Ret.same (h : PS c w' i vt vp ts nest bud ns) (G : GB w w' (foot c.g vt vp)) : Ret c w vt vp ts nest bud ns w' := ⟨i, vt, vp, h, G, fun _ _ k => k⟩
theorem Ret.of {w1 : World} {vt1 vp1 : Value} (G : GB w w1 (foot c.g vt vp)) (hf : ∀ x, x < w.heap.size → foot c.g vt1 vp1 x → foot c.g vt vp x) (R : Ret c w1 vt1 vp1 ts nest bud ns w') : Ret c w vt vp ts nest bud ns w' := by
 obtain ⟨i', vt', vp', h, G', hf'⟩ := R
 exact ⟨i', vt', vp', h, G.trans G' hf, fun x hx k => hf x hx (hf' x (Nat.lt_of_lt_of_le hx G.size) k)⟩
theorem Ret.less (R : Ret c w vt vp ts nest bud ns w') {b : Nat} (hb : b ≤ bud) : Ret c w vt vp ts nest b ns w' := by
 obtain ⟨i', vt', vp', h, r⟩ := R
 exact ⟨i', vt', vp', h.less hb, r⟩
theorem PS.take (h : PS c w i vt vp ts nest bud ns) (hk : (hdT ts).kind ≠ 0) : PS c (w.setCell ⟨c.g, 1, none⟩ (.int .i64 ((i + 1 : Nat) : Int))) (i + 1) vt vp ts.tail nest (bud + 1) ns := by
 obtain ⟨hi, h1, h2⟩ := h.idx
 refine h.store 1 _ rfl h2 (h.good.tail hk) h.nest_le ?_
 have := h.bud_le
 have := List.length_pos_iff.2 h.good.ne
 rw [List.length_tail]
 omega
theorem PS.away {R : Nat} (h : PS c w i vt vp ts nest bud ns) (K : w.grownBy w' (some R)) (hf : ¬ foot c.g vt vp R) (ht : ¬ c.tv.ownBlock = some R) (h0 : c.w0.heap.size ≤ R) : PS c w' i vt vp ts nest bud ns :=
 { h with
  grown := grown_trans_new h.grown K (fun x hx => by cases hx; exact h0)
  blk := h.blk.grown K (fun e => by cases e; exact hf (.inl rfl))
  toks := own_kept h.toks K ht
  tree := own_kept h.tree K (fun e => hf (.inr (.inl e)))
  places := own_kept h.places K (fun e => hf (.inr (.inr e))) }
theorem PS.toks_lt (h : PS c w i vt vp ts nest bud ns) {x : Nat} (hx : c.tv.ownBlock = some x) : x < w.heap.size := (h.toks.lt x hx).2
theorem Ret.fin {W W' : World} {R i0 nest0 bud0 i1 : Nat} {ts0 : List Tk} {ns0 : List (Nd × Nat)} {vt1 vp1 : Value} (h0 : PS c w i0 vt vp ts0 nest0 bud0 ns0) (G : GB w W (foot c.g vt vp)) (hf : ∀ x, x < w.heap.size → foot c.g vt1 vp1 x → foot c.g vt vp x) (P : PS c W i1 vt1 vp1 ts nest bud ns) (K : W.grownBy W' (some R)) (hR : w.heap.size ≤ R) (hfR : ¬ foot c.g vt1 vp1 R) : Ret c w vt vp ts nest bud ns W' := by
 refine ⟨i1, vt1, vp1, P.away K hfR (fun e => by have := h0.toks_lt e; omega) (Nat.le_trans h0.grown.size hR), G.trans (GB.of K (S := fun x => x = R) (fun x hx => by cases hx; rfl)) (fun x hx e => by omega), hf⟩
theorem PS.awayG {S : Nat → Prop} (h : PS c w i vt vp ts nest bud ns) (K : GB w w' S) (hS : ∀ x, S x → ¬ foot c.g vt vp x ∧ ¬ c.tv.ownBlock = some x ∧ c.w0.heap.size ≤ x) : PS c w' i vt vp ts nest bud ns :=
 { h with
  grown := ⟨K.os.trans h.grown.os, K.tape.trans h.grown.tape, K.output.trans h.grown.output, Nat.le_trans h.grown.size K.size, fun k hk _ => (K.block k (Nat.lt_of_lt_of_le hk h.grown.size) (fun hs => by have := (hS k hs).2.2; omega)).trans (h.grown.block k hk (by simp))⟩
  blk := K.vat h.blk (fun hs => (hS _ hs).1 (.inl rfl))
  toks := K.owns h.toks (fun x hx hs => (hS x hs).2.1 hx)
  tree := K.owns h.tree (fun x hx hs => (hS x hs).1 (.inr (.inl hx)))
  places := K.owns h.places (fun x hx hs => (hS x hs).1 (.inr (.inr hx))) }
theorem Ret.finG {S : Nat → Prop} {W W' : World} {i0 nest0 bud0 i1 : Nat} {ts0 : List Tk} {ns0 : List (Nd × Nat)} {vt1 vp1 : Value} (h0 : PS c w i0 vt vp ts0 nest0 bud0 ns0) (G : GB w W (foot c.g vt vp)) (hf : ∀ x, x < w.heap.size → foot c.g vt1 vp1 x → foot c.g vt vp x) (P : PS c W i1 vt1 vp1 ts nest bud ns) (K : GB W W' S) (hS : ∀ x, S x → w.heap.size ≤ x ∧ ¬ foot c.g vt1 vp1 x) : Ret c w vt vp ts nest bud ns W' :=
 ⟨i1, vt1, vp1, P.awayG K (fun x hx => ⟨(hS x hx).2, fun e => by have := (h0.toks.lt x e).2; have := (hS x hx).1; omega, Nat.le_trans h0.grown.size (hS x hx).1⟩), G.trans K (fun x hx hs => by have := (hS x hs).1; omega), hf⟩
theorem PS.not_foot (h : PS c w i vt vp ts nest bud ns) {R : Nat} (hR : w.heap.size ≤ R) : ¬ foot c.g vt vp R := fun e => by have := h.lt e; omega
theorem GB.set (W : World) (vt vp : Value) (g j : Nat) (v : Value) : GB W (W.setCell ⟨g, j, none⟩ v) (foot g vt vp) := GB.of (grown_set W g j v) (fun x hx => by cases hx; exact .inl rfl)
end
structure HS (c : PC) (w : World) (i : Nat) (vt vp : Value) (nest : Nat) (xs : List Nd) (zs : List Int) : Prop where
 grown : c.w0.grownBy w none
 blk : VAt w c.g 51 #[c.tv, .int .i64 (i : Int), .int .i64 (nest : Int), vt, vp]
 new : c.w0.heap.size ≤ c.g
 toks : TOwns w c.w0.heap.size c.tv c.all
 tree : NOwns w c.w0.heap.size vt xs
 places : ZOwns w c.w0.heap.size vp zs
section
variable {c : PC} {w w' : World} {i nest bud : Nat} {vt vp : Value} {ts : List Tk} {ns : List (Nd × Nat)} {xs : List Nd} {zs : List Int}
theorem PS.hs (h : PS c w i vt vp ts nest bud ns) : HS c w i vt vp nest (ns.map Prod.fst) (ns.map plc) := ⟨h.grown, h.blk, h.new, h.toks, h.tree, h.places⟩
theorem HS.keep (h : HS c w i vt vp nest xs zs) (G : w.grownBy w' none) : HS c w' i vt vp nest xs zs := ⟨grown_trans h.grown G, h.blk.kept G, h.new, owns_keptNone h.toks G, owns_keptNone h.tree G, owns_keptNone h.places G⟩
theorem own_kept' {w w' : World} {base e size n base' e' size' n' : Nat} {v v' : Value} {vs vs' : List Value} (h : w.ownsRow base e size v n vs) (O : w.ownsRow base' e' size' v' n' vs') (he : e ≠ e') (K : w.grownBy w' v'.ownBlock) : w'.ownsRow base e size v n vs := by
 refine h.kept K ?_
 by_cases hv : v.ownBlock = none
 ·exact .inl hv
 ·right
  intro e
  obtain ⟨x, hx⟩ := Option.ne_none_iff_exists'.1 hv
  exact own_other h O he hx (e ▸ hx)
theorem blk_kept' {w w' : World} {base e size n g t : Nat} {v : Value} {vs : List Value} {cs : Array Value} (A : VAt w g t cs) (O : w.ownsRow base e size v n vs) (he : e ≠ t) (K : w.grownBy w' v.ownBlock) : VAt w' g t cs := A.grown K (own_vat O A he)
theorem HS.put_tree (h : HS c w i vt vp nest xs zs) {x : Nd} {v4 : Value} {w4 : World} (O : w4.ownsRow c.w0.heap.size 28 24 v4 (xs.length + 1) (flatN xs ++ x.cells)) (K : w.grownBy w4 vt.ownBlock) (B : v4.ownBlock = vt.ownBlock ∨ v4.ownBlock = some w.heap.size) :
  HS c (w4.setCell ⟨c.g, 3, none⟩ v4) i v4 vp nest (xs ++ [x]) zs ∧ GB w (w4.setCell ⟨c.g, 3, none⟩ v4) (foot c.g vt vp) ∧ ∀ y, y < w.heap.size → foot c.g v4 vp y → foot c.g vt vp y := by
 have A := blk_kept' h.blk h.tree (by decide) K
 have T := own_kept' h.toks h.tree (by decide) K
 have P := own_kept' h.places h.tree (by decide) K
 have G := grown_set w4 c.g 3 v4
 have g4 : c.w0.grownBy w4 none := grown_trans_new h.grown K (fun y hy => (h.tree.lt y hy).1)
 refine ⟨⟨grown_trans_new g4 G (fun y hy => by cases hy; exact h.new), A.set 3 v4, h.new, own_kept T G (own_vat T A (by decide)), ?_, own_kept P G (own_vat P A (by decide))⟩, ?_, ?_⟩
 ·have := own_kept O G (own_vat O A (by decide))
  show World.ownsRow _ _ _ _ _ _ _
  rw [List.length_append, flatN_append, flatN_one1]
  exact this
 ·exact (GB.of K (S := foot c.g vt vp) (fun y hy => .inr (.inl hy))).trans (GB.set w4 vt vp c.g 3 v4) (fun _ _ h => h)
 ·rintro y hy (rfl | e | e)
  ·exact .inl rfl
  ·rcases B with B | B
   ·exact .inr (.inl (B ▸ e))
   ·rw [B] at e
    cases e
    omega
  ·exact .inr (.inr e)
theorem HS.put_places (h : HS c w i vt vp nest xs zs) {z : Int} {v4 : Value} {w4 : World} (O : w4.ownsRow c.w0.heap.size 3 1 v4 (zs.length + 1) (zs.map iv ++ [.int .i64 z])) (K : w.grownBy w4 vp.ownBlock) (B : v4.ownBlock = vp.ownBlock ∨ v4.ownBlock = some w.heap.size) :
  HS c (w4.setCell ⟨c.g, 4, none⟩ v4) i vt v4 nest xs (zs ++ [z]) ∧ GB w (w4.setCell ⟨c.g, 4, none⟩ v4) (foot c.g vt vp) ∧ ∀ y, y < w.heap.size → foot c.g vt v4 y → foot c.g vt vp y := by
 have A := blk_kept' h.blk h.places (by decide) K
 have T := own_kept' h.toks h.places (by decide) K
 have P := own_kept' h.tree h.places (by decide) K
 have G := grown_set w4 c.g 4 v4
 have g4 : c.w0.grownBy w4 none := grown_trans_new h.grown K (fun y hy => (h.places.lt y hy).1)
 refine ⟨⟨grown_trans_new g4 G (fun y hy => by cases hy; exact h.new), A.set 4 v4, h.new, own_kept T G (own_vat T A (by decide)), own_kept P G (own_vat P A (by decide)), ?_⟩, ?_, ?_⟩
 ·have := own_kept O G (own_vat O A (by decide))
  show World.ownsRow _ _ _ _ _ _ _
  rw [List.length_append, List.map_append]
  exact this
 ·exact (GB.of K (S := foot c.g vt vp) (fun y hy => .inr (.inr hy))).trans (GB.set w4 vt vp c.g 4 v4) (fun _ _ h => h)
 ·rintro y hy (rfl | e | e)
  ·exact .inl rfl
  ·exact .inr (.inl e)
  ·rcases B with B | B
   ·exact .inr (.inr (B ▸ e))
   ·rw [B] at e
    cases e
    omega
theorem PS.of_hs {bud' : Nat} {ns' : List (Nd × Nat)} {w1 : World} {vt1 vp1 : Value} (h0 : PS c w i vt vp ts nest bud ns) (h : HS c w1 i vt1 vp1 nest (ns'.map Prod.fst) (ns'.map plc)) (hb : ns'.length + ts.length + bud' ≤ 65537) : PS c w1 i vt1 vp1 ts nest bud' ns' :=
 { h0 with grown := h.grown, blk := h.blk, new := h.new, toks := h.toks, tree := h.tree, places := h.places, bud_le := hb }
end
def PanS (er : Er) : List PanicEntry := [{ v := .iface 46 (.agg #[.int .i64 (er.1 : Int), .int .i64 er.2]), recovered := false }]
def RunP (c : PC) (w : World) (vt vp : Value) (nest bud : Nat) (ns : List (Nd × Nat)) (r : Out) (e : Ending) (w' : World) : Prop := match r with
 | .ok (ms, ts') => e = .returned (.tuple #[]) ∧ Ret c w vt vp ts' nest bud (ns ++ ms) w'
 | .error er => e = .panicked (PanS er) ∧ GB w w' (foot c.g vt vp)
def TellP {α : Type} (c : PC) (w : World) (vt vp : Value) (nest bud : Nat) (ns : List (Nd × Nat)) (val : α → Value) (r : Except Er (α × List Tk)) (e : Ending) (w' : World) : Prop := match r with
 | .ok (v, ts') => e = .returned (val v) ∧ Ret c w vt vp ts' nest bud ns w'
 | .error er => e = .panicked (PanS er) ∧ GB w w' (foot c.g vt vp)

end Go.Proofs.YtghbbephhoniaaaGreatDoor
