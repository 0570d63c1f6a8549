/-
  What the statements of stage 10 share. What the landed reader may ask of tokens. No Go text here. The document's own Split, group, groups, gap.
-/
import Derived.Test.YtbdmpjnlgdahmabGreatDoorLotP18
import Derived.Test.YtbdmpjnlgdahmabGreatDoorLotP7
import Derived.Test.YtbdmpjnlgdahmabGreatDoorAddrV
import Derived.Test.YtbdmpjnlgdahmabGreatDoorLotP3
namespace Go.Proofs.YtbdmpjnlgdahmabGreatDoor
open Go.RowKit
set_option maxRecDepth 100000

/-- No more tokens than bytes, and the end. -/
theorem lexR_few : ∀ (k p : Nat) (s : List UInt8) (ts : List Tk), s.length ≤ k → lexR p s = .ok ts → ts.length ≤ s.length + 1
  | k, p, [], ts, _, h => by
    rw [lexR_nil] at h
    cases h
    simp
  | 0, p, c :: r, ts, hk, h => by simp at hk
  | k + 1, p, c :: r, ts, hk, h => by
    simp only [List.length_cons] at hk
    cases hb : blankB c with
    | true =>
      rw [lexR_blank p r hb] at h
      have := lexR_few k (p + 1) r ts (by omega) h
      simp only [List.length_cons]
      omega
    | false =>
      cases ht : tokV (c :: r) with
      | error e => rw [lexR_err p hb ht] at h; cases h
      | ok x =>
        obtain ⟨q, t, n⟩ := x
        rw [lexR_tok p hb ht] at h
        have hl := List.length_pos_iff.2 (tok_ok ht).1
        have hle := (tok_ok ht).2.2.1
        split at h
        · cases h
        · rename_i ts' h'
          cases h
          have := lexR_few k (p + t.length) ((c :: r).drop t.length) ts' (by rw [List.length_drop, List.length_cons]; omega) h'
          rw [List.length_drop] at this
          simp only [List.length_cons] at *
          omega
theorem lexV_few (s : List UInt8) : (lexT (lexV s)).length ≤ 65537 := by
  unfold lexV
  split
  · simp [lexT]
  · cases h : lexR 0 s with
    | error e => simp [lexT]
    | ok ts =>
      have := lexR_few _ 0 s ts (Nat.le_refl _) h
      show ts.length ≤ 65537
      omega
theorem TOwns.items {w : World} {base : Nat} {v : Value} {xs : List Tk} (h : TOwns w base v xs) : ∃ ao ca, v = .slice ao xs.length ca ∧ CV w ao (flatT xs) ∧ xs.length ≤ ca ∧ (ao = none → ca = 0) := by
  obtain ⟨ao, cap, hv, C, h1, -, h2, -⟩ := cv_of_row h
  exact ⟨ao, cap, hv, C, h1, h2⟩

/-- No token begins with a blank. -/
theorem tok_head {c : UInt8} {r : List UInt8} {x : Nat × List UInt8 × Nat} (h : tokV (c :: r) = .ok x) : blankB c = false := by
  cases hb : blankB c with
  | false => rfl
  | true =>
    obtain ⟨h1, h2, h3, h4, h5, h6⟩ := blank_not hb
    exfalso
    have hs : signV (c :: r) = [] := by
      unfold signV
      have h2' : ¬ ((c :: r).take 2 ∈ twosL) := by
        unfold blankB at hb
        simp only [Bool.or_eq_true, beq_iff_eq] at hb
        cases r with
        | nil => simp [twosL]
        | cons d r =>
          show ¬ ([c, d] ∈ twosL)
          simp only [twosL, List.mem_cons, List.not_mem_nil, or_false, List.cons.injEq, and_true]
          rcases hb with ((rfl | rfl) | rfl) | rfl <;> simp
      rw [if_neg h2', if_neg (by show ¬ onesL.contains c = true; rw [h6]; simp)]
    unfold tokV at h
    rw [List.takeWhile_cons_of_neg (by rw [h1]; simp), if_neg (by simp), if_neg (by show ¬ isDig c = true; rw [h4]; simp), if_neg (by show ¬ letB c = true; rw [h5]; simp), if_pos hs] at h
    cases h
/-- A token's text by itself, as a source. -/
theorem lex_alone {t : List UInt8} {q n : Nat} (h : tokV t = .ok (q, t, n)) (hl : t.length ≤ 65536) : lexV t = .ok [⟨q, 0, t, n⟩, ⟨0, t.length, [], 0⟩] := by
  unfold lexV
  rw [if_neg (by omega)]
  cases t with
  | nil => exact absurd rfl (tok_ok h).1
  | cons c r =>
    rw [lexR_tok 0 (tok_head h) h, List.drop_length, lexR_nil, Nat.zero_add]
theorem lexR_text : ∀ (k p : Nat) (s : List UInt8) (ts : List Tk), s.length ≤ k → lexR p s = .ok ts → ∀ t ∈ ts, t.text.length ≤ s.length ∧ t.pos ≤ p + s.length ∧ t.kind ≤ 5 ∧ t.num ≤ 4294967295
  | k, p, [], ts, _, h, t, ht => by
    rw [lexR_nil] at h
    cases h
    simp only [List.mem_singleton] at ht
    subst ht
    simp
  | 0, p, c :: r, ts, hk, h, t, ht => by simp at hk
  | k + 1, p, c :: r, ts, hk, h, t, ht => by
    simp only [List.length_cons] at hk
    cases hb : blankB c with
    | true =>
      rw [lexR_blank p r hb] at h
      have := lexR_text k (p + 1) r ts (by omega) h t ht
      simp only [List.length_cons]
      omega
    | false =>
      cases hx : tokV (c :: r) with
      | error e => rw [lexR_err p hb hx] at h; cases h
      | ok x =>
        obtain ⟨q, u, n⟩ := x
        rw [lexR_tok p hb hx] at h
        have hok := tok_ok hx
        have hl := List.length_pos_iff.2 hok.1
        have hle := hok.2.2.1
        split at h
        · cases h
        · rename_i ts' h'
          cases h
          rcases List.mem_cons.1 ht with rfl | ht
          · exact ⟨hle, by simp only; omega, by simp only; omega, hok.2.2.2.2.2⟩
          · have := lexR_text k (p + u.length) ((c :: r).drop u.length) ts' (by rw [List.length_drop, List.length_cons]; omega) h' t ht
            rw [List.length_drop] at this
            simp only [List.length_cons] at *
            omega
/-- What a source's tokens are. -/
theorem lexV_toks {s : List UInt8} {ts : List Tk} (h : lexV s = .ok ts) : s.length ≤ 65536 ∧ ∃ us, ts = us ++ [⟨0, s.length, [], 0⟩] ∧ us.length ≤ 65536 ∧ ∀ t ∈ us, t.text ≠ [] ∧ tokV t.text = .ok (t.kind, t.text, t.num) ∧ t.text.length ≤ 65536 ∧ t.pos ≤ 65536 ∧ t.kind ≤ 5 ∧ t.num ≤ 4294967295 := by
  unfold lexV at h
  split at h
  · cases h
  · rename_i hl
    obtain ⟨us, e, hu⟩ := lexR_end _ 0 s ts (Nat.le_refl _) h
    have hf := lexR_few _ 0 s ts (Nat.le_refl _) h
    have ht := lexR_text _ 0 s ts (Nat.le_refl _) h
    rw [Nat.zero_add] at e
    refine ⟨by omega, us, e, ?_, fun t hm => ?_⟩
    · rw [e, List.length_append, List.length_singleton] at hf
      omega
    · obtain ⟨a, b⟩ := hu t hm
      obtain ⟨c, d, e', f⟩ := ht t (by rw [e]; exact List.mem_append_left _ hm)
      exact ⟨a, b, by omega, by omega, e', f⟩
theorem lexE_err {s : List UInt8} {x : Nat × Int} (h : lexV s = .error x) : (x.2 != 0) = true := by
  unfold lexV at h
  split at h
  · cases h; rfl
  · exact go _ 0 s (Nat.le_refl _) x h
where
  go : ∀ (k p : Nat) (s : List UInt8), s.length ≤ k → ∀ x, lexR p s = .error x → (x.2 != 0) = true
    | k, p, [], _, x, h => by rw [lexR_nil] at h; cases h
    | 0, p, c :: r, hk, x, h => by simp at hk
    | k + 1, p, c :: r, hk, x, h => by
      simp only [List.length_cons] at hk
      cases hb : blankB c with
      | true =>
        rw [lexR_blank p r hb] at h
        exact go k (p + 1) r (by omega) x h
      | false =>
        cases hx : tokV (c :: r) with
        | error e =>
          rw [lexR_err p hb hx] at h
          cases h
          exact tok_er hx
        | ok y =>
          obtain ⟨q, u, n⟩ := y
          rw [lexR_tok p hb hx] at h
          have hl := List.length_pos_iff.2 (tok_ok hx).1
          split at h
          · rename_i e h'
            cases h
            exact go k (p + u.length) ((c :: r).drop u.length) (by rw [List.length_drop, List.length_cons]; omega) _ h'
          · cases h

end Go.Proofs.YtbdmpjnlgdahmabGreatDoor

namespace Go.Proofs.YtbdmpjnlgdahmabGreatDoor
open Go.RowKit
set_option maxRecDepth 100000

/-- A token as lex makes them. -/
def TkG (t : Tk) : Prop := ((t.kind = 0 ∧ t.text = []) ∨ tokV t.text = .ok (t.kind, t.text, t.num)) ∧ t.text.length ≤ 65536 ∧ t.pos ≤ 65536 ∧ t.num ≤ 4294967295 ∧ t.kind ≤ 5
/-- A sign or a word that may be asked for. -/
def Asked (x : List UInt8) : Prop := x ≠ [] ∧ ∃ q, (q = 5 ∨ q = 2) ∧ tokV x = .ok (q, x, 0)
def TksG (ts : List Tk) : Prop := EndsOk ts ∧ ∀ t ∈ ts, TkG t
theorem TksG.hd {ts : List Tk} (h : TksG ts) : TkG (hdT ts) := h.2 _ h.1.mem
theorem TksG.tail {ts : List Tk} (h : TksG ts) (hk : (hdT ts).kind ≠ 0) : TksG ts.tail := ⟨h.1.tail hk, fun t ht => h.2 t (List.mem_of_mem_tail ht)⟩
theorem TksG.ne {ts : List Tk} (h : TksG ts) : ts ≠ [] := fun e => by
  obtain ⟨us, x, hx, -⟩ := h.1
  rw [e] at hx
  cases us <;> cases hx
theorem lexV_good {s : List UInt8} {ts : List Tk} (h : lexV s = .ok ts) : TksG ts ∧ ts.length ≤ 65537 := by
  obtain ⟨hl, us, rfl, hu, ht⟩ := lexV_toks h
  have hk : ∀ t ∈ us, t.kind ≠ 0 := fun t hm => by
    have := (tok_ok (ht t hm).2.1).2.2.2.1
    omega
  refine ⟨⟨⟨us, _, rfl, rfl, hk⟩, fun t hm => ?_⟩, by rw [List.length_append, List.length_singleton]; omega⟩
  rcases List.mem_append.1 hm with hm | hm
  · obtain ⟨-, h2, h3, h4, h5, h6⟩ := ht t hm
    exact ⟨.inr h2, h3, h4, h6, h5⟩
  · rw [List.mem_singleton] at hm
    subst hm
    exact ⟨.inl ⟨rfl, rfl⟩, by simp, hl, by simp, by simp⟩
/-- A text alone tells whether a sign or word stands there. -/
theorem asked_is {ts : List Tk} {x : List UInt8} (h : TkG (hdT ts)) (hx : Asked x) : isB ts x = decide ((hdT ts).text = x) := by
  unfold isB
  by_cases e : (hdT ts).text = x
  · rw [decide_eq_true e]
    obtain ⟨hne, q, hq, ht⟩ := hx
    rcases h.1 with ⟨-, h0⟩ | h1
    · exact absurd (e.symm.trans h0) hne
    · rw [e, ht] at h1
      have hk : (hdT ts).kind = q := (congrArg Prod.fst (Except.ok.inj h1)).symm
      rw [hk, e]
      rcases hq with rfl | rfl <;> simp
  · rw [decide_eq_false e]
    simp [e]
theorem asked_kind {ts : List Tk} {x : List UInt8} {q : Nat} (h : TkG (hdT ts)) (hne : x ≠ []) (hx : tokV x = .ok (q, x, 0)) (e : (hdT ts).text = x) : (hdT ts).kind = q := by
  rcases h.1 with ⟨-, h0⟩ | h1
  · exact absurd (e.symm.trans h0) hne
  · rw [e, hx] at h1
    exact (congrArg Prod.fst (Except.ok.inj h1)).symm

/-- The texts that begin a part and are no names. -/
def wordsL : List (List UInt8) := [wLen, wInbound, wOutbound, wProto, wSrc, wDst, wHost, wNet, wPort, wPortrange]
theorem tok_words : ∀ x ∈ wordsL, x ≠ [] ∧ tokV x = .ok (2, x, 0) ∧ nameN x = 0 := by
  intro x hx
  simp only [wordsL, List.mem_cons, List.not_mem_nil, or_false] at hx
  rcases hx with rfl | rfl | rfl | rfl | rfl | rfl | rfl | rfl | rfl | rfl <;> exact ⟨by decide, by kernel_rfl, by decide⟩
def namesL : List (List UInt8) := [[112, 112, 112], [105, 112], [105, 112, 54], [116, 99, 112], [117, 100, 112], [105, 99, 109, 112], [105, 99, 109, 112, 54], [108, 99, 112], [112, 97, 112], [99, 104, 97, 112], [105, 112, 99, 112], [105, 112, 54, 99, 112], [109, 112]]
theorem tok_names : ∀ x ∈ namesL, x ≠ [] ∧ tokV x = .ok (2, x, 0) := by
  intro x hx
  simp only [namesL, List.mem_cons, List.not_mem_nil, or_false] at hx
  rcases hx with rfl | rfl | rfl | rfl | rfl | rfl | rfl | rfl | rfl | rfl | rfl | rfl | rfl <;> exact ⟨by decide, by kernel_rfl⟩
theorem name_in {x : List UInt8} (h : nameN x ≠ 0) : x ∈ namesL := by
  unfold nameN at h
  simp only [namesL, List.mem_cons, List.not_mem_nil, or_false]
  by_cases e1 : x = [112, 112, 112]; · simp [e1]
  by_cases e2 : x = [105, 112]; · simp [e2]
  by_cases e3 : x = [105, 112, 54]; · simp [e3]
  by_cases e4 : x = [116, 99, 112]; · simp [e4]
  by_cases e5 : x = [117, 100, 112]; · simp [e5]
  by_cases e6 : x = [105, 99, 109, 112]; · simp [e6]
  by_cases e7 : x = [105, 99, 109, 112, 54]; · simp [e7]
  by_cases e8 : x = [108, 99, 112]; · simp [e8]
  by_cases e9 : x = [112, 97, 112]; · simp [e9]
  by_cases e10 : x = [99, 104, 97, 112]; · simp [e10]
  by_cases e11 : x = [105, 112, 99, 112]; · simp [e11]
  by_cases e12 : x = [105, 112, 54, 99, 112]; · simp [e12]
  by_cases e13 : x = [109, 112]; · simp [e13]
  simp [e1, e2, e3, e4, e5, e6, e7, e8, e9, e10, e11, e12, e13] at h

theorem part_num {rec : Nat → List Tk → Out} {nest : Nat} {ts : List Tk} (h : (hdT ts).kind = 1) : partF rec nest ts = .ok ([({ ndK 1 with n := (hdT ts).num }, (hdT ts).pos)], ts.tail) := by rw [partF, if_pos h]
theorem part_paren {rec : Nat → List Tk → Out} {nest : Nat} {ts : List Tk} (hG : TkG (hdT ts)) (h : (hdT ts).text = [40]) : partF rec nest ts = opnV nest ts (thenE (rec (nest + 1) ts.tail) fun p => thenE (mustV [41] p.2) fun r => .ok (p.1, r)) := by
  have hk : (hdT ts).kind = 5 := asked_kind hG (by decide) (by kernel_rfl) h
  have hb : isB ts [40] = true := by rw [isB, hk, h]; rfl
  rw [partF, if_neg (by omega), if_pos hb]
theorem part_word {rec : Nat → List Tk → Out} {nest : Nat} {ts : List Tk} (hG : TkG (hdT ts)) (h : (hdT ts).text ∈ wordsL) : partF rec nest ts = wordF ts := by
  obtain ⟨h0, h1, h2⟩ := tok_words _ h
  have hk : (hdT ts).kind = 2 := asked_kind hG h0 h1 rfl
  have hb : ¬ isB ts [40] = true := fun e => by
    have := isB_text e
    rw [this] at h
    simp [wordsL, wLen, wInbound, wOutbound, wProto, wSrc, wDst, wHost, wNet, wPort, wPortrange] at h
  rw [partF, if_neg (by omega), if_neg hb, if_neg (by omega), if_neg (by rw [h2]; simp)]
theorem part_name {rec : Nat → List Tk → Out} {nest : Nat} {ts : List Tk} (hG : TkG (hdT ts)) (h : nameN (hdT ts).text ≠ 0) : partF rec nest ts = nameF rec nest (nameN (hdT ts).text) (hdT ts).pos ts.tail ∧ (hdT ts).kind = 2 := by
  obtain ⟨h0, h1⟩ := tok_names _ (name_in h)
  have hk : (hdT ts).kind = 2 := asked_kind hG h0 h1 rfl
  have hb : ¬ isB ts [40] = true := fun e => by
    have := isB_text e
    rw [this] at h
    exact h (by decide)
  refine ⟨?_, hk⟩
  rw [partF, if_neg (by omega), if_neg hb, if_neg (by omega), if_pos h]
theorem part_none {rec : Nat → List Tk → Out} {nest : Nat} {ts : List Tk} (h1 : (hdT ts).kind ≠ 1) (h2 : (hdT ts).text ≠ [40]) (h3 : (hdT ts).text ∉ wordsL) (h4 : nameN (hdT ts).text = 0) : partF rec nest ts = failV ts 111 := by
  have hb : ¬ isB ts [40] = true := fun e => h2 (isB_text e)
  rw [partF, if_neg h1, if_neg hb]
  by_cases hk : (hdT ts).kind ≠ 2
  · rw [if_pos hk]
  · rw [if_neg hk, if_neg (by rw [h4]; simp)]
    simp only [wordsL, List.mem_cons, List.not_mem_nil, or_false, not_or] at h3
    obtain ⟨a, b, c, d, e, f, g, h, i, j⟩ := h3
    rw [wordF, if_neg a, if_neg b, if_neg c, if_neg d, if_neg (by simp [e, f, g, h, i, j])]

end Go.Proofs.YtbdmpjnlgdahmabGreatDoor

namespace Go.Proofs.YtbdmpjnlgdahmabGreatDoor
open Go.RowKit
set_option maxRecDepth 100000

theorem hexFrom_lt (s : List UInt8) (v n : Nat) (h : hexFrom v s = some n) : n < (v + 1) * 16 ^ s.length := by
  induction s generalizing v with
  | nil => simp [hexFrom] at h; subst h; simp
  | cons c r ih =>
    rw [hexFrom] at h
    split at h
    · have h1 := ih _ h
      have h2 := digV_lt c.toNat
      have h3 : (16 * v + digV c.toNat + 1) * 16 ^ r.length ≤ (16 * (v + 1)) * 16 ^ r.length := Nat.mul_le_mul_right _ (by omega)
      rw [List.length_cons, Nat.pow_succ, Nat.mul_comm (16 ^ r.length) 16, ← Nat.mul_assoc, Nat.mul_comm (v + 1) 16]
      omega
    · cases h
theorem group_lt {s : List UInt8} {n : Nat} (h : groupV s = some n) : n < 65536 := by
  unfold groupV at h
  split at h
  · cases h
  · have h1 := hexFrom_lt s 0 n h
    have h2 : 16 ^ s.length ≤ 16 ^ 4 := Nat.pow_le_pow_right (by decide) (by omega)
    omega

/-- Where the first '::' is, from a place on. -/
theorem gapV_two (a : UInt8) (r : List UInt8) : gapV (a :: r) = if a = 58 ∧ r.head? = some 58 then some 0 else (gapV r).map fun k => k + 1 := rfl
def gapI : Option Nat → Int
  | none => -1
  | some k => k

theorem info3 : (Tryz.prog.info? 3).map (fun i => (i.zero, i.size, i.bytes)) = some (some (.int .i64 0), 1, 8) := by kernel_rfl

/-- A row of numbers. -/
def gv (n : Nat) : Value := .int .i64 (n : Int)
abbrev GOwns (w : World) (base : Nat) (v : Value) (ns : List Nat) : Prop := w.ownsRow base 3 1 v ns.length (ns.map gv)

theorem CV.strs {w : World} {ao : Option Addr} {ls : List (List UInt8)} (h : CV w ao (ls.map str)) {k : Nat} (hk : k < ls.length) :
    ∃ b off, ao = some ⟨b, off, none⟩ ∧ ∀ i (hi : i < ls.length), w.cell? ⟨b, off + i, none⟩ = some (str ls[i]) := by
  obtain ⟨b, off, hao, hc⟩ := h.addr (k := k) (by simpa using hk)
  exact ⟨b, off, hao, fun i hi => by rw [hc i (by simpa using hi)]; simp⟩

theorem CV.nums {w : World} {ao : Option Addr} {ns : List Nat} (h : CV w ao (ns.map gv)) {k : Nat} (hk : k < ns.length) :
    ∃ b off, ao = some ⟨b, off, none⟩ ∧ ∀ i (hi : i < ns.length), w.cell? ⟨b, off + i, none⟩ = some (.int .i64 (ns[i] : Int)) := by
  obtain ⟨b, off, hao, hc⟩ := h.addr (k := k) (by simpa using hk)
  exact ⟨b, off, hao, fun i hi => by rw [hc i (by simpa using hi)]; simp [gv]⟩

end Go.Proofs.YtbdmpjnlgdahmabGreatDoor
