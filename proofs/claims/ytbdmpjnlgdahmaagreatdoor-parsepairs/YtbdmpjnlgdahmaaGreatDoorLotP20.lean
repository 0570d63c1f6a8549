/-
  What the landed reader may ask of tokens. No Go text here. Lists of ints: SameInts, SpoilInts. What a call leaves that may write several blocks. A text cut at the first mark, and its parts; no Go text here.
-/
import Derived.Test.YtbdmpjnlgdahmaaGreatDoorLotP9
import Derived.Test.YtbdmpjnlgdahmaaGreatDoorLotP19
import Derived.Test.YtbdmpjnlgdahmaaGreatDoorLotP6
import Derived.Test.YtbdmpjnlgdahmaaGreatDoorLotP3
import Derived.Test.YtbdmpjnlgdahmaaGreatDoorLotP2
import Derived.Test.YtbdmpjnlgdahmaaGreatDoorLotP12
import Derived.Lib.IndexMore
namespace Go.Proofs.YtbdmpjnlgdahmaaGreatDoor
open Go.RowKit
set_option maxRecDepth 100000

/-- A token as lex makes them. -/
def TkG (t : Tk) : Prop := ((t.kind = 0 ∧ t.text = []) ∨ tokV t.text = .ok (t.kind, t.text, t.num)) ∧ t.text.length ≤ 65536 ∧ t.pos ≤ 65536 ∧ t.num ≤ 4294967295 ∧ t.kind ≤ 5
/-- A sign or a word that may be asked for. -/
def Asked (x : List UInt8) : Prop := x ≠ [] ∧ ∃ q, (q = 5 ∨ q = 2) ∧ tokV x = .ok (q, x, 0)
def TksG (ts : List Tk) : Prop := EndsOk ts ∧ ∀ t ∈ ts, TkG t
theorem TksG.hd {ts : List Tk} (h : TksG ts) : TkG (hdT ts) := h.2 _ h.1.mem
theorem TksG.tail {ts : List Tk} (h : TksG ts) (hk : (hdT ts).kind ≠ 0) : TksG ts.tail := ⟨h.1.tail hk, fun t ht => h.2 t (List.mem_of_mem_tail ht)⟩
theorem TksG.ne {ts : List Tk} (h : TksG ts) : ts ≠ [] := fun e => by
  obtain ⟨us, x, hx, -⟩ := h.1
  rw [e] at hx
  cases us <;> cases hx
theorem lexV_good {s : List UInt8} {ts : List Tk} (h : lexV s = .ok ts) : TksG ts ∧ ts.length ≤ 65537 := by
  obtain ⟨hl, us, rfl, hu, ht⟩ := lexV_toks h
  have hk : ∀ t ∈ us, t.kind ≠ 0 := fun t hm => by
    have := (tok_ok (ht t hm).2.1).2.2.2.1
    omega
  refine ⟨⟨⟨us, _, rfl, rfl, hk⟩, fun t hm => ?_⟩, by rw [List.length_append, List.length_singleton]; omega⟩
  rcases List.mem_append.1 hm with hm | hm
  · obtain ⟨-, h2, h3, h4, h5, h6⟩ := ht t hm
    exact ⟨.inr h2, h3, h4, h6, h5⟩
  · rw [List.mem_singleton] at hm
    subst hm
    exact ⟨.inl ⟨rfl, rfl⟩, by simp, hl, by simp, by simp⟩
/-- A text alone tells whether a sign or word stands there. -/
theorem asked_is {ts : List Tk} {x : List UInt8} (h : TkG (hdT ts)) (hx : Asked x) : isB ts x = decide ((hdT ts).text = x) := by
  unfold isB
  by_cases e : (hdT ts).text = x
  · rw [decide_eq_true e]
    obtain ⟨hne, q, hq, ht⟩ := hx
    rcases h.1 with ⟨-, h0⟩ | h1
    · exact absurd (e.symm.trans h0) hne
    · rw [e, ht] at h1
      have hk : (hdT ts).kind = q := (congrArg Prod.fst (Except.ok.inj h1)).symm
      rw [hk, e]
      rcases hq with rfl | rfl <;> simp
  · rw [decide_eq_false e]
    simp [e]
theorem asked_kind {ts : List Tk} {x : List UInt8} {q : Nat} (h : TkG (hdT ts)) (hne : x ≠ []) (hx : tokV x = .ok (q, x, 0)) (e : (hdT ts).text = x) : (hdT ts).kind = q := by
  rcases h.1 with ⟨-, h0⟩ | h1
  · exact absurd (e.symm.trans h0) hne
  · rw [e, hx] at h1
    exact (congrArg Prod.fst (Except.ok.inj h1)).symm

/-- The texts that begin a part and are no names. -/
def wordsL : List (List UInt8) := [wLen, wInbound, wOutbound, wProto, wSrc, wDst, wHost, wNet, wPort, wPortrange]
theorem tok_words : ∀ x ∈ wordsL, x ≠ [] ∧ tokV x = .ok (2, x, 0) ∧ nameN x = 0 := by
  intro x hx
  simp only [wordsL, List.mem_cons, List.not_mem_nil, or_false] at hx
  rcases hx with rfl | rfl | rfl | rfl | rfl | rfl | rfl | rfl | rfl | rfl <;> exact ⟨by decide, by kernel_rfl, by decide⟩
def namesL : List (List UInt8) := [[112, 112, 112], [105, 112], [105, 112, 54], [116, 99, 112], [117, 100, 112], [105, 99, 109, 112], [105, 99, 109, 112, 54], [108, 99, 112], [112, 97, 112], [99, 104, 97, 112], [105, 112, 99, 112], [105, 112, 54, 99, 112], [109, 112]]
theorem tok_names : ∀ x ∈ namesL, x ≠ [] ∧ tokV x = .ok (2, x, 0) := by
  intro x hx
  simp only [namesL, List.mem_cons, List.not_mem_nil, or_false] at hx
  rcases hx with rfl | rfl | rfl | rfl | rfl | rfl | rfl | rfl | rfl | rfl | rfl | rfl | rfl <;> exact ⟨by decide, by kernel_rfl⟩
theorem name_in {x : List UInt8} (h : nameN x ≠ 0) : x ∈ namesL := by
  unfold nameN at h
  simp only [namesL, List.mem_cons, List.not_mem_nil, or_false]
  by_cases e1 : x = [112, 112, 112]; · simp [e1]
  by_cases e2 : x = [105, 112]; · simp [e2]
  by_cases e3 : x = [105, 112, 54]; · simp [e3]
  by_cases e4 : x = [116, 99, 112]; · simp [e4]
  by_cases e5 : x = [117, 100, 112]; · simp [e5]
  by_cases e6 : x = [105, 99, 109, 112]; · simp [e6]
  by_cases e7 : x = [105, 99, 109, 112, 54]; · simp [e7]
  by_cases e8 : x = [108, 99, 112]; · simp [e8]
  by_cases e9 : x = [112, 97, 112]; · simp [e9]
  by_cases e10 : x = [99, 104, 97, 112]; · simp [e10]
  by_cases e11 : x = [105, 112, 99, 112]; · simp [e11]
  by_cases e12 : x = [105, 112, 54, 99, 112]; · simp [e12]
  by_cases e13 : x = [109, 112]; · simp [e13]
  simp [e1, e2, e3, e4, e5, e6, e7, e8, e9, e10, e11, e12, e13] at h

theorem part_num {rec : Nat → List Tk → Out} {nest : Nat} {ts : List Tk} (h : (hdT ts).kind = 1) : partF rec nest ts = .ok ([({ ndK 1 with n := (hdT ts).num }, (hdT ts).pos)], ts.tail) := by rw [partF, if_pos h]
theorem part_paren {rec : Nat → List Tk → Out} {nest : Nat} {ts : List Tk} (hG : TkG (hdT ts)) (h : (hdT ts).text = [40]) : partF rec nest ts = opnV nest ts (thenE (rec (nest + 1) ts.tail) fun p => thenE (mustV [41] p.2) fun r => .ok (p.1, r)) := by
  have hk : (hdT ts).kind = 5 := asked_kind hG (by decide) (by kernel_rfl) h
  have hb : isB ts [40] = true := by rw [isB, hk, h]; rfl
  rw [partF, if_neg (by omega), if_pos hb]
theorem part_word {rec : Nat → List Tk → Out} {nest : Nat} {ts : List Tk} (hG : TkG (hdT ts)) (h : (hdT ts).text ∈ wordsL) : partF rec nest ts = wordF ts := by
  obtain ⟨h0, h1, h2⟩ := tok_words _ h
  have hk : (hdT ts).kind = 2 := asked_kind hG h0 h1 rfl
  have hb : ¬ isB ts [40] = true := fun e => by
    have := isB_text e
    rw [this] at h
    simp [wordsL, wLen, wInbound, wOutbound, wProto, wSrc, wDst, wHost, wNet, wPort, wPortrange] at h
  rw [partF, if_neg (by omega), if_neg hb, if_neg (by omega), if_neg (by rw [h2]; simp)]
theorem part_name {rec : Nat → List Tk → Out} {nest : Nat} {ts : List Tk} (hG : TkG (hdT ts)) (h : nameN (hdT ts).text ≠ 0) : partF rec nest ts = nameF rec nest (nameN (hdT ts).text) (hdT ts).pos ts.tail ∧ (hdT ts).kind = 2 := by
  obtain ⟨h0, h1⟩ := tok_names _ (name_in h)
  have hk : (hdT ts).kind = 2 := asked_kind hG h0 h1 rfl
  have hb : ¬ isB ts [40] = true := fun e => by
    have := isB_text e
    rw [this] at h
    exact h (by decide)
  refine ⟨?_, hk⟩
  rw [partF, if_neg (by omega), if_neg hb, if_neg (by omega), if_pos h]
theorem part_none {rec : Nat → List Tk → Out} {nest : Nat} {ts : List Tk} (h1 : (hdT ts).kind ≠ 1) (h2 : (hdT ts).text ≠ [40]) (h3 : (hdT ts).text ∉ wordsL) (h4 : nameN (hdT ts).text = 0) : partF rec nest ts = failV ts 111 := by
  have hb : ¬ isB ts [40] = true := fun e => h2 (isB_text e)
  rw [partF, if_neg h1, if_neg hb]
  by_cases hk : (hdT ts).kind ≠ 2
  · rw [if_pos hk]
  · rw [if_neg hk, if_neg (by rw [h4]; simp)]
    simp only [wordsL, List.mem_cons, List.not_mem_nil, or_false, not_or] at h3
    obtain ⟨a, b, c, d, e, f, g, h, i, j⟩ := h3
    rw [wordF, if_neg a, if_neg b, if_neg c, if_neg d, if_neg (by simp [e, f, g, h, i, j])]

end Go.Proofs.YtbdmpjnlgdahmaaGreatDoor

namespace Go.Proofs.YtbdmpjnlgdahmaaGreatDoor
open Go.RowKit
set_option maxRecDepth 100000


def iv (z : Int) : Value := .int .i64 z

abbrev ZOwns (w : World) (base : Nat) (v : Value) (bs : List Int) : Prop := w.ownsRow base 3 1 v bs.length (bs.map iv)

theorem CV.ints {w : World} {ao : Option Addr} {bs : List Int} (h : CV w ao (bs.map iv)) {k : Nat} (hk : k < bs.length) :
    ∃ b off, ao = some ⟨b, off, none⟩ ∧ ∀ i (hi : i < bs.length), w.cell? ⟨b, off + i, none⟩ = some (.int .i64 bs[i]) := by
  obtain ⟨b, off, hao, hc⟩ := h.addr (k := k) (by simpa using hk)
  exact ⟨b, off, hao, fun i hi => by rw [hc i (by simpa using hi)]; simp [iv]⟩

set_option maxHeartbeats 400000 in
theorem zsame_any (a b : Option Addr) (ca cb : Nat) (xs : List Int) (w : World) (ha : CV w a (xs.map iv)) (hb : CV w b (xs.map iv)) (hm : xs.length ≤ 9223372036854775807) :
    Calls Tryz.prog 12 #[.slice a xs.length ca, .slice b xs.length cb] w fun e w' => e = .returned (.bool true) ∧ ∃ n, w' = w.drewN n := by
  have hne : ((xs.length : Int) != (xs.length : Int)) = false := by simp
  go_enter Tryz.func12, Tryz.ntmps12
  go_wp2
  go_loopw [5] (fun i wr => ∃ k : Nat, k ≤ xs.length ∧ i = .int .i64 k ∧ ∃ n, wr = w.drewN n) (fun i _ => xs.length - (intOf i).toNat)
  case atStart => exact ⟨0, Nat.zero_le _, rfl, 0, rfl⟩
  case round =>
    obtain ⟨k, hk, rfl, n, rfl⟩ := hrel
    by_cases hlt : k < xs.length
    · obtain ⟨b1, o1, rfl, h1⟩ := ha.ints hlt
      obtain ⟨b2, o2, rfl, h2⟩ := hb.ints hlt
      have c1 := h1 k hlt
      have c2 := h2 k hlt
      clear ha hb h1 h2
      generalize xs[k] = z at *
      have hl : (k : Int) < (xs.length : Int) := by omega
      go_wp2
      go_quiet (fail)
      go_wp2
      go_roundw
      case rel => exact ⟨k + 1, by omega, by go_num, _, by rfl⟩
      case measure => simp [intOf]; omega
    · go_wp2
      go_ret
      exact ⟨rfl, n, rfl⟩

/-- The two loops of SpoilInts, behind its append. -/
def ZSpoilRel (w : World) (row : Option Nat) (g g' n n' : Nat) (wr : World) : Prop := BlkN wr 3 g n ∧ BlkN wr 3 g' n' ∧ w.grownBy wr row

theorem ZSpoilRel.set {w wr : World} {row : Option Nat} {g g' n n' : Nat} (h : ZSpoilRel w row g g' n n' wr) {p : Addr} (hp : row = some p.block ∨ w.heap.size ≤ p.block) (u : Value) : ZSpoilRel w row g g' n n' (wr.setCell p u) :=
  ⟨h.1.setCell _ _, h.2.1.setCell _ _, grown_setCell h.2.2 _ _ hp⟩

set_option maxHeartbeats 1000000 in
theorem zspoil_any (g n cap : Nat) (w : World) (hb : BlkN w 3 g (cap * 1)) (hn : n ≤ cap) (hcm : cap ≤ maxLen) (hm : (n + 1) * 8 ≤ 140737488355328) :
    Calls Tryz.prog 14 #[.slice (some ⟨g, 0, none⟩) n cap] w fun e w' => e = .returned (.tuple #[]) ∧ w.grownBy w' (some g) := by
  obtain ⟨i0, hi, hz0, hz1, hz2⟩ := info_parts info3
  have H : Hid (BlkN w 3 g (cap * 1)) := hb
  clear hb
  go_enter Tryz.func14, Tryz.ntmps14
  go_wp2_with (at_builtin; refine wpList_append_blkN rfl (.tmp 5) (.tmp 6) 23 rfl 3 i0 (.int .i64 0) 1 8 Tryz.underlying23 hi hz0 hz1 hz2 rfl (by decide) g n cap rfl ?q1 hn hcm ⟨w.heap.size, 0, none⟩ 1 1 [.int .i64 (-77)] rfl rfl ?q2 (by simp [Value.oneCell']) ?q3 ?q4 ?q5)
  case q1 => exact H.out.kept (World.grownBy_alloc _ _ none) (by simp)
  case q2 => exact cv_lit w _ _
  case q3 => unfold maxLen; omega
  case q4 => omega
  case q5 =>
    intro g' cap' w1 hg' hb1 hb2 hc' hcm' hgr
    have R : ZSpoilRel w (some g) g g' (cap * 1) (cap' * 1) w1 := ⟨by rw [Nat.mul_one]; exact hb1, by rw [Nat.mul_one]; exact hb2, grown_trans (World.grownBy_alloc _ _ _) hgr⟩
    have hp : some g = some g' ∨ w.heap.size ≤ g' := by
      rcases hg' with e | e
      · exact .inl (by rw [e])
      · right; omega
    clear hg' hb1 hb2 hgr
    unfold maxLen at hcm hcm'
    go_wp2
    go_loopw [3] (fun i wr => ∃ k : Nat, k ≤ n + 1 ∧ i = .int .i64 k ∧ ZSpoilRel w (some g) g g' (cap * 1) (cap' * 1) wr) (fun i _ => n + 1 - (intOf i).toNat)
    case atStart => exact ⟨0, Nat.zero_le _, rfl, R⟩
    case round =>
      clear R
      obtain ⟨k, hk, rfl, R⟩ := hrel
      by_cases hlt : k < n + 1
      · obtain ⟨u0, hu0⟩ := R.2.1.cell (i := k) (by omega)
        have hf0 := R.2.1.free k
        have R' := R.set (p := ⟨g', k, none⟩) hp (.int .i64 (-77))
        clear R
        go_wp2
        go_roundw
        case rel => exact ⟨k + 1, by omega, by go_num, R'⟩
        case measure => simp [intOf]; omega
      · go_wp2
        clear hk hlt
        go_loopw [4] (fun i wr => ∃ k : Nat, k ≤ n ∧ i = .int .i64 k ∧ ZSpoilRel w (some g) g g' (cap * 1) (cap' * 1) wr) (fun i _ => n - (intOf i).toNat)
        case atStart => exact ⟨0, Nat.zero_le _, rfl, R⟩
        case round =>
          clear R
          obtain ⟨k, hk, rfl, R⟩ := hrel
          by_cases hlt : k < n
          · obtain ⟨u0, hu0⟩ := R.1.cell (i := k) (by omega)
            have hf0 := R.1.free k
            have R' := R.set (p := ⟨g, k, none⟩) (.inl rfl) (.int .i64 (-77))
            clear R
            go_wp2
            go_roundw
            case rel => exact ⟨k + 1, by omega, by go_num, R'⟩
            case measure => simp [intOf]; omega
          · go_wp2
            go_end0
            exact ⟨rfl, R.2.2⟩

set_option maxHeartbeats 1000000 in
theorem zspoil_nil (w : World) :
    Calls Tryz.prog 14 #[.slice none 0 0] w fun e w' => e = .returned (.tuple #[]) ∧ w.grownBy w' none := by
  obtain ⟨i0, hi, hz0, hz1, hz2⟩ := info_parts info3
  go_enter Tryz.func14, Tryz.ntmps14
  go_wp2_with (at_builtin; refine wpList_append_cv rfl (.tmp 5) (.tmp 6) 23 rfl 3 i0 (.int .i64 0) 1 8 Tryz.underlying23 hi hz0 hz1 hz2 rfl (by decide) w.heap.size _ 0 [] rfl ?q1 (some ⟨w.heap.size, 0, none⟩) 1 1 [.int .i64 (-77)] rfl rfl (by simp) ?q2 (by simp [Value.oneCell']) ?q3 ?q4 ?q5 ?q6)
  case q1 => exact World.ownsRow_nil _ _ _ _
  case q2 => exact cv_lit w _ _
  case q3 => unfold maxLen; omega
  case q4 => omega
  case q5 => simp
  case q6 =>
    intro v' w1 h1 h2
    obtain ⟨g', cap', hv, hc, hcm, hg1, hg2⟩ := owns_head h1 (by omega)
    subst hv
    have hb2 : BlkN w1 3 g' (cap' * 1) := (BlkN.ofRow (n := 1) h1).1
    have hgr : w.grownBy w1 none := grown_trans (World.grownBy_alloc _ _ _) h2
    have R : ZSpoilRel w none g' g' (cap' * 1) (cap' * 1) w1 := ⟨hb2, hb2, hgr⟩
    have hp : none = some g' ∨ w.heap.size ≤ g' := .inr hg1
    clear hb2 hgr h1 h2
    unfold maxLen at hcm
    go_wp2
    go_loopw [3] (fun i wr => ∃ k : Nat, k ≤ 1 ∧ i = .int .i64 k ∧ ZSpoilRel w none g' g' (cap' * 1) (cap' * 1) wr) (fun i _ => 1 - (intOf i).toNat)
    case atStart => exact ⟨0, Nat.zero_le _, rfl, R⟩
    case round =>
      clear R
      obtain ⟨k, hk, rfl, R⟩ := hrel
      by_cases hlt : k < 1
      · obtain rfl : k = 0 := by omega
        obtain ⟨u0, hu0⟩ := R.2.1.cell (i := 0) (by omega)
        have hf0 := R.2.1.free 0
        have R' := R.set (p := ⟨g', 0, none⟩) hp (.int .i64 (-77))
        clear R
        go_wp2
        go_roundw
        case rel => exact ⟨1, by omega, by go_num, R'⟩
        case measure => simp [intOf]
      · obtain rfl : k = 1 := by omega
        go_wp2
        refine wp_loop_rounds 1 ?_
        rw [rounds_succ]
        go_wp2
        go_end0
        exact ⟨rfl, R.2.2⟩

theorem zspoil_own {base : Nat} {v : Value} {xs : List Int} (w : World) (h : ZOwns w base v xs) (hm : (xs.length + 1) * 8 ≤ 140737488355328) :
    Calls Tryz.prog 14 #[v] w fun e w' => e = .returned (.tuple #[]) ∧ w.grownBy w' v.ownBlock := by
  rcases h.2 with ⟨rfl, _⟩ | ⟨g, cap, cur, rfl, hb, hg, hc, hcm, hs, ht⟩
  · exact zspoil_nil w
  · exact zspoil_any g xs.length cap w ⟨cur, hg, hs⟩ hc hcm hm

end Go.Proofs.YtbdmpjnlgdahmaaGreatDoor

namespace Go.Proofs.YtbdmpjnlgdahmaaGreatDoor
open Go.RowKit
set_option maxRecDepth 100000

/-- Nothing is written but new memory, and the blocks of S. -/
structure GB (w w' : World) (S : Nat → Prop) : Prop where
  os : w'.os = w.os
  tape : w'.tape = w.tape
  output : w'.output = w.output
  size : w.heap.size ≤ w'.heap.size
  block : ∀ i, i < w.heap.size → ¬ S i → w'.heap[i]? = w.heap[i]?

theorem GB.of {w w' : World} {row : Option Nat} {S : Nat → Prop} (h : w.grownBy w' row) (hs : ∀ x, row = some x → S x) : GB w w' S :=
  ⟨h.os, h.tape, h.output, h.size, fun i hi hn => h.block i hi (fun e => hn (hs i e.symm))⟩
theorem GB.non {w w' : World} {S : Nat → Prop} (h : w.grownBy w' none) : GB w w' S := GB.of h (fun x hx => by cases hx)
theorem GB.refl (w : World) (S : Nat → Prop) : GB w w S := ⟨rfl, rfl, rfl, Nat.le_refl _, fun _ _ _ => rfl⟩
theorem GB.trans {w w1 w2 : World} {S S' : Nat → Prop} (h : GB w w1 S) (k : GB w1 w2 S') (hs : ∀ x, x < w.heap.size → S' x → S x) : GB w w2 S :=
  ⟨k.os.trans h.os, k.tape.trans h.tape, k.output.trans h.output, Nat.le_trans h.size k.size, fun i hi hn => (k.block i (Nat.lt_of_lt_of_le hi h.size) (fun e => hn (hs i hi e))).trans (h.block i hi hn)⟩
theorem GB.mono {w w' : World} {S S' : Nat → Prop} (h : GB w w' S) (hs : ∀ x, S x → S' x) : GB w w' S' := ⟨h.os, h.tape, h.output, h.size, fun i hi hn => h.block i hi (fun e => hn (hs i e))⟩
/-- Where S lies in new memory alone. -/
theorem GB.grown {w w' : World} {S : Nat → Prop} (h : GB w w' S) (hs : ∀ x, x < w.heap.size → ¬ S x) : w.grownBy w' none := ⟨h.os, h.tape, h.output, h.size, fun i hi _ => h.block i hi (hs i hi)⟩
theorem GB.one {w w' : World} {S : Nat → Prop} {g : Nat} (h : GB w w' S) (hs : ∀ x, x < w.heap.size → S x → x = g) : w.grownBy w' (some g) := ⟨h.os, h.tape, h.output, h.size, fun i hi hn => h.block i hi (fun e => hn (congrArg some (hs i hi e)))⟩

theorem GB.vat {w w' : World} {S : Nat → Prop} {g t : Nat} {cs : Array Value} (h : GB w w' S) (A : VAt w g t cs) (hg : ¬ S g) : VAt w' g t cs := by
  have := h.block g A.lt hg
  unfold VAt at *
  rw [this, A]
theorem GB.owns {w w' : World} {S : Nat → Prop} {base e size n : Nat} {v : Value} {vs : List Value} (h : GB w w' S) (O : w.ownsRow base e size v n vs) (hv : ∀ x, v.ownBlock = some x → ¬ S x) : w'.ownsRow base e size v n vs := by
  refine ⟨O.1, ?_⟩
  rcases O.2 with h0 | ⟨g, cap, cur, hv', hb, hg, r⟩
  · exact .inl h0
  · right
    refine ⟨g, cap, cur, hv', hb, ?_, r⟩
    have hlt : g < w.heap.size := by
      by_cases hh : g < w.heap.size
      · exact hh
      · rw [Array.getElem?_eq_none (by omega)] at hg; cases hg
    rw [h.block g hlt (hv g (by rw [hv']; rfl)), hg]
theorem GB.cell {w w' : World} {S : Nat → Prop} {ad : Addr} {v : Value} (h : GB w w' S) (hc : w.cell? ad = some v) (ha : ¬ S ad.block) (hlt : ad.block < w.heap.size) : w'.cell? ad = some v := by
  have := h.block ad.block hlt ha
  unfold World.cell? at *
  rw [this]
  exact hc
theorem GB.cells {w w' : World} {S : Nat → Prop} {ao : Option Addr} {xs : List UInt8} (h : GB w w' S) (hc : Cells w ao xs) (ha : ∀ ad, ao = some ad → xs ≠ [] → ¬ S ad.block) : Cells w' ao xs := by
  have hu := hc.under
  refine hc.same fun b off i hb hi => ?_
  have hne : xs ≠ [] := by
    intro e
    rw [e] at hi
    simp at hi
  have h1 := ha _ hb hne
  have h2 := hu _ hb hne
  have := h.block b h2 h1
  unfold World.cell?
  simp only [this]

end Go.Proofs.YtbdmpjnlgdahmaaGreatDoor

namespace Go.Proofs.YtbdmpjnlgdahmaaGreatDoor
open Go.RowKit
set_option maxRecDepth 100000

theorem idx_none (b : UInt8) (s : List UInt8) (h : b ∉ s) : Lib.index s [b] = -1 := by
  induction s with
  | nil => rfl
  | cons c r ih =>
    have hc : (b == c) = false := by rw [beq_eq_false_iff_ne]; intro e; exact h (by rw [e]; simp)
    rw [Lib.index, show ([b] : List UInt8).isPrefixOf (c :: r) = false by simp [List.isPrefixOf, hc], ih (fun e => h (by simp [e]))]
    rfl
theorem idx_at (b : UInt8) (x y : List UInt8) (h : b ∉ x) : Lib.index (x ++ b :: y) [b] = (x.length : Int) := by
  induction x with
  | nil => simp [Lib.index, List.isPrefixOf]
  | cons c r ih =>
    have hc : (b == c) = false := by rw [beq_eq_false_iff_ne]; intro e; exact h (by rw [e]; simp)
    rw [List.cons_append, Lib.index, show ([b] : List UInt8).isPrefixOf (c :: (r ++ b :: y)) = false by simp [List.isPrefixOf, hc], ih (fun e => h (by simp [e]))]
    have : ((r.length : Int) == -1) = false := by rw [beq_eq_false_iff_ne]; omega
    rw [this]
    simp

/-- A text cut at a letter. -/
theorem cut_one (b : UInt8) (s : List UInt8) : (Lib.cut s [b] = (s, [], false) ∧ splitV b s = [s]) ∨ (∃ x y, Lib.cut s [b] = (x, y, true) ∧ splitV b s = x :: splitV b y ∧ x.length + y.length + 1 = s.length) := by
  by_cases h : b ∈ s
  · right
    obtain ⟨x, y, rfl, hx⟩ := List.eq_append_cons_of_mem h
    refine ⟨x, y, ?_, ?_, ?_⟩
    · rw [Lib.cut, idx_at b x y hx, if_pos (by omega)]
      simp only [Int.toNat_natCast, List.take_left, List.length_cons, List.length_nil]
      rw [← List.drop_drop, List.drop_left]
      rfl
    · unfold splitV
      rw [splitG_piece b [] x y hx]
      rfl
    · simp
      omega
  · left
    refine ⟨?_, ?_⟩
    · rw [Lib.cut, idx_none b s h, if_neg (by decide)]
    · unfold splitV
      rw [splitG_plain b [] s h]
      rfl

theorem idx_gap (s : List UInt8) : Lib.index s [58, 58] = gapI (gapV s) := by
  induction s with
  | nil => rfl
  | cons a r ih =>
    rw [Lib.index, gapV, ih]
    by_cases h : a = 58 ∧ r.head? = some 58
    · rw [if_pos h]
      obtain ⟨rfl, h2⟩ := h
      cases r with
      | nil => cases h2
      | cons c r =>
        simp only [List.head?_cons, Option.some.injEq] at h2
        subst h2
        rw [if_pos (by simp [List.isPrefixOf])]
        rfl
    · rw [if_neg h]
      have hp : ([58, 58] : List UInt8).isPrefixOf (a :: r) = false := by
        cases r with
        | nil => simp [List.isPrefixOf]
        | cons c r =>
          simp only [List.head?_cons, Option.some.injEq] at h
          by_cases ha : a = 58
          · have hc : ((58 : UInt8) == c) = false := by rw [beq_eq_false_iff_ne]; intro e; exact h ⟨ha, e.symm⟩
            simp [List.isPrefixOf, hc]
          · have hc : ((58 : UInt8) == a) = false := by rw [beq_eq_false_iff_ne]; intro e; exact ha e.symm
            simp [List.isPrefixOf, hc]
      rw [hp]
      cases gapV r with
      | none => rfl
      | some k =>
        have : (((k : Nat) : Int) == -1) = false := by rw [beq_eq_false_iff_ne]; omega
        simp only [gapI, Option.map_some, this, Bool.false_eq_true, if_false]
        omega

theorem cut_gap_none (s : List UInt8) (h : gapV s = none) : Lib.cut s [58, 58] = (s, [], false) := by
  rw [Lib.cut, idx_gap, h]
  rfl
theorem cut_gap_some (s : List UInt8) (k : Nat) (h : gapV s = some k) : Lib.cut s [58, 58] = (s.take k, s.drop (k + 2), true) := by
  rw [Lib.cut, idx_gap, h]
  simp [gapI]

/-- Parts, numbered. -/
def numF {α : Type} : Nat → List α → List (Nat × α)
  | _, [] => []
  | i, x :: r => (i, x) :: numF (i + 1) r

theorem numF_len {α : Type} (i : Nat) (l : List α) : (numF i l).length = l.length := by
  induction l generalizing i with
  | nil => rfl
  | cons x r ih => rw [numF, List.length_cons, List.length_cons, ih]
theorem numF_snd {α : Type} (i : Nat) (l : List α) : (numF i l).map (·.2) = l := by
  induction l generalizing i with
  | nil => rfl
  | cons x r ih => rw [numF, List.map_cons, ih]
theorem numF_append {α : Type} (i : Nat) (a b : List α) : numF i (a ++ b) = numF i a ++ numF (i + a.length) b := by
  induction a generalizing i with
  | nil => simp [numF]
  | cons x r ih => rw [List.cons_append, numF, numF, ih, List.length_cons, List.cons_append, show i + 1 + r.length = i + (r.length + 1) by omega]
theorem numF_at {α : Type} (i : Nat) (l : List α) (j : Nat) (h : j < l.length) : (numF i l)[j]? = some (i + j, l[j]) := by
  induction l generalizing i j with
  | nil => simp at h
  | cons x r ih =>
    cases j with
    | zero => rfl
    | succ j =>
      rw [numF, List.getElem?_cons_succ, ih (i + 1) j (by simpa using h)]
      simp
      omega
theorem numF_pre {α : Type} {i : Nat} {l : List α} {pre : List (Nat × α)} (h : pre <+: numF i l) : pre = numF i (pre.map (·.2)) ∧ pre.map (·.2) <+: l := by
  obtain ⟨t, ht⟩ := h
  have hl : (pre.map (·.2)) ++ t.map (·.2) = l := by rw [← List.map_append, ht, numF_snd]
  refine ⟨?_, ⟨_, hl⟩⟩
  have e := numF_append i (pre.map (·.2)) (t.map (·.2))
  rw [hl, ← ht] at e
  have := List.append_inj e (by rw [numF_len, List.length_map])
  exact this.1

end Go.Proofs.YtbdmpjnlgdahmaaGreatDoor
