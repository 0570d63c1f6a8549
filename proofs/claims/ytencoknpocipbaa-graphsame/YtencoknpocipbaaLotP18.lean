/-
  The document's own begins, of a program that is taken: as package graph's beginnings, and the first place beside. The blocks of a program, place by place: what the document's own Of goes by. No Go text here.
-/
import Derived.Test.YtencoknpocipbaaLotP17
namespace Go.Proofs.Ytencoknpocipbaa
open Go.RowKit
set_option maxRecDepth 100000

theorem ja_class {c : Int} (h : (c == 5) = true) : (classV c == 5) = true := by
  have e : c = 5 := by simpa using h
  rw [e]
  decide
theorem jump_class {c : Int} (h : jumpB c = true) : (classV c == 5) = true := by
  have hk : knownB c = true := by simp [knownB, h]
  have := known_all (fun c => !jumpB c || (classV c == 5)) (by decide +kernel) hk
  rw [h] at this
  simpa using this
theorem ret_class {c : Int} (h : retB c = true) : (classV c == 5) = false := by
  have h6 : (classV c == 6) = true := by rw [class6_ret]; exact h
  have e : classV c = 6 := by simpa using h6
  rw [e]
  rfl

/-- What the document's own marks are behind an instruction. -/
theorem beg_ja {x : In} {j : Nat} {bs : List Bool} (h : ((x.code.toNat : Int) == 5) = true) : (begStep x j bs).set 0 true = (((bs.set 0 true).set (j + 1 + x.k.toNat) true).set (j + 1) true) := by
  have h5 := ja_class h
  have hl : leavesB x = true := by rw [leavesB, h5]; rfl
  rw [begStep, if_neg (by rw [hl]; simp), if_pos h5, yesG, noG, if_pos h, if_pos h, List.set_set, setT _ _ 0, setT _ _ 0, setT _ (j + 1)]
theorem beg_jump {x : In} {j : Nat} {bs : List Bool} (h : jumpB x.code.toNat = true) (h5 : ((x.code.toNat : Int) == 5) = false) : (begStep x j bs).set 0 true = ((((bs.set 0 true).set (j + 1 + x.jt.toNat) true).set (j + 1 + x.jf.toNat) true).set (j + 1) true) := by
  have hc := jump_class h
  have hl : leavesB x = true := by rw [leavesB, hc]; rfl
  rw [begStep, if_neg (by rw [hl]; simp), if_pos hc, yesG, noG, if_neg (by rw [h5]; simp), if_neg (by rw [h5]; simp), setT _ _ 0, setT _ _ 0, setT _ _ 0, setT _ (j + 1), setT _ (j + 1)]
theorem beg_ret {x : In} {j : Nat} {bs : List Bool} (h : retB x.code.toNat = true) : (begStep x j bs).set 0 true = ((bs.set 0 true).set (j + 1) true) := by
  have hc := ret_class h
  have hl : leavesB x = true := by rw [leavesB, class6_ret, h]; simp
  rw [begStep, if_neg (by rw [hl]; simp), if_neg (by rw [hc]; simp), setT _ _ 0]
theorem beg_no {x : In} {j : Nat} {bs : List Bool} (h5 : (classV x.code.toNat == 5) = false) (h : retB x.code.toNat = false) : (begStep x j bs).set 0 true = bs.set 0 true := by
  have hl : leavesB x = false := by rw [leavesB, class6_ret, h, h5]; rfl
  rw [begStep, if_pos hl]

end Go.Proofs.Ytencoknpocipbaa

namespace Go.Proofs.Ytencoknpocipbaa
open Go.RowKit
set_option maxRecDepth 100000

theorem getD_setT (bs : List Bool) (i j : Nat) (h : bs.getD j false = true) : (bs.set i true).getD j false = true := by
  rw [List.getD_eq_getElem?_getD, List.getElem?_set]
  by_cases e : i = j
  · subst e
    have hl : i < bs.length := by
      apply Classical.byContradiction
      intro hn
      rw [List.getD_eq_getElem?_getD, List.getElem?_eq_none (by omega)] at h
      cases h
    simp [hl]
  · rw [if_neg e, ← List.getD_eq_getElem?_getD]
    exact h
theorem getD_setS (bs : List Bool) (i : Nat) (h : i < bs.length) : (bs.set i true).getD i false = true := by
  rw [List.getD_eq_getElem?_getD, List.getElem?_set]
  simp [h]
theorem getD_setN (bs : List Bool) {i j : Nat} (h : i ≠ j) : (bs.set i true).getD j false = bs.getD j false := by
  rw [List.getD_eq_getElem?_getD, List.getElem?_set, if_neg h, ← List.getD_eq_getElem?_getD]

theorem begStep_mono (x : In) (i : Nat) (bs : List Bool) (j : Nat) (h : bs.getD j false = true) : (begStep x i bs).getD j false = true := by
  unfold begStep
  split
  · exact h
  · split
    · exact getD_setT _ _ _ (getD_setT _ _ _ (getD_setT _ _ _ h))
    · exact getD_setT _ _ _ h
theorem begStep_mark (x : In) (i : Nat) (bs : List Bool) (hl : i + 1 < bs.length) (h : leavesB x = true) : (begStep x i bs).getD (i + 1) false = true := by
  rw [begStep, if_neg (by rw [h]; simp)]
  split
  · exact getD_setT _ _ _ (getD_setT _ _ _ (getD_setS _ _ hl))
  · exact getD_setS _ _ hl
theorem begTo_mono (xs : List In) {k m : Nat} (h : k ≤ m) (j : Nat) (hj : (begTo xs k).getD j false = true) : (begTo xs m).getD j false = true := by
  induction m with
  | zero => have : k = 0 := by omega
            subst this; exact hj
  | succ m ih =>
    by_cases hk : k = m + 1
    · subst hk; exact hj
    · have h1 := ih (by omega)
      rw [begTo]
      cases xs[m]? with
      | none => exact h1
      | some x => exact begStep_mono x m _ j h1
/-- Behind a jump or a return a block begins. -/
theorem beg_behind {xs : List In} {i : Nat} (hi : i < xs.length) (h : leavesB xs[i] = true) : (begTo xs xs.length).getD (i + 1) false = true := by
  refine begTo_mono xs (show i + 1 ≤ xs.length by omega) (i + 1) ?_
  rw [begTo_succ hi]
  exact begStep_mark _ _ _ (by rw [begTo_len]; omega) h

theorem num_same {bs : List Bool} {i : Nat} (h : bs.getD (i + 1) false = false) : numN bs (i + 1) = numN bs i := by rw [numN, if_neg (by rw [h]; simp), Nat.add_zero]
theorem num_more {bs : List Bool} {i : Nat} (h : bs.getD (i + 1) false = true) : numN bs (i + 1) = numN bs i + 1 := by rw [numN, if_pos h]
/-- What a place says, the first one marked. -/
theorem first_at (bs : List Bool) (i : Nat) : (bs.set 0 true).getD (i + 1) false = bs.getD (i + 1) false := getD_setN bs (by omega)

theorem of_same {xs : List In} {bs : List Bool} {i : Nat} (h : bs.getD (i + 1) false = false) : ofTo xs (numN bs) (i + 1) = ofTo xs (numN bs) i := by rw [ofTo, if_pos (num_same h)]
theorem of_more {xs : List In} {bs : List Bool} {i : Nat} (h : bs.getD (i + 1) false = true) (hi : i < xs.length) : ofTo xs (numN bs) (i + 1) = (i + 1, (ofTo xs (numN bs) i).2 ++ [blkV xs (numN bs) (ofTo xs (numN bs) i).1 i xs[i]]) := by
  rw [ofTo, if_neg (by rw [num_more h]; omega), getD_at hi]

/-- The last instruction of a program that is taken is a return. -/
theorem plain_next {xs : List In} (h : (checkV xs).2 = 0) {i : Nat} (hi : i < xs.length) (hp : leavesB xs[i] = false) : i + 1 < xs.length := by
  obtain ⟨-, -, -, hl⟩ := taken h
  have hr : retB xs[i].code.toNat = false := by
    rw [leavesB, class6_ret, Bool.or_eq_false_iff] at hp
    exact hp.2
  exact last_ret hl hi hr

/-- While a block's Code grows: from s on, up to i, no block begins. -/
structure OfI (xs : List In) (bs : List Bool) (s i : Nat) : Prop where
  le : s ≤ i
  lt : i < xs.length
  of : ofTo xs (numN bs) i = ofTo xs (numN bs) s
  at' : (ofTo xs (numN bs) s).1 = s
  no : s < i → bs.getD i false = false
theorem OfI.first {xs : List In} {bs : List Bool} {s : Nat} (h : s < xs.length) (ha : (ofTo xs (numN bs) s).1 = s) : OfI xs bs s s := ⟨Nat.le_refl _, h, rfl, ha, fun h => absurd h (Nat.lt_irrefl _)⟩
theorem OfI.next {xs : List In} {bs : List Bool} {s i : Nat} (h : OfI xs bs s i) (hi : i + 1 < xs.length) (hb : bs.getD (i + 1) false = false) : OfI xs bs s (i + 1) :=
  ⟨by have := h.le; omega, hi, (of_same hb).trans h.of, h.at', fun _ => hb⟩
/-- A block ends. -/
theorem OfI.over {xs : List In} {bs : List Bool} {s i : Nat} (h : OfI xs bs s i) (hb : bs.getD (i + 1) false = true) : ofTo xs (numN bs) (i + 1) = (i + 1, (ofTo xs (numN bs) s).2 ++ [blkV xs (numN bs) s i (xs[i]'h.lt)]) := by
  rw [of_more hb h.lt, h.of, h.at']

theorem take_more {xs : List In} {s i : Nat} (hs : s ≤ i) (hi : i < xs.length) : (xs.drop s).take (i + 1 - s) = (xs.drop s).take (i - s) ++ [xs[i]] := by
  have hl : i - s < (xs.drop s).length := by rw [List.length_drop]; omega
  rw [show i + 1 - s = (i - s) + 1 by omega, ← List.take_append_getElem hl]
  congr 2
  rw [List.getElem_drop]
  congr 1
  omega

end Go.Proofs.Ytencoknpocipbaa
