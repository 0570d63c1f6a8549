/-
  For every list of instructions (its capacity at most 2^47 - 4096 bytes, as the form itself says of each argument), every number and every number of 32 bits riddlelaw4.CheckSpoilt returns true and leaves what was there as it was: no condition of ours.
-/
import Derived.Test.YtibaednekfjonaaOpenI
import Derived.Test.YtibaednekfjonaaAwake4
import Derived.Test.YtibaednekfjonaaCheckM
namespace Go.Proofs.Ytibaednekfjonaa
open Go.ChangeShapes Go.WideShapes Go.ChangeAt Go.RowKit
open Go.ChangeMaps (open_string shut_string)
set_option maxRecDepth 100000

theorem firstBad_at {n s : Nat} {xs : List In} (i : Nat) (hi : i < xs.length) (h : ∀ j (hj : j < i), badV n (s + j) (xs[j]'(by omega)) = 0) (hb : badV n (s + i) xs[i] ≠ 0) : firstBad n s xs = some (s + i, badV n (s + i) xs[i]) := by
  induction xs generalizing s i with
  | nil => simp at hi
  | cons x xs ih =>
    cases i with
    | zero =>
      simp only [Nat.add_zero, List.getElem_cons_zero] at hb ⊢
      rw [firstBad, if_neg hb]
    | succ i =>
      have h0 := h 0 (by omega)
      simp only [Nat.add_zero, List.getElem_cons_zero] at h0
      have hih := ih (s := s + 1) i (by simpa using hi) (fun j hj => by
        have := h (j + 1) (by omega)
        rw [show s + 1 + j = s + (j + 1) by omega]
        simpa using this) (by
        rw [show s + 1 + i = s + (i + 1) by omega]
        simpa using hb)
      rw [firstBad, if_pos h0, hih, show s + 1 + i = s + (i + 1) by omega]
      simp

/-- P4.1: of a program that is taken, with one instruction spoilt, the place and the error are known. -/
theorem spoilt {xs : List In} (h : (checkV xs).2 = 0) {i : Nat} (hi : i < xs.length) (y : In) (hb : badV xs.length i y ≠ 0) : checkV (xs.set i y) = (i, badV xs.length i y) := by
  obtain ⟨a1, a2, a3, a4⟩ := taken h
  have hf := firstBad_at (n := xs.length) (s := 0) (xs := xs.set i y) i (by simpa using hi) (fun j hj => by
    rw [List.getElem_set_ne (by omega)]
    simpa using a3 j (by omega)) (by simpa using hb)
  simp only [Nat.zero_add, List.getElem_set_self] at hf
  rw [checkV, List.length_set, if_neg (by omega), if_neg (by omega), hf, endV]

theorem spoilt_end {xs : List In} (h : (checkV xs).2 = 0) : checkV (xs.set (xs.length - 1) ⟨132, 0, 0, 0⟩) = (xs.length - 1, 47) := by
  obtain ⟨a1, a2, a3, a4⟩ := taken h
  have hz : badV xs.length (xs.length - 1) ⟨132, 0, 0, 0⟩ = 0 := bad_of (by decide) (by rw [jumpBad]; rfl)
  have hf : firstBad xs.length 0 (xs.set (xs.length - 1) ⟨132, 0, 0, 0⟩) = none := firstBad_all (fun j hj => by
    rw [List.length_set] at hj
    rw [Nat.zero_add]
    by_cases e : j = xs.length - 1
    · subst e
      rw [List.getElem_set_self]
      exact hz
    · rw [List.getElem_set_ne (by omega)]
      exact a3 j hj)
  have hl : lastB (xs.set (xs.length - 1) ⟨132, 0, 0, 0⟩) = false := by
    rw [lastB, List.getLast?_eq_getElem?, List.length_set, List.getElem?_set_self (by omega)]
    decide
  rw [checkV, List.length_set, if_neg (by omega), if_neg (by omega), hf, endV, hl, List.length_set]
  rfl

theorem flat_set (xs : List In) (i : Nat) (y : In) (hi : i < xs.length) (v0 v1 v2 v3 : Value) (hy : y.cells = [v0, v1, v2, v3]) : flat (xs.set i y) = (((((flat xs).set (i * 4) v0).set (i * 4 + 1) v1).set (i * 4 + 2) v2).set (i * 4 + 3) v3) := by
  induction xs generalizing i with
  | nil => simp at hi
  | cons x xs ih =>
    cases i with
    | zero =>
      rw [List.set_cons_zero, flat_cons, flat_cons, hy]
      rfl
    | succ i =>
      rw [List.set_cons_succ, flat_cons, flat_cons, ih i (by simpa using hi)]
      have hl : x.cells.length = 4 := rfl
      have e : ∀ (l : List Value) (k : Nat) (v : Value), x.cells ++ l.set k v = (x.cells ++ l).set (k + 4) v := fun l k v => by
        rw [List.set_append_right _ _ (by omega), hl]
        congr 2
      rw [e, e, e, e, show i * 4 + 4 = (i + 1) * 4 by omega, show i * 4 + 1 + 4 = (i + 1) * 4 + 1 by omega, show i * 4 + 2 + 4 = (i + 1) * 4 + 2 by omega, show i * 4 + 3 + 4 = (i + 1) * 4 + 3 by omega]

theorem iset {w : World} {base g cap i : Nat} {xs : List In} (h : IOwns w base (.slice (some ⟨g, 0, none⟩) xs.length cap) xs) (hi : i < xs.length) (y : In) (v0 v1 v2 v3 : Value) (hy : y.cells = [v0, v1, v2, v3]) :
    IOwns ((((w.setCell ⟨g, i * 4, none⟩ v0).setCell ⟨g, i * 4 + 1, none⟩ v1).setCell ⟨g, i * 4 + 2, none⟩ v2).setCell ⟨g, i * 4 + 3, none⟩ v3) base (.slice (some ⟨g, 0, none⟩) xs.length cap) (xs.set i y) := by
  have h4 := ((((h.stored (i * 4) v0).1.stored (i * 4 + 1) v1).1.stored (i * 4 + 2) v2).1.stored (i * 4 + 3) v3).1
  unfold IOwns
  rw [List.length_set, flat_set xs i y hi v0 v1 v2 v3 hy]
  exact h4

end Go.Proofs.Ytibaednekfjonaa
