/-
  Package graph as landed: where the blocks of a program begin. Package graph as landed: the numbers of the blocks.
-/
import Derived.Test.YtelgfegkobkhiaaLotP27
import Derived.Test.YtelgfegkobkhiaaLotP14
import Derived.Test.YtelgfegkobkhiaaLotP16
namespace Go.Proofs.Ytelgfegkobkhiaa
open Go.RowKit
set_option maxRecDepth 100000

/-- What an instruction says of where blocks begin. -/
def begStep (x : In) (i : Nat) (bs : List Bool) : List Bool :=
  if leavesB x = false then bs else if (classV x.code.toNat == 5) = true then ((bs.set (i + 1) true).set (yesG i x) true).set (noG i x) true else bs.set (i + 1) true
def begTo (xs : List In) : Nat → List Bool
  | 0 => List.replicate (xs.length + 1) false
  | k + 1 => match xs[k]? with
    | some x => begStep x k (begTo xs k)
    | none => begTo xs k
theorem begStep_len (x : In) (i : Nat) (bs : List Bool) : (begStep x i bs).length = bs.length := by
  unfold begStep
  split
  · rfl
  · split <;> simp
theorem begTo_len (xs : List In) (k : Nat) : (begTo xs k).length = xs.length + 1 := by
  induction k with
  | zero => simp [begTo]
  | succ k ih =>
    rw [begTo]
    cases xs[k]? with
    | none => exact ih
    | some x => rw [begStep_len]; exact ih
theorem begTo_succ {xs : List In} {k : Nat} (h : k < xs.length) : begTo xs (k + 1) = begStep xs[k] k (begTo xs k) := by
  rw [begTo, List.getElem?_eq_getElem h]

theorem class5 {c : Int} (h : classV c = 5) : c = 5 ∨ jumpB c = true := by
  have hk : knownB c = true := by
    cases hk : knownB c with
    | true => rfl
    | false => rw [classV, if_neg (by rw [hk]; simp)] at h; cases h
  have := known_all (fun c => (classV c != 5) || (c == 5 || jumpB c)) (by decide +kernel) hk
  rw [h] at this
  simpa using this
theorem leaves_ret' {c : Int} (h : jumpB c = true) : retB c = false := by
  simp only [jumpB, Bool.or_eq_true, beq_iff_eq] at h
  simp only [retB, Bool.or_eq_false_iff, beq_eq_false_iff_ne]
  omega
/-- The goals of a jump in a program that is taken. -/
theorem goals_in {xs : List In} (h : (checkV xs).2 = 0) {k : Nat} (hk : k < xs.length) (hc : classV xs[k].code.toNat = 5) : yesG k xs[k] < xs.length ∧ noG k xs[k] < xs.length ∧ k + 1 < xs.length := by
  obtain ⟨-, -, hb, hl⟩ := taken h
  have z := bad_zero (hb k hk)
  have o := jumpBad_out z.2
  have hr : retB xs[k].code.toNat = false := by
    rcases class5 hc with e | e
    · rw [e]; rfl
    · have := leaves_ret' e
      exact this
  have hlast := last_ret hl hk hr
  unfold yesG noG
  rcases class5 hc with e | e
  · have h5 : ((xs[k].code.toNat : Int) == 5) = true := by rw [e]; rfl
    have := o.1 h5
    simp only [h5, if_true]
    omega
  · have h5 : ((xs[k].code.toNat : Int) == 5) = false := by
      cases h5 : ((xs[k].code.toNat : Int) == 5) with
      | false => rfl
      | true => rw [jump_not5 h5] at e; cases e
    have := o.2 e
    rw [h5]
    simp only [Bool.false_eq_true, if_false]
    omega

end Go.Proofs.Ytelgfegkobkhiaa

namespace Go.Proofs.Ytelgfegkobkhiaa
open Go.RowKit
set_option maxRecDepth 100000

def nv (n : Nat) : Value := .int .i64 (n : Int)
/-- How many blocks begin up to a place, the first left out. -/
def numN (bs : List Bool) : Nat → Nat
  | 0 => 0
  | i + 1 => numN bs i + (if bs.getD (i + 1) false = true then 1 else 0)
theorem numN_le (bs : List Bool) (i : Nat) : numN bs i ≤ i := by
  induction i with
  | zero => exact Nat.le_refl _
  | succ i ih => rw [numN]; split <;> omega
def numL (bs : List Bool) (N k : Nat) : List Nat := (List.range N).map fun i => if i < k then numN bs i else 0
theorem numL_len (bs : List Bool) (N k : Nat) : (numL bs N k).length = N := by simp [numL]
theorem numL_get {bs : List Bool} {N k i : Nat} (hi : i < N) (hk : i < k) : (numL bs N k)[i]? = some (numN bs i) := by
  rw [numL, List.getElem?_map, List.getElem?_range hi]
  simp [hk]
theorem numL_set {bs : List Bool} {N k : Nat} : (numL bs N k).set k (numN bs k) = numL bs N (k + 1) := by
  apply List.ext_getElem?
  intro i
  rw [List.getElem?_set]
  by_cases h : k = i
  · subst h
    rw [if_pos rfl, numL_len]
    by_cases hi : k < N
    · rw [if_pos hi, numL_get hi (by omega)]
    · rw [if_neg hi, List.getElem?_eq_none (by rw [numL_len]; omega)]
  · rw [if_neg h]
    by_cases hi : i < N
    · unfold numL
      rw [List.getElem?_map, List.getElem?_map, List.getElem?_range hi]
      simp only [Option.map_some, Option.some.injEq]
      by_cases hk : i < k
      · rw [if_pos hk, if_pos (by omega)]
      · rw [if_neg hk, if_neg (by omega)]
    · rw [List.getElem?_eq_none (by rw [numL_len]; omega), List.getElem?_eq_none (by rw [numL_len]; omega)]
theorem numL_one (bs : List Bool) (N : Nat) : numL bs N 1 = List.replicate N 0 := by
  apply List.ext_getElem?
  intro i
  by_cases hi : i < N
  · rw [numL, List.getElem?_map, List.getElem?_range hi, List.getElem?_replicate, if_pos hi]
    simp only [Option.map_some]
    split
    · have : i = 0 := by omega
      subst this
      rfl
    · rfl
  · rw [List.getElem?_eq_none (by rw [numL_len]; omega), List.getElem?_eq_none (by simp; omega)]

end Go.Proofs.Ytelgfegkobkhiaa
