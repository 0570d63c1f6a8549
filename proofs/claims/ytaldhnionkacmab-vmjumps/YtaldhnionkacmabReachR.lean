/-
  The document's own Reach.
-/
import Derived.Test.YtaldhnionkacmabChk2
import Derived.Test.YtaldhnionkacmabBoolR
namespace Go.Proofs.Ytaldhnionkacmab
open Go.RowKit
set_option maxRecDepth 100000

/-- What one instruction adds. -/
def stepB (x : In) (i : Nat) (bs : List Bool) : List Bool :=
  if bs.getD i false = false ∨ retB x.code.toNat = true then bs
  else if ((x.code.toNat : Int) == 5) = true then bs.set (i + 1 + x.k.toNat) true
  else if jumpB x.code.toNat = true then (bs.set (i + 1 + x.jt.toNat) true).set (i + 1 + x.jf.toNat) true
  else bs.set (i + 1) true
def reachTo (xs : List In) : Nat → List Bool
  | 0 => (List.replicate xs.length false).set 0 true
  | i + 1 => match xs[i]? with
    | some x => stepB x i (reachTo xs i)
    | none => reachTo xs i
/-- P4.2. -/
def reachV (xs : List In) : List Bool := if (checkV xs).2 = 0 then reachTo xs xs.length else []

theorem stepB_len (x : In) (i : Nat) (bs : List Bool) : (stepB x i bs).length = bs.length := by
  unfold stepB
  split
  · rfl
  · split
    · simp
    · split <;> simp

theorem reachTo_len (xs : List In) (i : Nat) : (reachTo xs i).length = xs.length := by
  induction i with
  | zero => simp [reachTo]
  | succ i ih =>
    rw [reachTo]
    cases xs[i]? with
    | none => exact ih
    | some x => rw [stepB_len, ih]

theorem reachTo_succ {xs : List In} {i : Nat} (h : i < xs.length) : reachTo xs (i + 1) = stepB xs[i] i (reachTo xs i) := by
  rw [reachTo, List.getElem?_eq_getElem h]

theorem firstBad_none {n i : Nat} {xs : List In} (h : firstBad n i xs = none) : ∀ j (hj : j < xs.length), badV n (i + j) xs[j] = 0 := by
  induction xs generalizing i with
  | nil => intro j hj; simp at hj
  | cons x xs ih =>
    rw [firstBad] at h
    split at h
    · rename_i h0
      intro j hj
      cases j with
      | zero => simpa using h0
      | succ j =>
        have := ih h j (by simpa using hj)
        simpa [Nat.add_assoc, Nat.add_comm, Nat.add_left_comm] using this
    · cases h

theorem firstBad_some {n i : Nat} {xs : List In} {r : Nat × Int} (h : firstBad n i xs = some r) : r.2 ≠ 0 := by
  induction xs generalizing i with
  | nil => simp [firstBad] at h
  | cons x xs ih =>
    rw [firstBad] at h
    split at h
    · exact ih h
    · rename_i h0
      simp only [Option.some.injEq] at h
      subst h
      exact h0

/-- A program that is taken. -/
theorem taken {xs : List In} (h : (checkV xs).2 = 0) : 0 < xs.length ∧ xs.length ≤ 4096 ∧ (∀ j (hj : j < xs.length), badV xs.length j xs[j] = 0) ∧ lastB xs = true := by
  unfold checkV at h
  split at h
  · simp at h
  · split at h
    · simp at h
    · cases hf : firstBad xs.length 0 xs with
      | some r => rw [hf] at h; exact absurd h (firstBad_some hf)
      | none =>
        rw [hf, endV] at h
        refine ⟨by omega, by omega, fun j hj => ?_, ?_⟩
        · have := firstBad_none hf j hj
          simpa using this
        · split at h
          · assumption
          · simp at h

theorem bad_zero {n i : Nat} {x : In} (h : badV n i x = 0) : faultV x.code.toNat x.k.toNat = 0 ∧ jumpBad x.code.toNat x.jt.toNat x.jf.toNat x.k.toNat (n - 1 - i) = false := by
  unfold badV at h
  split at h
  · rename_i h0
    split at h
    · simp at h
    · rename_i h1
      exact ⟨h0, by simpa using h1⟩
  · exact absurd h (by assumption)

theorem jumpBad_out {c : Int} {t f k room : Nat} (h : jumpBad c t f k room = false) : ((c == 5) = true → k < room) ∧ (jumpB c = true → t < room ∧ f < room) := by
  unfold jumpBad at h
  simp only [Bool.or_eq_false_iff, Bool.and_eq_false_iff, decide_eq_false_iff_not, Nat.not_le] at h
  refine ⟨fun h5 => ?_, fun hj => ?_⟩
  · rcases h.1 with q | q
    · rw [h5] at q; cases q
    · exact q
  · rcases h.2 with q | q
    · rw [hj] at q; cases q
    · exact q

theorem last_ret {xs : List In} (h : lastB xs = true) {j : Nat} (hj : j < xs.length) (hr : retB xs[j].code.toNat = false) : j + 1 < xs.length := by
  apply Classical.byContradiction
  intro hn
  obtain rfl : j = xs.length - 1 := by omega
  rw [lastB, List.getLast?_eq_getElem?, List.getElem?_eq_getElem hj] at h
  simp only at h
  rw [hr] at h
  cases h

end Go.Proofs.Ytaldhnionkacmab
