/-
  The first bits of some bytes; the document's own Mask, same, Net, In. How long answers are; what is said of arrays that are told apart.
-/
import Derived.Test.YtbdmpjnlgdahmabGreatDoorLotP20
import Derived.Test.YtbdmpjnlgdahmabGreatDoorLotP35
namespace Go.Proofs.YtbdmpjnlgdahmabGreatDoor
open Go.RowKit
set_option maxRecDepth 100000

/-- The first n bits of a byte. -/
def topB (n : Nat) (x : UInt8) : UInt8 := if n = 0 then 0 else if n < 8 then UInt8.ofNat (x.toNat / 2 ^ (8 - n) * 2 ^ (8 - n)) else x
def maskV : Nat → List UInt8 → List UInt8
  | _, [] => []
  | n, x :: r => topB n x :: maskV (n - 8) r

theorem mask_len (n : Nat) (xs : List UInt8) : (maskV n xs).length = xs.length := by
  induction xs generalizing n with
  | nil => rfl
  | cons x r ih => rw [maskV, List.length_cons, List.length_cons, ih]
theorem mask_get (n : Nat) (xs : List UInt8) (j : Nat) (h : j < xs.length) : (maskV n xs)[j]'(by rw [mask_len]; exact h) = topB (n - 8 * j) xs[j] := by
  induction xs generalizing n j with
  | nil => simp at h
  | cons x r ih =>
    cases j with
    | zero => rfl
    | succ j =>
      simp only [maskV, List.getElem_cons_succ]
      rw [ih (n - 8) j (by simpa using h)]
      congr 1
      omega

/-- Masked up to a place. -/
def mixV (n : Nat) (xs : List UInt8) (j : Nat) : List UInt8 := (maskV n xs).take j ++ xs.drop j
theorem mix_len (n : Nat) (xs : List UInt8) (j : Nat) (h : j ≤ xs.length) : (mixV n xs j).length = xs.length := by
  unfold mixV
  rw [List.length_append, List.length_take, List.length_drop, mask_len]
  omega
theorem mix_next (n : Nat) (xs : List UInt8) (j : Nat) (h : j < xs.length) : mixV n xs (j + 1) = (mixV n xs j).set j (topB (n - 8 * j) xs[j]) := by
  have hl : (List.take j (maskV n xs)).length = j := by rw [List.length_take, mask_len]; omega
  unfold mixV
  rw [List.set_append_right _ _ (by omega), hl, Nat.sub_self, List.drop_eq_getElem_cons h, List.set_cons_zero, List.take_succ_eq_append_getElem (by rw [mask_len]; exact h), mask_get n xs j h]
  simp
theorem mix_at (n : Nat) (xs : List UInt8) (j : Nat) (h : j < xs.length) : (mixV n xs j)[j]? = some xs[j] := by
  unfold mixV
  rw [List.getElem?_append_right (by rw [List.length_take, mask_len]; omega), List.length_take, mask_len, show j - min j xs.length = 0 by omega, List.getElem?_drop, Nat.add_zero, List.getElem?_eq_getElem h]

theorem set_same {α : Type} (l : List α) (j : Nat) (v : α) (h : l[j]? = some v) : l.set j v = l := by
  apply List.ext_getElem?
  intro i
  rw [List.getElem?_set]
  by_cases e : j = i
  · subst e
    rw [if_pos rfl, h]
    obtain ⟨hlt, -⟩ := List.getElem?_eq_some_iff.1 h
    simp [hlt]
  · rw [if_neg e]

theorem andNot_top : ∀ (x : Fin 256) (m : Fin 7), bits .andNot .u8 ((x.val : Nat) : Int) (((2 ^ (m.val + 1) - 1 : Nat)) : Int) = ((x.val / 2 ^ (m.val + 1) * 2 ^ (m.val + 1) : Nat) : Int) := by decide +kernel

/-- P6.3. -/
def netE (n : Nat) (bits : Int) : Int := if n ≠ 4 ∧ n ≠ 16 then 60 else if bits < 0 ∨ 8 * (n : Int) < bits then 61 else 0
def netV (xs : List UInt8) (bits : Int) : List UInt8 := if netE xs.length bits = 0 then maskV bits.toNat xs else []
/-- P6.4. -/
def inE (xs ys : List UInt8) (bits : Int) : Int := if ys.length ≠ xs.length then 60 else if netE xs.length bits = 0 then (if maskV bits.toNat ys = ys then 0 else 62) else netE xs.length bits
def inV (xs ys : List UInt8) (bits : Int) : Bool := decide (inE xs ys bits = 0) && decide (maskV bits.toNat xs = ys)

theorem netE_ok {n : Nat} {bits : Int} (h : netE n bits = 0) : (n = 4 ∨ n = 16) ∧ 0 ≤ bits ∧ bits ≤ 8 * (n : Int) := by
  unfold netE at h
  split at h
  · simp at h
  · split at h
    · simp at h
    · omega

end Go.Proofs.YtbdmpjnlgdahmabGreatDoor

namespace Go.Proofs.YtbdmpjnlgdahmabGreatDoor
open Go.RowKit
set_option maxRecDepth 100000

theorem list4 : ∀ (xs : List UInt8), xs.length = 4 → ∃ a b c d, xs = [a, b, c, d]
  | [a, b, c, d], _ => ⟨a, b, c, d, rfl⟩

theorem parse4_some {s r : List UInt8} (h : parse4V s = some r) : r.length = 4 := by
  unfold parse4V at h
  split at h
  · rename_i h4
    cases ha : allV (numberV 255) (splitV 46 s) with
    | none => rw [ha] at h; cases h
    | some ns =>
      rw [ha] at h
      simp only [Option.map_some, Option.some.injEq] at h
      subst h
      rw [List.length_map, allV_len ha, h4]
  · cases h
theorem parse4_len (s : List UInt8) : ((parse4V s).getD (List.replicate 4 0)).length = 4 := by
  cases h : parse4V s with
  | none => rfl
  | some r => exact parse4_some h
theorem parse6_some {s r : List UInt8} (h : parse6V s = some r) : r.length = 16 := by
  unfold parse6V at h
  split at h
  · cases hx : groupsV s with
    | none => rw [hx] at h; cases h
    | some x =>
      rw [hx] at h
      simp only [Option.bind_some] at h
      split at h
      · simp only [Option.some.injEq] at h
        subst h
        rw [bytes_len]; omega
      · cases h
  · rename_i k _
    cases hx : groupsV (s.take k) with
    | none => rw [hx] at h; cases h
    | some x =>
      cases hy : groupsV (s.drop (k + 2)) with
      | none => rw [hx, hy] at h; cases h
      | some y =>
        rw [hx, hy] at h
        simp only [Option.bind_some] at h
        split at h
        · simp only [Option.some.injEq] at h
          subst h
          rw [bytes_len, List.length_append, List.length_append, List.length_replicate]; omega
        · cases h
theorem parse6_len (s : List UInt8) : ((parse6V s).getD (List.replicate 16 0)).length = 16 := by
  cases h : parse6V s with
  | none => rfl
  | some r => exact parse6_some h

end Go.Proofs.YtbdmpjnlgdahmabGreatDoor
