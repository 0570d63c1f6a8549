/-
  Numbers as texts: no Go text here.
-/
import Derived.Test.YtcmeejoabiedaaaDoorDec
namespace Go.Proofs.YtcmeejoabiedaaaDoor
open Go.RowKit
set_option maxRecDepth 100000

def isDig (c : UInt8) : Bool := decide (48 ≤ c.toNat) && decide (c.toNat ≤ 57)

theorem dg_dig {n : Nat} (h : n < 10) : isDig (dg n) = true := by
  have := dg_nat h
  simp [isDig, this]; omega

/-- What Number says: the number that digits say behind v; none: there is another letter, or it is too great. -/
def numFrom (most : Nat) : Nat → List UInt8 → Option Nat
  | v, [] => some v
  | v, c :: r => if isDig c = true then (if most < 10 * v + (c.toNat - 48) then none else numFrom most (10 * v + (c.toNat - 48)) r) else none
def numberV (most : Nat) (s : List UInt8) : Option Nat := if s = [] ∨ (1 < s.length ∧ s.head? = some 48) then none else numFrom most 0 s

theorem numFrom_snoc (most v : Nat) (a : List UInt8) (c : UInt8) : numFrom most v (a ++ [c]) = (numFrom most v a).bind fun u => numFrom most u [c] := by
  induction a generalizing v with
  | nil => rfl
  | cons x a ih =>
    simp only [List.cons_append, numFrom]
    split
    · split
      · rfl
      · exact ih _
    · rfl

theorem numFrom_decZ (most n : Nat) (hn : n ≤ most) (h20 : n < 10 ^ 20) : numFrom most 0 (decZ n) = some n := by
  induction n using Nat.strongRecOn with
  | _ n ih =>
    by_cases h0 : n = 0
    · subst h0; rfl
    · rw [decZ_step n (by omega) h20, numFrom_snoc, ih (n / 10) (by omega) (by omega) (by omega)]
      have h10 : n % 10 < 10 := by omega
      have e := dg_nat h10
      have hv : 10 * (n / 10) + ((dg (n % 10)).toNat - 48) = n := by omega
      simp only [Option.bind_some, numFrom, dg_dig h10, hv]
      simp [show ¬ most < n by omega]

theorem decZ_head (n : Nat) (h0 : 0 < n) (h20 : n < 10 ^ 20) : ∃ c r, decZ n = c :: r ∧ c ≠ 48 ∧ isDig c = true := by
  induction n using Nat.strongRecOn with
  | _ n ih =>
    rw [decZ_step n h0 h20]
    by_cases h : n / 10 = 0
    · have h10 : n % 10 < 10 := by omega
      have e := dg_nat h10
      refine ⟨dg (n % 10), [], by simp [decZ, h], ?_, dg_dig h10⟩
      intro hc
      have := congrArg UInt8.toNat hc
      simp at this
      omega
    · obtain ⟨c, r, hr, hc⟩ := ih (n / 10) (by omega) (by omega) (by omega)
      exact ⟨c, r ++ [dg (n % 10)], by rw [hr]; rfl, hc⟩

theorem dec_pos (n : Nat) (h0 : 0 < n) : dec n = decZ n := by rw [decZ, if_neg (by omega)]

theorem dec_zero : dec 0 = [48] := by decide

theorem dec_ne (n : Nat) (h20 : n < 10 ^ 20) : dec n ≠ [] := by rw [dec_step n h20]; simp

theorem dec_dig (n : Nat) (h20 : n < 10 ^ 20) : ∀ c ∈ dec n, isDig c = true := by
  have key : ∀ n, n < 10 ^ 20 → ∀ c ∈ decZ n, isDig c = true := by
    intro n
    induction n using Nat.strongRecOn with
    | _ n ih =>
      intro h c hc
      by_cases h0 : n = 0
      · subst h0; simp [decZ] at hc
      · rw [decZ_step n (by omega) h] at hc
        rcases List.mem_append.1 hc with hc | hc
        · exact ih (n / 10) (by omega) (by omega) c hc
        · simp only [List.mem_singleton] at hc
          subst hc
          exact dg_dig (by omega)
  by_cases h0 : n = 0
  · subst h0; rw [dec_zero]; decide
  · rw [dec_pos n (by omega)]; exact key n h20

theorem numberV_dec (most n : Nat) (hn : n ≤ most) (h20 : n < 10 ^ 20) : numberV most (dec n) = some n := by
  by_cases h0 : n = 0
  · subst h0; rw [dec_zero]; simp [numberV, numFrom, isDig]
  · have hd := dec_pos n (by omega)
    obtain ⟨c, r, hr, hc, -⟩ := decZ_head n (by omega) h20
    rw [hd, numberV, if_neg, numFrom_decZ most n hn h20]
    rw [hr]
    simp [hc]

end Go.Proofs.YtcmeejoabiedaaaDoor
