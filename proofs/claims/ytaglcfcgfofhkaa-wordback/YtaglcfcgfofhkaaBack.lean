/-
  There and back: what Get says of what Put laid, and what Put lays of what Get said.
-/
import Derived.Test.YtaglcfcgfofhkaaJoins2
namespace Go.Proofs.Ytaglcfcgfofhkaa
open Go.RowKit

theorem putTo_get (xs : List UInt8) (p S v k : Nat) (hk : k ≤ S) (hp : p + S ≤ xs.length) (i : Nat) :
    (putTo xs p S v k)[i]? = if p + S - k ≤ i ∧ i < p + S then some (UInt8.ofNat (shr8 v (p + S - 1 - i))) else xs[i]? := by
  induction k with
  | zero => rw [if_neg (by omega)]; rfl
  | succ k ih =>
    have hl := putTo_len xs p S v k
    simp only [putTo]
    by_cases e : i = p + S - 1 - k
    · subst e
      rw [List.getElem?_set_self (by omega), if_pos (by omega), show p + S - 1 - (p + S - 1 - k) = k by omega]
    · rw [List.getElem?_set_ne (by omega), ih (by omega)]
      by_cases c : p + S - k ≤ i ∧ i < p + S
      · rw [if_pos c, if_pos (by omega)]
      · rw [if_neg c, if_neg (by omega)]

/-- The byte at place i of what Put laid. -/
theorem put_in (xs : List UInt8) (p S v j : Nat) (hp : p + S ≤ xs.length) (hj : j < S) : ((putTo xs p S v S).getD (p + j) 0).toNat = shr8 v (S - 1 - j) % 256 := by
  rw [List.getD_eq_getElem?_getD, putTo_get xs p S v S (Nat.le_refl _) hp, if_pos (by omega), show p + S - 1 - (p + j) = S - 1 - j by omega]
  simp

theorem put_out (xs : List UInt8) (p S v i : Nat) (hp : p + S ≤ xs.length) (hi : i < p ∨ p + S ≤ i) : (putTo xs p S v S)[i]? = xs[i]? := by
  rw [putTo_get xs p S v S (Nat.le_refl _) hp, if_neg (by omega)]

theorem shr8_1 (v : Nat) : shr8 v 1 = v / 256 := by simp [shr8]
theorem shr8_2 (v : Nat) : shr8 v 2 = v / 65536 := by simp [shr8]
theorem shr8_3 (v : Nat) : shr8 v 3 = v / 16777216 := by simp [shr8]

theorem num1 (xs : List UInt8) (p : Nat) : numAt xs p 1 = (xs.getD (p + 0) 0).toNat := by simp [numAt]
theorem num2 (xs : List UInt8) (p : Nat) : numAt xs p 2 = (xs.getD (p + 0) 0).toNat * 256 + (xs.getD (p + 1) 0).toNat := by simp [numAt]
theorem num4 (xs : List UInt8) (p : Nat) : numAt xs p 4 = (((xs.getD (p + 0) 0).toNat * 256 + (xs.getD (p + 1) 0).toNat) * 256 + (xs.getD (p + 2) 0).toNat) * 256 + (xs.getD (p + 3) 0).toNat := by simp [numAt]

/-- v's lowest bits. -/
def lowOf (S v : Nat) : Nat := v % 256 ^ S
/-- Their first byte. -/
def hiOf (S v : Nat) : Nat := v % 256 ^ S / 256 ^ (S - 1)

theorem get_put (xs : List UInt8) (p S v : Nat) (hS : S = 1 ∨ S = 2 ∨ S = 4) (hp : p + S ≤ xs.length) :
    numAt (putTo xs p S v S) p S = lowOf S v ∧ numAt (putTo xs p S v S) p 1 = hiOf S v := by
  have z : shr8 v 0 = v := shr8_zero v
  rcases hS with rfl | rfl | rfl
  · have h0 := put_in xs p 1 v 0 hp (by omega)
    rw [num1, h0]
    simp [lowOf, hiOf, z]
  · have h0 := put_in xs p 2 v 0 hp (by omega)
    have h1 := put_in xs p 2 v 1 hp (by omega)
    rw [num1, num2, h0, h1]
    simp only [lowOf, hiOf, Nat.sub_zero, Nat.reduceSub, shr8_1, z, Nat.reducePow]
    omega
  · have h0 := put_in xs p 4 v 0 hp (by omega)
    have h1 := put_in xs p 4 v 1 hp (by omega)
    have h2 := put_in xs p 4 v 2 hp (by omega)
    have h3 := put_in xs p 4 v 3 hp (by omega)
    rw [num1, num4, h0, h1, h2, h3]
    simp only [lowOf, hiOf, Nat.sub_zero, Nat.reduceSub, shr8_1, shr8_2, shr8_3, z, Nat.reducePow]
    omega

theorem num_byte (xs : List UInt8) (p S j : Nat) (hS : S = 1 ∨ S = 2 ∨ S = 4) (hj : j < S) : shr8 (numAt xs p S) (S - 1 - j) % 256 = (xs.getD (p + j) 0).toNat := by
  have b0 := (xs.getD (p + 0) 0).toNat_lt
  have b1 := (xs.getD (p + 1) 0).toNat_lt
  have b2 := (xs.getD (p + 2) 0).toNat_lt
  have b3 := (xs.getD (p + 3) 0).toNat_lt
  rcases hS with rfl | rfl | rfl
  · obtain rfl : j = 0 := by omega
    rw [num1]
    simp only [Nat.sub_self, shr8_zero]
    omega
  · rw [num2]
    rcases (show j = 0 ∨ j = 1 by omega) with rfl | rfl
    · simp only [Nat.reduceSub, Nat.sub_zero, shr8_1]
      omega
    · simp only [Nat.reduceSub, shr8_zero]
      omega
  · rw [num4]
    rcases (show j = 0 ∨ j = 1 ∨ j = 2 ∨ j = 3 by omega) with rfl | rfl | rfl | rfl
    · simp only [Nat.reduceSub, Nat.sub_zero, shr8_3]
      omega
    · simp only [Nat.reduceSub, shr8_2]
      omega
    · simp only [Nat.reduceSub, shr8_1]
      omega
    · simp only [Nat.reduceSub, shr8_zero]
      omega

theorem put_get (xs : List UInt8) (p S v : Nat) (hS : S = 1 ∨ S = 2 ∨ S = 4) (hp : p + S ≤ xs.length) :
    putTo (putTo xs p S v S) p S (numAt xs p S) S = xs := by
  have hl := putTo_len xs p S v S
  apply List.ext_getElem?
  intro i
  rw [putTo_get _ p S _ S (Nat.le_refl _) (by omega)]
  by_cases c : p + S - S ≤ i ∧ i < p + S
  · rw [if_pos c]
    obtain ⟨j, rfl⟩ : ∃ j, i = p + j := ⟨i - p, by omega⟩
    rw [show p + S - 1 - (p + j) = S - 1 - j by omega]
    have h := num_byte xs p S j hS (by omega)
    have hi : p + j < xs.length := by omega
    rw [List.getElem?_eq_getElem hi]
    rw [List.getD_eq_getElem?_getD, List.getElem?_eq_getElem hi, Option.getD_some] at h
    congr 1
    apply UInt8.toNat_inj.1
    rw [← h]
    simp
  · rw [if_neg c, put_out xs p S v i hp (by omega)]

end Go.Proofs.Ytaglcfcgfofhkaa
