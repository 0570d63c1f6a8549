/-
  The document's own Space, zero, Field and Head of chapter 8.
-/
import Derived.Test.YtgfiadljjlajaabForgeV
import Derived.Test.YtgfiadljjlajaabEncR
import Derived.Test.YtgfiadljjlajaabFrameQ
namespace Go.Proofs.Ytgfiadljjlajaab
open Go.RowKit
set_option maxRecDepth 100000

theorem zeroB_end (xs : List UInt8) (h : xs.length = 16) : zeroB xs 16 = true := by
  unfold zeroB
  rw [List.drop_eq_nil_of_le (by omega)]
  rfl
theorem zeroB_step (xs : List UInt8) (k : Nat) (h : k < xs.length) : zeroB xs k = (xs[k] == 0 && zeroB xs (k + 1)) := by
  unfold zeroB
  rw [List.drop_eq_getElem_cons h, List.all_cons]

theorem be2_eq (v : Nat) : bytesV 2 v = be2 v := by
  show [UInt8.ofNat (shr8 v 1), UInt8.ofNat (shr8 v 0)] = _
  simp [be2, shr8]
theorem be4_eq (v : Nat) : bytesV 4 v = be4 v := by
  show [UInt8.ofNat (shr8 v 3), UInt8.ofNat (shr8 v 2), UInt8.ofNat (shr8 v 1), UInt8.ofNat (shr8 v 0)] = _
  simp [be4, shr8]

theorem or_top (k n : Nat) (h : n < 2 ^ k) : n ||| 2 ^ k = 2 ^ k + n := by
  have := Nat.two_pow_add_eq_or_of_lt h 1
  rw [Nat.mul_one] at this
  rw [Nat.or_comm]
  exact this.symm
theorem or_two (k n : Nat) (h : n < 2 ^ k) : (2 ^ (k + 1) + n) ||| 2 ^ k = 2 ^ (k + 1) + (2 ^ k + n) := by
  have h2 : 2 ^ k + n < 2 ^ (k + 1) := by rw [Nat.pow_succ]; omega
  have h1 : n < 2 ^ (k + 1) := by rw [Nat.pow_succ]; omega
  rw [← or_top (k + 1) n h1, Nat.or_comm n, Nat.or_assoc, or_top k n h, Nat.or_comm, or_top (k + 1) _ h2]

/-- A header's number, by bits. -/
theorem hd_bits (K seq : Nat) (beg fin : Bool) (h : seq < 2 ^ K) : ((if beg = true then seq ||| 2 ^ (K + 1) else seq) ||| (if fin = true then 2 ^ K else 0)) = (if beg = true then 2 ^ (K + 1) else 0) + (if fin = true then 2 ^ K else 0) + seq := by
  have h1 : seq < 2 ^ (K + 1) := by rw [Nat.pow_succ]; omega
  cases beg <;> cases fin <;> simp only [if_true, if_false, Bool.false_eq_true]
  · simp
  · rw [or_top K seq h]; omega
  · rw [or_top (K + 1) seq h1]; simp
  · rw [or_top (K + 1) seq h1, or_two K seq h]; omega

end Go.Proofs.Ytgfiadljjlajaab
