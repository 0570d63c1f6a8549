/-
  Low: a number without its sign.
-/
import Derived.Test.YtlfjpbedjmnpaaaBase
namespace Go.Proofs.Ytlfjpbedjmnpaaa
open Go.RowKit
set_option maxRecDepth 100000

/-- The number's 63 low bits. -/
def lowV (x : Int) : Nat := (BitVec.ofInt IntKind.i64.bits x).toNat % 2 ^ 63

theorem lowV_lt (x : Int) : lowV x < 2 ^ 63 := Nat.mod_lt _ (by decide)

theorem low_bits (x : Int) : bits .and .i64 x 9223372036854775807 = (lowV x : Int) := by
  have hm : (9223372036854775807 : Int) = ((2 ^ 63 - 1 : Nat) : Int) := by decide
  rw [hm]
  have h64 : IntKind.i64.bits = 64 := rfl
  simp only [bits, BitVec.ofInt_natCast, BitVec.toNat_and, BitVec.toNat_ofNat, h64]
  rw [show (2 ^ 63 - 1) % 2 ^ 64 = 2 ^ 63 - 1 by decide, Nat.and_two_pow_sub_one_eq_mod]
  have h := lowV_lt x
  unfold lowV at h ⊢
  generalize (BitVec.ofInt IntKind.i64.bits x).toNat % 2 ^ 63 = n at *
  rw [IntKind.wrap_i64]
  omega

set_option maxHeartbeats 400000 in
theorem low_any (x : Int) (w : World) : Calls Try.prog 14 #[.int .i64 x] w fun e w' => e = .returned (.int .i64 (lowV x : Int)) ∧ w = w' := by
  go_enter Try.func14, Try.ntmps14
  go_wp2
  go_ret
  exact ⟨ret_int (low_bits x), rfl⟩

end Go.Proofs.Ytlfjpbedjmnpaaa
