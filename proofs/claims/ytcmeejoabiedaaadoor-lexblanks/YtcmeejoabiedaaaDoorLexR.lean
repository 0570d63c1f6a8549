/-
  The document's own reading of bytes: Blank, digit, letter, in, run, count.
-/
import Derived.Test.YtcmeejoabiedaaaDoorLexW
namespace Go.Proofs.YtcmeejoabiedaaaDoor
open Go.RowKit
set_option maxRecDepth 100000

theorem blank_nat (c : UInt8) : blankB c = (decide (c.toNat = 32) || decide (c.toNat = 9) || decide (c.toNat = 10) || decide (c.toNat = 13)) := by
  have : ∀ d : Fin 256, blankB (UInt8.ofNat d.val) = (decide ((UInt8.ofNat d.val).toNat = 32) || decide ((UInt8.ofNat d.val).toNat = 9) || decide ((UInt8.ofNat d.val).toNat = 10) || decide ((UInt8.ofNat d.val).toNat = 13)) := by decide
  have k := this ⟨c.toNat, c.toNat_lt⟩
  simpa using k

/-- The bytes of a kind of run. -/
def kindB (k : Nat) : UInt8 → Bool := if k = 1 then sixB else if k = 2 then quadB else wordB
theorem eq_nat (c : UInt8) (k : Nat) (hk : k < 256) : (c == UInt8.ofNat k) = decide (c.toNat = k) := by
  rw [Bool.eq_iff_iff, beq_iff_eq, decide_eq_true_eq]
  constructor
  · rintro rfl; simp; omega
  · intro h; rw [← h]; simp

end Go.Proofs.YtcmeejoabiedaaaDoor
