/-
  The document's own question of a jump: Holds.
-/
import Derived.Test.YtaldhnionkacmabVmA
namespace Go.Proofs.Ytaldhnionkacmab
open Go.RowKit
set_option maxRecDepth 100000

/-- The other number: X's, or K. -/
def sideV (c : Int) (k x : Nat) : Nat := if byxB c = true then x else k
/-- Is a jump's question true? d: its code, its bit 8 struck. -/
def holdsV (d : Int) (a b : Nat) : Bool := if d == 21 then a == b else if d == 37 then decide (b < a) else if d == 53 then decide (b ≤ a) else (a &&& b) != 0

theorem cast_beq (a b : Nat) : ((a : Int) == (b : Int)) = (a == b) := by
  by_cases h : a = b
  · subst h; simp
  · have h1 : (a == b) = false := by rw [beq_eq_false_iff_ne]; exact h
    rw [h1, beq_eq_false_iff_ne]
    omega
theorem cast_bne (a : Nat) : ((a : Int) != 0) = (a != 0) := by
  have := cast_beq a 0
  simp only [bne]
  rw [← this]
  rfl

end Go.Proofs.Ytaldhnionkacmab
