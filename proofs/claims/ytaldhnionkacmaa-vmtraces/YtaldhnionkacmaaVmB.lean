/-
  The document's own question of a jump: Holds.
-/
import Derived.Test.YtaldhnionkacmaaVmA
namespace Go.Proofs.Ytaldhnionkacmaa
open Go.RowKit
set_option maxRecDepth 100000

/-- The other number: X's, or K. -/
def sideV (c : Int) (k x : Nat) : Nat := if byxB c = true then x else k
/-- Is a jump's question true? d: its code, its bit 8 struck. -/
def holdsV (d : Int) (a b : Nat) : Bool := if d == 21 then a == b else if d == 37 then decide (b < a) else if d == 53 then decide (b ≤ a) else (a &&& b) != 0

theorem cast_beq (a b : Nat) : ((a : Int) == (b : Int)) = (a == b) := by
  by_cases h : a = b
  · subst h; simp
  · have h1 : (a == b) = false := by rw [beq_eq_false_iff_ne]; exact h
    rw [h1, beq_eq_false_iff_ne]
    omega
theorem cast_bne (a : Nat) : ((a : Int) != 0) = (a != 0) := by
  have := cast_beq a 0
  simp only [bne]
  rw [← this]
  rfl

set_option maxHeartbeats 1000000 in
theorem holds_q (c : Int) (t f k a x : Nat) (w : World) (hk : k ≤ 4294967295) (ha : a ≤ 4294967295) (hx : x ≤ 4294967295) :
    Calls Try.prog 26 #[.agg #[.int .u16 c, .int .u8 t, .int .u8 f, .int .u32 k], .int .u32 a, .int .u32 x] w fun e w' => e = .returned (.bool (holdsV (bits .andNot .u16 c 8) a (sideV c k x))) ∧ w.grownBy w' none := by
  have G0 : w.grownBy (w.alloc (.cells #[.int .u16 c, .int .u8 t, .int .u8 f, .int .u32 k] 47)) none := World.grownBy_alloc _ _ _
  cases hb : byxB c with
  | true =>
    have e : sideV c k x = x := by simp [sideV, hb]
    rw [e]
    have e2 := u32_and_nat a x (by omega) (by omega)
    generalize hd : bits .andNot .u16 c 8 = d
    go_enter Try.func26, Try.ntmps26
    go_wp2_with (go_at_call 42; refine (byx_any _ _).mono ?_; rintro e w' ⟨rfl, rfl⟩)
    all_goals
      go_ret
      exact ⟨ret_bool (by simp [holdsV, cast_beq, cast_bne, *]), G0⟩
  | false =>
    have e : sideV c k x = k := by simp [sideV, hb]
    rw [e]
    have e2 := u32_and_nat a k (by omega) (by omega)
    generalize hd : bits .andNot .u16 c 8 = d
    go_enter Try.func26, Try.ntmps26
    go_wp2_with (go_at_call 42; refine (byx_any _ _).mono ?_; rintro e w' ⟨rfl, rfl⟩)
    all_goals
      go_ret
      exact ⟨ret_bool (by simp [holdsV, cast_beq, cast_bne, *]), G0⟩

end Go.Proofs.Ytaldhnionkacmaa
