/-
  The document's own Check.
-/
import Derived.Test.YtaldhnionkacmaaCodes
import Derived.Test.YtaldhnionkacmaaICopy
import Derived.Handy
namespace Go.Proofs.Ytaldhnionkacmaa
open Go.RowKit
set_option maxRecDepth 100000

def memB (c : Int) : Bool := c == 2 || c == 3 || c == 96 || c == 97
def divB (c : Int) : Bool := c == 52 || c == 148
def shfB (c : Int) : Bool := c == 100 || c == 116
def retB (c : Int) : Bool := c == 6 || c == 22

/-- What is wrong with an instruction by itself. -/
def faultV (c : Int) (k : Nat) : Int :=
  if knownB c = false then 42 else if (memB c && decide (16 ≤ k)) = true then 43 else if (divB c && k == 0) = true then 44 else if (shfB c && decide (31 < k)) = true then 45 else 0

theorem retB_any (c : Int) (w : World) : Calls Try.prog 39 #[.int .u16 c] w fun e w' => e = .returned (.bool (retB c)) ∧ w = w' := by
  go_enter Try.func39, Try.ntmps39
  go_wp2
  all_goals
    go_ret
    exact ⟨ret_bool (by simp [retB, *]), rfl⟩

set_option maxHeartbeats 1000000 in
theorem fault_any (c : Int) (t f k : Nat) (w : World) :
    Calls Try.prog 55 #[.agg #[.int .u16 c, .int .u8 t, .int .u8 f, .int .u32 k]] w fun e w' => e = .returned (.int .i64 (faultV c k)) ∧ w.grownBy w' none := by
  have G0 : w.grownBy (w.alloc (.cells #[.int .u16 c, .int .u8 t, .int .u8 f, .int .u32 k] 47)) none := World.grownBy_alloc _ _ _
  cases hkn : knownB c with
  | false =>
    have e : faultV c k = 42 := by simp [faultV, hkn]
    rw [e]
    go_enter Try.func55, Try.ntmps55
    go_wp2_with (go_at_call 65; refine (refknown_any _ _).mono ?_; rintro e w' ⟨rfl, rfl⟩)
    go_ret
    exact ⟨rfl, G0⟩
  | true =>
    by_cases hs : c = 2 ∨ c = 3 ∨ c = 96 ∨ c = 97 ∨ c = 52 ∨ c = 148 ∨ c = 100 ∨ c = 116
    · have k16 : ((16 : Int) ≤ (k : Int)) ∨ ¬ ((16 : Int) ≤ (k : Int)) := by omega
      have k31 : ((31 : Int) < (k : Int)) ∨ ¬ ((31 : Int) < (k : Int)) := by omega
      have k0 : (((k : Int) == 0) = true ∧ k = 0) ∨ (((k : Int) == 0) = false ∧ k ≠ 0) := by
        by_cases h : k = 0
        · exact .inl ⟨by rw [h]; rfl, h⟩
        · exact .inr ⟨by rw [beq_eq_false_iff_ne]; omega, h⟩
      rcases hs with rfl | rfl | rfl | rfl | rfl | rfl | rfl | rfl
      · clear k31 k0
        have e1 : 16 ≤ k ∨ k < 16 := by omega
        rcases k16 with h | h
        all_goals
          go_enter Try.func55, Try.ntmps55
          go_wp2_with (go_at_call 65; refine (refknown_any _ _).mono ?_; rintro e w' ⟨rfl, rfl⟩)
          go_ret
          refine ⟨ret_int (by simp only [faultV, hkn, memB, divB, shfB]; simp; omega), G0⟩
      · clear k31 k0
        have e1 : 16 ≤ k ∨ k < 16 := by omega
        rcases k16 with h | h
        all_goals
          go_enter Try.func55, Try.ntmps55
          go_wp2_with (go_at_call 65; refine (refknown_any _ _).mono ?_; rintro e w' ⟨rfl, rfl⟩)
          go_ret
          refine ⟨ret_int (by simp only [faultV, hkn, memB, divB, shfB]; simp; omega), G0⟩
      · clear k31 k0
        have e1 : 16 ≤ k ∨ k < 16 := by omega
        rcases k16 with h | h
        all_goals
          go_enter Try.func55, Try.ntmps55
          go_wp2_with (go_at_call 65; refine (refknown_any _ _).mono ?_; rintro e w' ⟨rfl, rfl⟩)
          go_ret
          refine ⟨ret_int (by simp only [faultV, hkn, memB, divB, shfB]; simp; omega), G0⟩
      · clear k31 k0
        have e1 : 16 ≤ k ∨ k < 16 := by omega
        rcases k16 with h | h
        all_goals
          go_enter Try.func55, Try.ntmps55
          go_wp2_with (go_at_call 65; refine (refknown_any _ _).mono ?_; rintro e w' ⟨rfl, rfl⟩)
          go_ret
          refine ⟨ret_int (by simp only [faultV, hkn, memB, divB, shfB]; simp; omega), G0⟩
      · clear k31 k16
        rcases k0 with ⟨h, h'⟩ | ⟨h, h'⟩
        all_goals
          go_enter Try.func55, Try.ntmps55
          go_wp2_with (go_at_call 65; refine (refknown_any _ _).mono ?_; rintro e w' ⟨rfl, rfl⟩)
          go_ret
          exact ⟨ret_int (by simp [faultV, hkn, memB, divB, shfB, h']), World.grownBy_alloc _ _ _⟩
      · clear k31 k16
        rcases k0 with ⟨h, h'⟩ | ⟨h, h'⟩
        all_goals
          go_enter Try.func55, Try.ntmps55
          go_wp2_with (go_at_call 65; refine (refknown_any _ _).mono ?_; rintro e w' ⟨rfl, rfl⟩)
          go_ret
          exact ⟨ret_int (by simp [faultV, hkn, memB, divB, shfB, h']), World.grownBy_alloc _ _ _⟩
      · clear k0 k16
        rcases k31 with h | h
        all_goals
          go_enter Try.func55, Try.ntmps55
          go_wp2_with (go_at_call 65; refine (refknown_any _ _).mono ?_; rintro e w' ⟨rfl, rfl⟩)
          go_ret
          refine ⟨ret_int (by simp only [faultV, hkn, memB, divB, shfB]; simp; omega), G0⟩
      · clear k0 k16
        rcases k31 with h | h
        all_goals
          go_enter Try.func55, Try.ntmps55
          go_wp2_with (go_at_call 65; refine (refknown_any _ _).mono ?_; rintro e w' ⟨rfl, rfl⟩)
          go_ret
          refine ⟨ret_int (by simp only [faultV, hkn, memB, divB, shfB]; simp; omega), G0⟩
    · have q1 : (c == 2) = false := by rw [beq_eq_false_iff_ne]; omega
      have q2 : (c == 3) = false := by rw [beq_eq_false_iff_ne]; omega
      have q3 : (c == 96) = false := by rw [beq_eq_false_iff_ne]; omega
      have q4 : (c == 97) = false := by rw [beq_eq_false_iff_ne]; omega
      have q5 : (c == 52) = false := by rw [beq_eq_false_iff_ne]; omega
      have q6 : (c == 148) = false := by rw [beq_eq_false_iff_ne]; omega
      have q7 : (c == 100) = false := by rw [beq_eq_false_iff_ne]; omega
      have q8 : (c == 116) = false := by rw [beq_eq_false_iff_ne]; omega
      have e : faultV c k = 0 := by simp [faultV, hkn, memB, divB, shfB, q1, q2, q3, q4, q5, q6, q7, q8]
      rw [e]
      clear hs
      go_enter Try.func55, Try.ntmps55
      go_wp2_with (go_at_call 65; refine (refknown_any _ _).mono ?_; rintro e w' ⟨rfl, rfl⟩)
      go_ret
      exact ⟨rfl, G0⟩

end Go.Proofs.Ytaldhnionkacmaa
