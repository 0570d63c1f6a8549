/-
  Package insn: Known, Class, Uses.
-/
import Derived.Test.YtaldhnionkacmabTraits
namespace Go.Proofs.Ytaldhnionkacmab
open Go.RowKit
set_option maxRecDepth 100000

/-- A known code is one of so many. -/
theorem known_cases {c : Int} (h : knownB c = true) : c ∈ ([0, 32, 40, 48, 64, 72, 80, 96, 128, 1, 97, 129, 177, 2, 3, 132, 6, 22, 7, 135, 5, 21, 29, 37, 45, 53, 61, 69, 77, 4, 12, 20, 28, 36, 44, 52, 60, 68, 76, 84, 92, 100, 108, 116, 124, 148, 156, 164, 172] : List Int) := by
  simp only [knownB, plainB, jumpB, operB, Bool.or_eq_true, beq_iff_eq] at h
  simp only [List.mem_cons, List.not_mem_nil, or_false]
  omega

theorem known_all (p : Int → Bool) (hp : ([0, 32, 40, 48, 64, 72, 80, 96, 128, 1, 97, 129, 177, 2, 3, 132, 6, 22, 7, 135, 5, 21, 29, 37, 45, 53, 61, 69, 77, 4, 12, 20, 28, 36, 44, 52, 60, 68, 76, 84, 92, 100, 108, 116, 124, 148, 156, 164, 172] : List Int).all p = true) {c : Int} (h : knownB c = true) : p c = true := List.all_eq_true.1 hp c (known_cases h)

theorem tK_known {c : Int} (h : tK c = true) : knownB c = true := by
  simp only [tK, loadB, knownB, plainB, jumpB, operB, Bool.or_eq_true, beq_iff_eq] at *
  omega

theorem tF_known {c : Int} (h : tF c = true) : knownB c = true := by
  simp only [tF, loadB, knownB, plainB, jumpB, operB, Bool.or_eq_true, beq_iff_eq] at *
  omega

theorem tK_eq (c : Int) : tK c = usesK c := by
  cases hk : knownB c with
  | false =>
    cases ht : tK c with
    | true => rw [tK_known ht] at hk; cases hk
    | false => simp [usesK, hk]
  | true => exact eq_of_beq (known_all (fun c => tK c == usesK c) (by decide +kernel) hk)

theorem tJ_eq (c : Int) : jumpB c = usesJ c := by
  cases hj : jumpB c <;> simp [usesJ, knownB, hj]

theorem tF_eq (c : Int) : tF c = usesF c := by
  cases hk : knownB c with
  | false =>
    cases ht : tF c with
    | true => rw [tF_known ht] at hk; cases hk
    | false => simp [usesF, hk]
  | true => simp [usesF, hk, tF, Bool.or_assoc]

theorem told_field (x y z u : Bool) (w : World) : (Instr.field 90 (.agg #[.bool x, .bool y, .bool z, .bool u]) 0).run Try.prog w = .ok (.bool x) w := by kernel_rfl

set_option maxHeartbeats 400000 in
theorem known_any (c : Int) (w : World) : Calls Try.prog 30 #[.int .u16 c] w fun e w' => e = .returned (.bool (knownB c)) ∧ w.grownBy w' none := by
  go_enter Try.func30, Try.ntmps30
  go_wp2_with fail
  refine (traits_any c _).mono ?_
  rintro e w' ⟨rfl, G⟩
  have hfd : ∀ w : World, (Instr.field 90 (.agg #[.bool (knownB c), .bool (tK c), .bool (jumpB c), .bool (tF c)]) 0).run Try.prog w = .ok (.bool (knownB c)) w := fun w => told_field _ _ _ _ w
  go_wp2
  go_ret
  exact ⟨rfl, G⟩

set_option maxHeartbeats 400000 in
theorem class_any (c : Int) (w : World) (h0 : 0 ≤ c) (h1 : c ≤ 65535) : Calls Try.prog 23 #[.int .u16 c] w fun e w' => e = .returned (.int .i64 (classV c)) ∧ w.grownBy w' none := by
  have hb := and7 c h0 h1
  have b0 : 0 ≤ c % 8 := by omega
  have b1 : c % 8 < 8 := by omega
  cases hk : knownB c with
  | true =>
    go_enter Try.func23, Try.ntmps23
    go_wp2_with fail
    refine (known_any c _).mono ?_
    rintro e w' ⟨rfl, G⟩
    go_wp2
    go_ret
    exact ⟨by simp [classV, hk], G⟩
  | false =>
    go_enter Try.func23, Try.ntmps23
    go_wp2_with fail
    refine (known_any c _).mono ?_
    rintro e w' ⟨rfl, G⟩
    go_wp2
    go_ret
    exact ⟨by simp [classV, hk], G⟩

set_option maxHeartbeats 400000 in
theorem uses_any (c : Int) (w : World) : Calls Try.prog 74 #[.int .u16 c] w fun e w' => e = .returned (.tuple #[.bool (usesK c), .bool (usesJ c), .bool (usesF c)]) ∧ w.grownBy w' none := by
  rw [← tK_eq, ← tJ_eq, ← tF_eq]
  go_enter Try.func74, Try.ntmps74
  go_wp2_with fail
  refine (traits_any c _).mono ?_
  rintro e w' ⟨rfl, G⟩
  have G2 := grown_trans G (World.grownBy_alloc w' (.cells #[.bool (knownB c), .bool (tK c), .bool (jumpB c), .bool (tF c)] 90) none)
  clear G
  go_wp2
  go_quiet (fail)
  go_wp2
  go_ret3
  exact ⟨rfl, grown_trans G2 (grown_drewN _ _ none)⟩

end Go.Proofs.Ytaldhnionkacmab
