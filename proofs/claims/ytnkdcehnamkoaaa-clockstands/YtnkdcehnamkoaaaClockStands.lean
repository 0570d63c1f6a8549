/-
  A clock that stands tells nothing, however often it ticks; Start begins anew, and Stop.
-/
import Derived.Test.YtnkdcehnamkoaaaClW
import Derived.Test.YtnkdcehnamkoaaaOpen
import Derived.Deep.DeepCutAuto
namespace Go.Proofs.Ytnkdcehnamkoaaa
open Go.ChangeShapes Go.WideShapes Go.ChangeAt Go.RowKit
set_option maxRecDepth 100000
namespace clockStands

set_option maxHeartbeats 4000000 in
theorem walk (i m : Nat) (ticks : Int) (W : World) (hi : i ≤ 4294967295) (hm : m ≤ 4294967295) :
    Calls Try.prog 6 #[.int .u32 (i : Int), .int .u32 (m : Int), .int .i64 ticks] W fun e w' => e = .returned (.bool true) ∧ W.grownBy w' none := by
  have C := Cw.new W W i m (World.grownBy.refl _ _) hi hm
  have hlo := low6 ticks
  have hlt := lowB_lt 6 ticks
  generalize lowB 6 ticks = T at *
  go_enter Try.func6, Try.ntmps6
  go_wp2_with fail
  refine C.mono ?_
  rintro e w1 ⟨g, rfl, A, -, -⟩
  have H1 : Hid (Cw W w1 g (Ck.new i m)) := A
  clear C A
  go_wp2
  go_loopw [8] (fun i' wr => ∃ r : Nat, r ≤ 2 ∧ i' = .int .i64 r ∧ Cw W wr g (Ck.new i m)) (fun i' _ => 2 - (intOf i').toNat)
  case atStart => exact ⟨0, by omega, rfl, H1.out⟩
  case round =>
    clear H1
    obtain ⟨r, hr, rfl, A⟩ := hrel
    obtain ⟨wo, hwo⟩ : ∃ wo : World, wo = wr := ⟨_, rfl⟩
    subst hwo
    have HA : Hid (Cw W wo g (Ck.new i m)) := A
    clear A
    by_cases hr2 : r < 2
    · have hri : (r : Int) < 2 := by omega
      go_wp2
      go_loopw [9] (fun i' wi => ∃ k : Nat, k ≤ T ∧ i' = .int .i64 k ∧ Cw W wi g (Ck.new i m)) (fun i' _ => T - (intOf i').toNat)
      case atStart => exact ⟨0, by omega, rfl, HA.out⟩
      case round =>
        clear HA
        obtain ⟨k, hk, rfl, A⟩ := hrel
        by_cases hkt : k < T
        · have hki : (k : Int) < (T : Int) := by omega
          have C := A.touch (d := Ck.new i m) rfl
          clear A
          go_wp2_with fail
          refine C.mono ?_
          rintro e w2 ⟨rfl, A⟩
          clear C
          have C := A.tick (x := 0) (d := Ck.new i m) rfl rfl
          clear A
          go_wp2_with fail
          refine C.mono ?_
          rintro e w3 ⟨rfl, A⟩
          clear C
          have HA : Hid (Cw W w3 g (Ck.new i m)) := A
          clear A
          go_wp2
          go_roundw
          case rel => exact ⟨k + 1, by omega, by go_num, HA.out⟩
          case measure => simp [intOf]; omega
        · obtain rfl : k = T := by omega
          have C : Calls Try.prog 13 #[.pointer (some ⟨g, 0, none⟩)] wr fun e w' => e = .returned (.tuple #[.bool false, .int .u32 0, .int .u32 0]) ∧ Cw W w' g (Ck.new i m) := A.now
          clear A
          go_wp2_with fail
          refine C.mono ?_
          rintro e w2 ⟨rfl, A⟩
          clear C
          have C := A.start (d := ⟨i, m, true, 0, 0⟩) rfl
          clear A
          go_wp2_with fail
          refine C.mono ?_
          rintro e w3 ⟨rfl, A⟩
          clear C
          have C : Calls Try.prog 13 #[.pointer (some ⟨g, 0, none⟩)] w3 fun e w' => e = .returned (.tuple #[.bool true, .int .u32 0, .int .u32 0]) ∧ Cw W w' g ⟨i, m, true, 0, 0⟩ := A.now
          clear A
          go_wp2_with fail
          refine C.mono ?_
          rintro e w4 ⟨rfl, A⟩
          clear C
          have C := A.tick rfl rfl
          clear A
          go_wp2_with fail
          refine C.mono ?_
          rintro e w5 ⟨rfl, A⟩
          clear C
          have C := A.stop (d := Ck.new i m) (tick_stop _)
          clear A
          go_wp2_with fail
          refine C.mono ?_
          rintro e w6 ⟨rfl, A⟩
          clear C
          have HA : Hid (Cw W w6 g (Ck.new i m)) := A
          clear A
          go_wp2
          go_roundw
          case rel => exact ⟨r + 1, by omega, by go_num, HA.out⟩
          case measure => simp [intOf]; omega
    · have hri : ¬ (r : Int) < 2 := by omega
      have C : Calls Try.prog 13 #[.pointer (some ⟨g, 0, none⟩)] wo fun e w' => e = .returned (.tuple #[.bool false, .int .u32 0, .int .u32 0]) ∧ Cw W w' g (Ck.new i m) := HA.out.now
      clear HA
      go_wp2_with fail
      refine C.mono ?_
      rintro e w2 ⟨rfl, A⟩
      have HK : Hid (W.grownBy w2 none) := A.gr
      clear C A
      go_wp2_with fail
      refine (awake22_any w2).mono ?_
      rintro e w3 ⟨rfl, K⟩
      have HK2 : Hid (W.grownBy w3 none) := grown_trans HK.out K
      clear HK K
      go_wp2
      go_ret
      exact ⟨rfl, HK2.out⟩

set_option maxRecDepth 100000 in
theorem lifted (os : Os) (started : os.Started) (H : Type) (enc : TypeId × Value → H) :
    ReturnsInHanded {} Try.checked os 6 .any (Rows.clockStandsSpec.pre6 enc Try.prog Try.f6 Rows.clockStandsRow.domain false) (Rows.clockStandsSpec.post enc Try.prog Try.f6 false true false false) := by
  refine returnsInHanded_of_change_sized (C := Try.checked) own started (by kernel_rfl) Try.func6
    (ChangeSpec.witness6 (enc := enc) (C := Try.checked) false ⟨#[], #[.int .u32 0, .int .u32 0, .int .i64 0], []⟩ 8 (by kernel_rfl) (by kernel_rfl) (by kernel_rfl) (by kernel_rfl)) ?_
  intro W base args ds gs before hval0 hW hcnd hsz0 _
  have hsz : (DataW.weightsEach Try.prog (Try.f6.params.toList ++ Rows.clockStandsSpec.plain.varTypes Try.prog) (ds ++ gs)).all (· ≤ reachBytes) = true := hsz0
  have hval : ∀ (j : Nat) t v, Try.f6.params[j]? = some t → args[j]? = some v → Value.okWide Try.prog W .any base t v := hval0
  have hW' := hW
  obtain ⟨p, q, hA0, hV, rfl, hfz, hnd⟩ := hW
  have hA : DataW.TrodAll enc Try.prog W 0 (fun _ => true) true Try.f6.params.toList args.toList ds p := hA0
  rw [Try.params6] at hA hval hsz
  obtain ⟨v0, vs0, d0, ds0, p0, q0, hargs, rfl, rfl, h0, r0⟩ := trodAll_cons hA
  obtain ⟨v1, vs1, d1, ds1, p1, q1, rfl, rfl, rfl, h1, r1⟩ := trodAll_cons r0
  obtain ⟨v2, vs2, d2, ds2, p2, q2, rfl, rfl, rfl, h2, r2⟩ := trodAll_cons r1
  obtain ⟨rfl, rfl, rfl⟩ := trodAll_nil r2
  obtain rfl : args = #[v0, v1, v2] := by cases args; simp_all
  obtain ⟨rfl, rfl⟩ := trodVars_none hV
  obtain ⟨y0, rfl, rfl, rfl, w0⟩ := open_int Try.underlying22 (hval 0 22 v0 rfl rfl) h0
  have bd0 := bounds_u32 w0
  obtain ⟨x0, rfl⟩ := Int.eq_ofNat_of_zero_le bd0.1
  have hv0 : x0 ≤ 4294967295 := by omega
  obtain ⟨y1, rfl, rfl, rfl, w1⟩ := open_int Try.underlying22 (hval 1 22 v1 rfl rfl) h1
  have bd1 := bounds_u32 w1
  obtain ⟨x1, rfl⟩ := Int.eq_ofNat_of_zero_le bd1.1
  have hv1 : x1 ≤ 4294967295 := by omega
  obtain ⟨x2, rfl, rfl, rfl, w2⟩ := open_int Try.underlying3 (hval 2 3 v2 rfl rfl) h2
  clear hA0 hval0
  refine (walk x0 x1 x2 W hv0 hv1).mono fun e W' ⟨he, hg⟩ => ?_
  subst he
  have bel : Below W.heap.size W W' := (Below.refl _ _).grown hg (Nat.le_refl _) (by simp)
  exact ⟨_, rfl, _, _, _, [], _, [], hW', trodAll_mk1 (shut_bool Try.underlying4 _), (trodAll_cons_mk (shut_int Try.underlying22 w0) (trodAll_cons_mk (shut_int Try.underlying22 w1) (trodAll_cons_mk (shut_int Try.underlying3 w2) trodAll_mk0))), rfl, bel.frame _, fun h => by cases h⟩

theorem over : Rows.ClockStandsSaid :=
  OpenClaim.holds_of_wide 6 Try.f6 rfl rfl rfl rfl rfl rfl rfl ⟨rfl, rfl, rfl, rfl, rfl⟩ rfl rfl rfl rfl rfl (by kernel_rfl) Try.func6 (by kernel_rfl)
    (of_decide_eq_true (by kernel_rfl)) (by unfold Func.isWrapper; first | (rw [if_pos (by decide +kernel)]; kernel_rfl) | (rw [if_neg (by decide +kernel)]; exact ⟨rfl, rfl⟩))
    (fun os started H enc _ => lifted os started H enc)

end clockStands

theorem clockStands_holds : Rows.ClockStandsSaid := clockStands.over
#print axioms clockStands_holds

end Go.Proofs.Ytnkdcehnamkoaaa
