/-
  For every number of 16 bits riddlelaw2.InsnCodes returns true: no condition.
-/
import Derived.Test.YtoimhggpblkcgaaOpen
import Derived.Test.YtoimhggpblkcgaaAwake2
namespace Go.Proofs.Ytoimhggpblkcgaa
open Go.ChangeShapes Go.WideShapes Go.ChangeAt Go.RowKit
open Go.ChangeMaps (open_string shut_string)
namespace insnCodes

/-- How many of the first k numbers (of at most 256) are known codes. -/
def cnt : Nat → Nat
  | 0 => 0
  | k + 1 => cnt k + if (decide (k < 256) && knownB k) = true then 1 else 0

theorem cnt_all : cnt 257 = 49 := by decide +kernel
theorem cnt_le (k : Nat) : cnt k ≤ k := by
  induction k with
  | zero => exact Nat.le_refl _
  | succ k ih => simp only [cnt]; split <;> omega
theorem cnt_yes {k : Nat} (h : k < 256) (hk : knownB k = true) : cnt (k + 1) = cnt k + 1 := by simp [cnt, h, hk]
theorem cnt_no {k : Nat} (hk : knownB k = false) : cnt (k + 1) = cnt k := by simp [cnt, hk]
theorem cnt_last : cnt (256 + 1) = cnt 256 := by decide +kernel

set_option maxRecDepth 100000 in
set_option maxHeartbeats 2000000 in
theorem walk (c : Nat) (w : World) (hc : c ≤ 65535) :
    Calls Try.prog 3 #[.int .u16 c] w fun e w' => e = .returned (.bool true) ∧ w.grownBy w' none := by
  go_enter Try.func3, Try.ntmps3
  go_wp2
  go_loopw [3, 4] (fun t i wr => ∃ k : Nat, k ≤ 257 ∧ i = .int .i64 k ∧ t = .int .i64 (cnt k) ∧ w.grownBy wr none) (fun _ i _ => 257 - (intOf i).toNat)
  case atStart => exact ⟨0, Nat.zero_le _, rfl, rfl, World.grownBy.refl _ _⟩
  case round =>
    obtain ⟨k, hk, rfl, rfl, G⟩ := hrel
    have hcl := cnt_le k
    by_cases hlt : k < 256
    · have h256 : ((k : Int) == 256) = false := by simp; omega
      cases hkn : knownB k with
      | true =>
        have HC : Hid (cnt (k + 1) = cnt k + 1) := cnt_yes hlt hkn
        go_wp2_with (first | (go_at_call 8; refine (uses_any _ _).mono ?_; rintro e w' ⟨rfl, K⟩; replace G := grown_trans G K; clear K) | (go_at_call 9; refine (refuses_any _ _).mono ?_; rintro e w' ⟨rfl, rfl⟩) | (go_at_call 10; refine (known_any _ _).mono ?_; rintro e w' ⟨rfl, K⟩; replace G := grown_trans G K; clear K) | (go_at_call 11; refine (refknown_any _ _).mono ?_; rintro e w' ⟨rfl, rfl⟩) | (go_at_call 12; refine (class_any _ _ (by omega) (by omega)).mono ?_; rintro e w' ⟨rfl, K⟩; replace G := grown_trans G K; clear K) | (go_at_call 13; refine (refclass_any _ _ (by omega) (by omega)).mono ?_; rintro e w' ⟨rfl, rfl⟩))
        go_roundw
        case rel => exact ⟨k + 1, by omega, by go_num, by rw [HC.out]; go_num, G⟩
        case measure => simp [intOf]; omega
      | false =>
        have HC : Hid (cnt (k + 1) = cnt k) := cnt_no hkn
        go_wp2_with (first | (go_at_call 8; refine (uses_any _ _).mono ?_; rintro e w' ⟨rfl, K⟩; replace G := grown_trans G K; clear K) | (go_at_call 9; refine (refuses_any _ _).mono ?_; rintro e w' ⟨rfl, rfl⟩) | (go_at_call 10; refine (known_any _ _).mono ?_; rintro e w' ⟨rfl, K⟩; replace G := grown_trans G K; clear K) | (go_at_call 11; refine (refknown_any _ _).mono ?_; rintro e w' ⟨rfl, rfl⟩) | (go_at_call 12; refine (class_any _ _ (by omega) (by omega)).mono ?_; rintro e w' ⟨rfl, K⟩; replace G := grown_trans G K; clear K) | (go_at_call 13; refine (refclass_any _ _ (by omega) (by omega)).mono ?_; rintro e w' ⟨rfl, rfl⟩))
        go_roundw
        case rel => exact ⟨k + 1, by omega, by go_num, by rw [HC.out], G⟩
        case measure => simp [intOf]; omega
    · by_cases hlt2 : k < 257
      · obtain rfl : k = 256 := by omega
        have HC : Hid (cnt (256 + 1) = cnt 256) := cnt_last
        go_wp2_with (first | (go_at_call 8; refine (uses_any _ _).mono ?_; rintro e w' ⟨rfl, K⟩; replace G := grown_trans G K; clear K) | (go_at_call 9; refine (refuses_any _ _).mono ?_; rintro e w' ⟨rfl, rfl⟩) | (go_at_call 10; refine (known_any _ _).mono ?_; rintro e w' ⟨rfl, K⟩; replace G := grown_trans G K; clear K) | (go_at_call 11; refine (refknown_any _ _).mono ?_; rintro e w' ⟨rfl, rfl⟩) | (go_at_call 12; refine (class_any _ _ (by omega) (by omega)).mono ?_; rintro e w' ⟨rfl, K⟩; replace G := grown_trans G K; clear K) | (go_at_call 13; refine (refclass_any _ _ (by omega) (by omega)).mono ?_; rintro e w' ⟨rfl, rfl⟩))
        go_roundw
        case rel => exact ⟨257, by omega, by go_num, by rw [show (257 : Nat) = 256 + 1 by rfl, HC.out], G⟩
        case measure => simp [intOf]
      · obtain rfl : k = 257 := by omega
        rw [cnt_all]
        clear hcl
        go_wp2_with fail
        refine (awake2_any _).mono ?_
        rintro e w2 ⟨rfl, G2⟩
        go_wp2
        go_ret
        exact ⟨rfl, grown_trans G G2⟩

set_option maxRecDepth 100000 in
theorem lifted (os : Os) (started : os.Started) (H : Type) (enc : TypeId × Value → H) :
    ReturnsInHanded {} Try.checked os 3 .any (Rows.insnCodesSpec.pre6 enc Try.prog Try.f3 Rows.insnCodesRow.domain false) (Rows.insnCodesSpec.post enc Try.prog Try.f3 false true false false) := by
  refine returnsInHanded_of_change_sized (C := Try.checked) own started (by kernel_rfl) Try.func3
    (ChangeSpec.witness6 (enc := enc) (C := Try.checked) false ⟨#[], #[.int .u16 0], []⟩ 8 (by kernel_rfl) (by kernel_rfl) (by kernel_rfl) (by kernel_rfl)) ?_
  intro W base args ds gs before hval0 hW hcnd hsz0 _
  have hsz : (DataW.weightsEach Try.prog (Try.f3.params.toList ++ Rows.insnCodesSpec.plain.varTypes Try.prog) (ds ++ gs)).all (· ≤ reachBytes) = true := hsz0
  have hval : ∀ (j : Nat) t v, Try.f3.params[j]? = some t → args[j]? = some v → Value.okWide Try.prog W .any base t v := hval0
  have hW' := hW
  obtain ⟨p, q, hA0, hV, rfl, hfz, hnd⟩ := hW
  have hA : DataW.TrodAll enc Try.prog W 0 (fun _ => true) true Try.f3.params.toList args.toList ds p := hA0
  rw [Try.params3] at hA hval hsz
  obtain ⟨v0, vs0, d0, ds0, p0, q0, hargs, rfl, rfl, h0, r0⟩ := trodAll_cons hA
  obtain ⟨rfl, rfl, rfl⟩ := trodAll_nil r0
  obtain rfl : args = #[v0] := by cases args; simp_all
  obtain ⟨rfl, rfl⟩ := trodVars_none hV
  obtain ⟨y0, rfl, rfl, rfl, w0⟩ := open_int Try.underlying22 (hval 0 22 v0 rfl rfl) h0
  have bd0 := bounds_u16 w0
  obtain ⟨x0, rfl⟩ := Int.eq_ofNat_of_zero_le bd0.1
  have hv0 : x0 ≤ 65535 := by omega
  clear hA0 hval0
  refine (walk x0 W hv0).mono fun e W' ⟨he, hg⟩ => ?_
  subst he
  have bel : Below W.heap.size W W' := (Below.refl _ _).grown hg (Nat.le_refl _) (by simp)
  exact ⟨_, rfl, _, _, _, [], _, [], hW', trodAll_mk1 (shut_bool Try.underlying4 _), (trodAll_cons_mk (shut_int Try.underlying22 w0) trodAll_mk0), rfl, bel.frame _, fun h => by cases h⟩

theorem over : Rows.InsnCodesSaid :=
  OpenClaim.holds_of_wide 3 Try.f3 rfl rfl rfl rfl rfl rfl rfl ⟨rfl, rfl, rfl, rfl, rfl⟩ rfl rfl rfl rfl rfl (by kernel_rfl) Try.func3 (by kernel_rfl)
    (of_decide_eq_true (by kernel_rfl)) (by unfold Func.isWrapper; first | (rw [if_pos (by decide +kernel)]; kernel_rfl) | (rw [if_neg (by decide +kernel)]; exact ⟨rfl, rfl⟩))
    (fun os started H enc _ => lifted os started H enc)

end insnCodes

theorem insnCodes_holds : Rows.InsnCodesSaid := insnCodes.over
#print axioms insnCodes_holds
end Go.Proofs.Ytoimhggpblkcgaa
