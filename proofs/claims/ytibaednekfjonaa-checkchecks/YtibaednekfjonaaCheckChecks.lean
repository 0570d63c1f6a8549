/-
  For every list of instructions (its capacity at most 2^47 - 4096 bytes, as the form itself says of each argument) riddlelaw4.CheckChecks returns true and leaves what was there as it was: no condition of ours.
-/
import Derived.Test.YtibaednekfjonaaOpenI
import Derived.Test.YtibaednekfjonaaAwake4
namespace Go.Proofs.Ytibaednekfjonaa
open Go.ChangeShapes Go.WideShapes Go.ChangeAt Go.RowKit
open Go.ChangeMaps (open_string shut_string)
set_option maxRecDepth 100000
namespace checkChecks

set_option maxHeartbeats 2000000 in
theorem walk (a : Option Addr) (ca : Nat) (xs : List In) (w : World) (ha : CV w a (flat xs)) (hc0 : a = none → ca = 0) (_hca : xs.length ≤ ca) (_hcm : ca ≤ maxLen) (hn : xs.length * 8 ≤ 140737488351232) :
    Calls Try.prog 3 #[.slice a xs.length ca] w fun e w' => e = .returned (.bool true) ∧ w.grownBy w' none := by
  have H : Hid (CV w a (flat xs)) := ha
  clear ha
  obtain ⟨P, E, hPE⟩ : ∃ P E, checkV xs = (P, E) := ⟨_, _, rfl⟩
  have HR : Hid (∀ (a : Option Addr) (ca : Nat) (W : World), CV W a (flat xs) → Calls Try.prog 9 #[.slice a xs.length ca] W fun e w' => e = .returned (.tuple #[.int .i64 (P : Int), .int .i64 E]) ∧ W.grownBy w' none) := fun a ca W h => by
    have k := refcheck_any a ca xs W h
    rw [hPE] at k
    exact k
  have HP : Hid (∀ (a : Option Addr) (ca : Nat) (W : World), CV W a (flat xs) → Calls Try.prog 11 #[.slice a xs.length ca] W fun e w' => e = .returned (.tuple #[.int .i64 (P : Int), .int .i64 E]) ∧ W.grownBy w' none) := fun a ca W h => by
    have k := check_any a ca xs W h
    rw [hPE] at k
    exact k
  clear hPE
  go_enter Try.func3, Try.ntmps3
  go_wp2_with fail
  refine (HR.out a ca _ H.out).mono ?_
  rintro e w1 ⟨rfl, G1⟩
  go_wp2_with fail
  refine (ilend_any a ca xs _ (H.out.keptNone G1) hc0 hn).mono ?_
  rintro e w2 ⟨v2, rfl, ⟨g, cap, rfl, -, -, hg1, hg2, hown⟩, K2⟩
  have C2 := (icv_front hown).1
  have G2 := grown_trans G1 K2
  go_wp2_with fail
  refine (HP.out _ cap _ C2).mono ?_
  rintro e w3 ⟨rfl, K3⟩
  have G3 := grown_trans G2 K3
  have own3 := hown.kept K3 (by simp [Value.ownBlock])
  clear C2 hown
  go_wp2_with fail
  refine (ikept_any g cap a ca xs _ (owns_mono own3 (Nat.zero_le _)) (H.out.keptNone G3) hn).mono ?_
  rintro e w4 ⟨rfl, K4⟩
  have G4 : w.grownBy w4 none := grown_trans_new G3 K4 (by intro k hk; obtain rfl := Option.some.inj hk; have := G1.size; omega)
  clear own3 G1 G2 G3 K2 K3 K4
  go_wp2_with fail
  refine (awake4_any _).mono ?_
  rintro e w5 ⟨rfl, K5⟩
  have G5 := grown_trans G4 K5
  clear G4 K5
  go_wp2
  go_ret
  exact ⟨rfl, G5⟩

set_option maxRecDepth 100000 in
theorem lifted (os : Os) (started : os.Started) (H : Type) (enc : TypeId × Value → H) :
    ReturnsInHanded {} Try.checked os 3 .any (Rows.checkChecksSpec.pre6 enc Try.prog Try.f3 Rows.checkChecksRow.domain false) (Rows.checkChecksSpec.post enc Try.prog Try.f3 false true false false) := by
  refine returnsInHanded_of_change_sized (C := Try.checked) own started (by kernel_rfl) Try.func3
    (ChangeSpec.witness6 (enc := enc) (C := Try.checked) false ⟨#[], #[.slice none 0 0], []⟩ 8 (by kernel_rfl) (by kernel_rfl) (by kernel_rfl) (by kernel_rfl)) ?_
  intro W base args ds gs before hval0 hW hcnd hsz0 _
  have hsz : (DataW.weightsEach Try.prog (Try.f3.params.toList ++ Rows.checkChecksSpec.plain.varTypes Try.prog) (ds ++ gs)).all (· ≤ reachBytes) = true := hsz0
  have hval : ∀ (j : Nat) t v, Try.f3.params[j]? = some t → args[j]? = some v → Value.okWide Try.prog W .any base t v := hval0
  have hW' := hW
  obtain ⟨p, q, hA0, hV, rfl, hfz, hnd⟩ := hW
  have hA : DataW.TrodAll enc Try.prog W 0 (fun _ => true) true Try.f3.params.toList args.toList ds p := hA0
  rw [Try.params3] at hA hval hsz
  obtain ⟨v0, vs0, d0, ds0, p0, q0, hargs, rfl, rfl, h0, r0⟩ := trodAll_cons hA
  obtain ⟨rfl, rfl, rfl⟩ := trodAll_nil r0
  obtain rfl : args = #[v0] := by cases args; simp_all
  obtain ⟨rfl, rfl⟩ := trodVars_none hV
  obtain ⟨a0, len0, cap0, rfl⟩ := okWide_slice Try.underlying22 (hval 0 22 v0 rfl rfl)
  have k0 := h0
  have lt0 : ∀ x ∈ p0, x.block < W.heap.size := by obtain ⟨m, hm⟩ := k0; exact DataW.trod_lt m _ _ _ hm
  obtain ⟨xs0, rfl, hcells0, hnil0, hcp0, hdat0⟩ := open_insns h0
  have hlen0 : xs0.length * 8 ≤ 140737488351232 := by
    rcases hdat0 with ⟨_, rfl⟩ | ⟨elems, spare, rfl, hle⟩
    · simp
    · have := sized_slice hsz (j := 0) (t := 22) (e := 44) rfl rfl Try.underlying22
      rw [bytes44] at this
      unfold reachBytes at this
      omega
  clear hA0 hval0
  refine (walk a0 cap0 xs0 W hcells0 hnil0 hcp0.1 hcp0.2 (by omega)).mono fun e W' ⟨he, hg⟩ => ?_
  subst he
  have bel : Below W.heap.size W W' := (Below.refl _ _).grown hg (Nat.le_refl _) (by simp)
  exact ⟨_, rfl, _, _, _, [], _, [], hW', trodAll_mk1 (shut_bool Try.underlying4 _), (trodAll_cons_mk (Below.trod laidOut (by kernel_rfl) (of_decide_eq_true (by kernel_rfl)) k0 bel lt0) trodAll_mk0), rfl, bel.frame _, fun h => by cases h⟩

theorem over : Rows.CheckChecksSaid :=
  OpenClaim.holds_of_wide 3 Try.f3 rfl rfl rfl rfl rfl rfl rfl ⟨rfl, rfl, rfl, rfl, rfl⟩ rfl rfl rfl rfl rfl (by kernel_rfl) Try.func3 (by kernel_rfl)
    (of_decide_eq_true (by kernel_rfl)) (by unfold Func.isWrapper; first | (rw [if_pos (by decide +kernel)]; kernel_rfl) | (rw [if_neg (by decide +kernel)]; exact ⟨rfl, rfl⟩))
    (fun os started H enc _ => lifted os started H enc)

end checkChecks

theorem checkChecks_holds : Rows.CheckChecksSaid := checkChecks.over
#print axioms checkChecks_holds
end Go.Proofs.Ytibaednekfjonaa
