/-
  For every list of nodes (of such size as the form itself says of it) riddlelaw12.TypesChecks returns true and leaves what was there as it was: no condition of ours.
-/
import Derived.Test.YtgoiblnddfggbaaLotP43
import Derived.Test.YtgoiblnddfggbaaAwake12
namespace Go.Proofs.Ytgoiblnddfggbaa
open Go.ChangeShapes Go.WideShapes Go.ChangeAt Go.RowKit
set_option maxRecDepth 100000
namespace typesChecks

set_option maxRecDepth 100000 in
set_option maxHeartbeats 8000000 in
theorem walk (a : Option Addr) (ca : Nat) (t : List Ng) (w : World) (hA : CV w a (flatG t)) (ha0 : a = none → ca = 0) (_hac : t.length ≤ ca) (_hax : ca ≤ maxLen) (hal : t.length * 72 ≤ 140737488351232) (hao : ∀ x ∈ t, x.ok) :
    Calls Try.prog 3 #[.slice a t.length ca] w fun e w' => e = .returned (.bool true) ∧ w.grownBy w' none := by
  have HA : Hid (CV w a (flatG t)) := hA
  have HHA0 : Hid (a = none → ca = 0) := ha0
  have HN : Hid (∀ x ∈ t, x.n ≤ 4294967295) := fun x hx => (hao x hx).1
  have CR := refcheck_any a ca t w hA (by omega) HN.out
  obtain ⟨p, e, hpe⟩ : ∃ (p : Nat) (e : Int), checkG t = (p, e) := ⟨_, _, rfl⟩
  have HCK : Hid (∀ (ao : Option Addr) (cap : Nat) (W : World), CV W ao (flatG t) → Calls Try.prog 8 #[.slice ao t.length cap] W fun e' w' => e' = .returned (.tuple #[.int .i64 (p : Int), .int .i64 e]) ∧ W.grownBy w' none) := fun ao cap W C => by
    have := check12_any ao cap t W C (by omega) HN.out
    rw [checkR, hpe] at this
    exact this
  rw [checkR, hpe] at CR
  clear hA ha0 hao hpe
  go_enter Try.func3, Try.ntmps3
  go_wp2_with fail
  refine CR.mono ?_
  rintro e1 w1 ⟨rfl, K1⟩
  have CL := glend_any a ca t w1 (HA.out.keptNone K1) HHA0.out (by omega)
  clear CR
  go_wp2_with fail
  refine CL.mono ?_
  rintro e2 w2 ⟨v2, rfl, ⟨g, cap, rfl, hc1, hc2, hg1, hg2, O2⟩, K2⟩
  have CP := HCK.out (some ⟨g, 0, none⟩) cap w2 (gcv_front O2).1
  clear CL
  go_wp2_with fail
  refine CP.mono ?_
  rintro e3 w3 ⟨rfl, K3⟩
  have G3 := grown_trans (grown_trans K1 K2) K3
  have CK := gkept_any g cap a ca t w3 (owns_mono (owns_keptNone O2 K3) (Nat.zero_le _)) (HA.out.keptNone G3) (by omega)
  have HGW : Hid (w.heap.size ≤ g) := Nat.le_trans K1.size hg1
  clear CP O2 hc1 hc2 hg1 hg2 K1 K2 K3
  go_wp2_with fail
  refine CK.mono ?_
  rintro e4 w4 ⟨rfl, K4⟩
  have G4 : w.grownBy w4 none := grown_trans_new G3 K4 (fun x hx => by cases hx; exact HGW.out)
  have hpp : ((p : Int) == (p : Int)) = true := by simp
  have hee : (e == e) = true := by simp
  clear CK K4 G3
  go_wp2_with fail
  refine (awake12_any _).mono ?_
  rintro e9 w9 ⟨rfl, K9⟩
  go_wp2
  go_ret
  exact ⟨rfl, grown_trans G4 K9⟩

set_option maxRecDepth 100000 in
theorem lifted (os : Os) (started : os.Started) (H : Type) (enc : TypeId × Value → H) :
    ReturnsInHanded {} Try.checked os 3 .any (Rows.typesChecksSpec.pre6 enc Try.prog Try.f3 Rows.typesChecksRow.domain false) (Rows.typesChecksSpec.post enc Try.prog Try.f3 false true false false) := by
  refine returnsInHanded_of_change_sized (C := Try.checked) own started (by kernel_rfl) Try.func3
    (ChangeSpec.witness6 (enc := enc) (C := Try.checked) false ⟨#[], #[.slice none 0 0], []⟩ 8 (by kernel_rfl) (by kernel_rfl) (by kernel_rfl) (by kernel_rfl)) ?_
  intro W base args ds gs before hval0 hW hcnd hsz0 _
  have hsz : (DataW.weightsEach Try.prog (Try.f3.params.toList ++ Rows.typesChecksSpec.plain.varTypes Try.prog) (ds ++ gs)).all (· ≤ reachBytes) = true := hsz0
  have hval : ∀ (j : Nat) t v, Try.f3.params[j]? = some t → args[j]? = some v → Value.okWide Try.prog W .any base t v := hval0
  have hW' := hW
  obtain ⟨p, q, hA0, hV, rfl, hfz, hnd⟩ := hW
  have hA : DataW.TrodAll enc Try.prog W 0 (fun _ => true) true Try.f3.params.toList args.toList ds p := hA0
  rw [Try.params3] at hA hval hsz
  obtain ⟨v0, vs0, d0, ds0, p0, q0, hargs, rfl, rfl, h0, r0⟩ := trodAll_cons hA
  obtain ⟨rfl, rfl, rfl⟩ := trodAll_nil r0
  obtain rfl : args = #[v0] := by cases args; simp_all
  obtain ⟨rfl, rfl⟩ := trodVars_none hV
  obtain ⟨a0, len0, cap0, rfl⟩ := okWide_slice Try.underlying22 (hval 0 22 v0 rfl rfl)
  have k0 := h0
  have lt0 : ∀ x ∈ p0, x.block < W.heap.size := by obtain ⟨m, hm⟩ := k0; exact DataW.trod_lt m _ _ _ hm
  obtain ⟨xs0, rfl, hcells0, hnil0, hcp0, hok0, hdat0⟩ := open_nodes h0
  have hlen0 : xs0.length * 72 ≤ 140737488351232 := by
    rcases hdat0 with ⟨_, rfl⟩ | ⟨elems, spare, rfl, hle⟩
    · simp
    · have := sized_slice hsz (j := 0) (t := 22) (e := 46) rfl rfl Try.underlying22
      rw [bytes46] at this
      unfold reachBytes at this
      omega
  clear hA0 hval0
  refine (walk a0 cap0 xs0 W hcells0 hnil0 hcp0.1 hcp0.2 (by omega) hok0).mono fun e W' ⟨he, hg⟩ => ?_
  subst he
  have bel : Below W.heap.size W W' := (Below.refl _ _).grown hg (Nat.le_refl _) (by simp)
  exact ⟨_, rfl, _, _, _, [], _, [], hW', trodAll_mk1 (shut_bool Try.underlying4 _), (trodAll_cons_mk (Below.trod laidOut (by kernel_rfl) (of_decide_eq_true (by kernel_rfl)) k0 bel lt0) trodAll_mk0), rfl, bel.frame _, fun h => by cases h⟩

theorem over : Rows.TypesChecksSaid :=
  OpenClaim.holds_of_wide 3 Try.f3 rfl rfl rfl rfl rfl rfl rfl ⟨rfl, rfl, rfl, rfl, rfl⟩ rfl rfl rfl rfl rfl (by kernel_rfl) Try.func3 (by kernel_rfl)
    (of_decide_eq_true (by kernel_rfl)) (by unfold Func.isWrapper; first | (rw [if_pos (by decide +kernel)]; kernel_rfl) | (rw [if_neg (by decide +kernel)]; exact ⟨rfl, rfl⟩))
    (fun os started H enc _ => lifted os started H enc)

end typesChecks

theorem typesChecks_holds : Rows.TypesChecksSaid := typesChecks.over
#print axioms typesChecks_holds

end Go.Proofs.Ytgoiblnddfggbaa
