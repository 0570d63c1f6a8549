/-
  For every list of instructions (its capacity at most 2^47 - 4096 bytes, as the form itself says of each argument) riddlelaw4.CheckReaches returns true and leaves what was there as it was: no condition of ours.
-/
import Derived.Test.YtibaednekfjonaaOpenI
import Derived.Test.YtibaednekfjonaaAwake4
namespace Go.Proofs.Ytibaednekfjonaa
open Go.ChangeShapes Go.WideShapes Go.ChangeAt Go.RowKit
open Go.ChangeMaps (open_string shut_string)
set_option maxRecDepth 100000
namespace checkReaches

theorem reachV_len (xs : List In) : (reachV xs).length ≤ 4096 := by
  unfold reachV
  split
  · rename_i h
    rw [reachTo_len]
    exact (taken h).2.1
  · simp

set_option maxHeartbeats 2000000 in
theorem walk (a : Option Addr) (ca : Nat) (xs : List In) (w : World) (ha : CV w a (flat xs)) (hc0 : a = none → ca = 0) (_hca : xs.length ≤ ca) (_hcm : ca ≤ maxLen) (hn : xs.length * 8 ≤ 140737488351232) :
    Calls Try.prog 4 #[.slice a xs.length ca] w fun e w' => e = .returned (.bool true) ∧ w.grownBy w' none := by
  have H : Hid (CV w a (flat xs)) := ha
  clear ha
  obtain ⟨V, hV⟩ : ∃ V, reachV xs = V := ⟨_, rfl⟩
  obtain ⟨E, hE⟩ : ∃ E, (checkV xs).2 = E := ⟨_, rfl⟩
  have hVl : V.length ≤ 4096 := by rw [← hV]; exact reachV_len xs
  have HR : Hid (∀ (a : Option Addr) (ca : Nat) (W : World), CV W a (flat xs) → Calls Try.prog 14 #[.slice a xs.length ca] W fun e w' => ∃ v, e = .returned (.tuple #[v, .int .i64 E]) ∧ BOwns w' W.heap.size v V ∧ W.grownBy w' none) := fun a ca W h => by
    rw [← hV, ← hE]
    exact refreach_any a ca xs W h
  have HP : Hid (∀ (a : Option Addr) (ca : Nat) (W : World), CV W a (flat xs) → Calls Try.prog 15 #[.slice a xs.length ca] W fun e w' => ∃ v, e = .returned (.tuple #[v, .int .i64 E]) ∧ BOwns w' W.heap.size v V ∧ W.grownBy w' none) := fun a ca W h => by
    rw [← hV, ← hE]
    exact reach_any a ca xs W h
  clear hV hE
  go_enter Try.func4, Try.ntmps4
  go_wp2_with fail
  refine (HR.out a ca _ H.out).mono ?_
  rintro e w1 ⟨want, rfl, O1, G1⟩
  obtain ⟨ao1, cap1, rfl, C1, -, -, -, B1, -⟩ := cv_of_row O1
  clear O1
  go_wp2_with fail
  refine (ilend_any a ca xs _ (H.out.keptNone G1) hc0 hn).mono ?_
  rintro e w2 ⟨v2, rfl, ⟨g, cap, rfl, -, -, hg1, hg2, hown⟩, K2⟩
  have C2 := (icv_front hown).1
  have G2 := grown_trans G1 K2
  have D2 := C1.keptNone K2
  go_wp2_with fail
  refine (HP.out _ cap _ C2).mono ?_
  rintro e w3 ⟨x, rfl, O3, K3⟩
  have G3 := grown_trans G2 K3
  have D3 := D2.keptNone K3
  have own3 := hown.kept K3 (by simp [Value.ownBlock])
  clear C2 D2 C1 hown
  go_wp2_with fail
  refine (ikept_any g cap a ca xs _ (owns_mono own3 (Nat.zero_le _)) (H.out.keptNone G3) hn).mono ?_
  rintro e w4 ⟨rfl, K4⟩
  have D4 := D3.keptUp w1.heap.size (fun ad had => (B1 ad had).2) K4 (by intro k hk; obtain rfl := Option.some.inj hk; exact hg1)
  have O4 : BOwns w4 w2.heap.size x V := O3.kept K4 (by right; intro e; have := (O3.lt g e).1; omega)
  have G4 : w.grownBy w4 none := grown_trans_new G3 K4 (by intro k hk; obtain rfl := Option.some.inj hk; have := G1.size; omega)
  clear own3 D3 O3
  go_wp2_with fail
  refine (icopy_any a ca xs _ (H.out.keptNone G4) hc0 (by omega)).mono ?_
  rintro e w5 ⟨v5, rfl, O5, K5⟩
  obtain ⟨ao5, cap5, rfl, C5, -⟩ := cv_of_row O5
  have D5 := D4.keptNone K5
  have O5x := owns_keptNone O4 K5
  have G5 := grown_trans G4 K5
  clear O5 D4
  go_wp2_with fail
  refine (HP.out _ cap5 _ C5).mono ?_
  rintro e w6 ⟨y, rfl, O6, K6⟩
  obtain ⟨ao6, cap6, rfl, C6, -, -, -, B6, -⟩ := cv_of_row O6
  have D6 := D5.keptNone K6
  have O6x := owns_keptNone O5x K6
  have G6 := grown_trans G5 K6
  have E6 : ∃ aox capx, x = .slice aox V.length capx ∧ CV w6 aox (V.map Value.bool) := by
    obtain ⟨aox, capx, h, c, -⟩ := cv_of_row O6x
    exact ⟨aox, capx, h, c⟩
  obtain ⟨aox, capx, hx, Cx⟩ := E6
  subst hx
  clear C5 O6 D5 O5x
  go_wp2_with fail
  refine (bsame_any aox ao1 capx cap1 V _ Cx D6 (by omega)).mono ?_
  rintro e w7 ⟨rfl, n7, rfl⟩
  clear Cx
  go_wp2_with fail
  refine (bspoil_own (xs := V) (base := w2.heap.size) (w6.drewN n7) O6x (by omega)).mono ?_
  rintro e w8 ⟨rfl, K8⟩
  have K9 : w6.grownBy w8 _ := grown_trans (grown_drewN w6 n7 _) K8
  have hxb := O6x.lt
  have hx4 := O4.lt
  have D8 := D6.keptUp w1.heap.size (fun ad had => (B1 ad had).2) K9 (fun k hk => by have := (hxb k hk).1; have := K2.size; omega)
  have C8 := C6.keptDown w5.heap.size (fun ad had => (B6 ad had).1) K9 (fun k hk => by have := (hx4 k hk).2; have := K5.size; omega)
  have G8 : w.grownBy w8 none := grown_trans_new G6 K9 (fun k hk => by have := (hxb k hk).1; have := G2.size; omega)
  clear K8 K9 D6 C6 O6x
  go_wp2_with fail
  refine (bsame_any ao6 ao1 cap6 cap1 V _ C8 D8 (by omega)).mono ?_
  rintro e w9 ⟨rfl, n9, rfl⟩
  have G9 := grown_trans G8 (grown_drewN w8 n9 none)
  clear C8 D8
  go_wp2_with fail
  refine (awake4_any _).mono ?_
  rintro e w10 ⟨rfl, K10⟩
  have G10 := grown_trans G9 K10
  clear K10 G9 G8 G6 G5 G4 G3 G2 G1 K2 K3 K4 K5 K6
  go_wp2
  go_ret
  exact ⟨rfl, G10⟩

set_option maxRecDepth 100000 in
theorem lifted (os : Os) (started : os.Started) (H : Type) (enc : TypeId × Value → H) :
    ReturnsInHanded {} Try.checked os 4 .any (Rows.checkReachesSpec.pre6 enc Try.prog Try.f4 Rows.checkReachesRow.domain false) (Rows.checkReachesSpec.post enc Try.prog Try.f4 false true false false) := by
  refine returnsInHanded_of_change_sized (C := Try.checked) own started (by kernel_rfl) Try.func4
    (ChangeSpec.witness6 (enc := enc) (C := Try.checked) false ⟨#[], #[.slice none 0 0], []⟩ 8 (by kernel_rfl) (by kernel_rfl) (by kernel_rfl) (by kernel_rfl)) ?_
  intro W base args ds gs before hval0 hW hcnd hsz0 _
  have hsz : (DataW.weightsEach Try.prog (Try.f4.params.toList ++ Rows.checkReachesSpec.plain.varTypes Try.prog) (ds ++ gs)).all (· ≤ reachBytes) = true := hsz0
  have hval : ∀ (j : Nat) t v, Try.f4.params[j]? = some t → args[j]? = some v → Value.okWide Try.prog W .any base t v := hval0
  have hW' := hW
  obtain ⟨p, q, hA0, hV, rfl, hfz, hnd⟩ := hW
  have hA : DataW.TrodAll enc Try.prog W 0 (fun _ => true) true Try.f4.params.toList args.toList ds p := hA0
  rw [Try.params4] at hA hval hsz
  obtain ⟨v0, vs0, d0, ds0, p0, q0, hargs, rfl, rfl, h0, r0⟩ := trodAll_cons hA
  obtain ⟨rfl, rfl, rfl⟩ := trodAll_nil r0
  obtain rfl : args = #[v0] := by cases args; simp_all
  obtain ⟨rfl, rfl⟩ := trodVars_none hV
  obtain ⟨a0, len0, cap0, rfl⟩ := okWide_slice Try.underlying22 (hval 0 22 v0 rfl rfl)
  have k0 := h0
  have lt0 : ∀ x ∈ p0, x.block < W.heap.size := by obtain ⟨m, hm⟩ := k0; exact DataW.trod_lt m _ _ _ hm
  obtain ⟨xs0, rfl, hcells0, hnil0, hcp0, hdat0⟩ := open_insns h0
  have hlen0 : xs0.length * 8 ≤ 140737488351232 := by
    rcases hdat0 with ⟨_, rfl⟩ | ⟨elems, spare, rfl, hle⟩
    · simp
    · have := sized_slice hsz (j := 0) (t := 22) (e := 44) rfl rfl Try.underlying22
      rw [bytes44] at this
      unfold reachBytes at this
      omega
  clear hA0 hval0
  refine (walk a0 cap0 xs0 W hcells0 hnil0 hcp0.1 hcp0.2 (by omega)).mono fun e W' ⟨he, hg⟩ => ?_
  subst he
  have bel : Below W.heap.size W W' := (Below.refl _ _).grown hg (Nat.le_refl _) (by simp)
  exact ⟨_, rfl, _, _, _, [], _, [], hW', trodAll_mk1 (shut_bool Try.underlying4 _), (trodAll_cons_mk (Below.trod laidOut (by kernel_rfl) (of_decide_eq_true (by kernel_rfl)) k0 bel lt0) trodAll_mk0), rfl, bel.frame _, fun h => by cases h⟩

theorem over : Rows.CheckReachesSaid :=
  OpenClaim.holds_of_wide 4 Try.f4 rfl rfl rfl rfl rfl rfl rfl ⟨rfl, rfl, rfl, rfl, rfl⟩ rfl rfl rfl rfl rfl (by kernel_rfl) Try.func4 (by kernel_rfl)
    (of_decide_eq_true (by kernel_rfl)) (by unfold Func.isWrapper; first | (rw [if_pos (by decide +kernel)]; kernel_rfl) | (rw [if_neg (by decide +kernel)]; exact ⟨rfl, rfl⟩))
    (fun os started H enc _ => lifted os started H enc)

end checkReaches

theorem checkReaches_holds : Rows.CheckReachesSaid := checkReaches.over
#print axioms checkReaches_holds
end Go.Proofs.Ytibaednekfjonaa
