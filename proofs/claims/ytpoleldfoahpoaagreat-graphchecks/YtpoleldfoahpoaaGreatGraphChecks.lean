/-
  For every list of blocks riddlelaw15.GraphChecks returns true and leaves what was there as it was: no condition of ours.
-/
import Derived.Test.YtpoleldfoahpoaaGreatGrU
import Derived.Test.YtpoleldfoahpoaaGreatGrZ
import Derived.Test.YtpoleldfoahpoaaGreatLotP37
import Derived.Test.YtpoleldfoahpoaaGreatLotP38
namespace Go.Proofs.YtpoleldfoahpoaaGreat
open Go.ChangeShapes Go.WideShapes Go.ChangeAt Go.RowKit
set_option maxRecDepth 100000
namespace graphChecks

set_option maxHeartbeats 4000000 in
theorem walk (a : Option Addr) (ca : Nat) (xs : List Bv) (w : World) (ha : GC w a xs) (_hc0 : a = none → ca = 0) (_hc1 : xs.length ≤ ca) (_hc2 : ca ≤ maxLen) (hn : xs.length * 56 ≤ 140737488351232) (hm : ∀ x ∈ xs, x.b.code.length * 8 ≤ 140737488351232) :
    Calls Tryz.prog 3 #[.slice a xs.length ca] w fun e w' => e = .returned (.bool true) ∧ w.grownBy w' none := by
  have hlen : ∀ x ∈ xs, x.b.code.length ≤ 4611686018427387904 := fun x hx => by have := hm x hx; omega
  have CR := refgcheck_any a ca xs w ha hlen
  have CL := fun W (G : w.grownBy W none) => blend_any a ca xs W (ha.keptNone G) (by omega) hm
  have H : Hid (GC w a xs) := ha
  have HM : Hid (∀ x ∈ xs, x.b.code.length * 8 ≤ 140737488351232) := hm
  clear ha hm
  generalize hck : checkG (gOf xs) = ck at *
  have HCK : Hid (checkG (gOf xs) = ck) := hck
  clear hck
  obtain ⟨p, q⟩ := ck
  simp only at CR
  go_enter Tryz.func3, Tryz.ntmps3
  go_wp2_with fail
  refine CR.mono ?_
  rintro e w1 ⟨rfl, K1⟩
  have CL1 := CL w1 K1
  have HK1 : Hid (w.grownBy w1 none) := K1
  clear CL CR K1
  go_wp2_with fail
  refine CL1.mono ?_
  rintro e w2 ⟨v, ys, rfl, B, hy, K2⟩
  have hyl : ys.length = xs.length := by have := congrArg List.length hy; rwa [gOf_len, gOf_len] at this
  have hylen : ∀ y ∈ ys, y.b.code.length ≤ 4611686018427387904 := fun y hyy => by
    have h1 : y.b ∈ gOf xs := by rw [← hy]; exact List.mem_map.2 ⟨y, hyy, rfl⟩
    obtain ⟨x, hx, hxb⟩ := List.mem_map.1 h1
    rw [← hxb]
    exact hlen x hx
  obtain ⟨g, cap, hv, h1, h2, h3, hrow, hil, hap⟩ := id B
  have GL : GC w2 (some ⟨g, 0, none⟩) ys := ⟨(bcv_front hrow).1, fun y hyy => by
    obtain ⟨-, h2, h3, h4, -⟩ := (hil y hyy).cv
    exact ⟨h2, h3, h4⟩⟩
  have CC := gcheck_any (some ⟨g, 0, none⟩) cap ys w2 GL hylen
  rw [hy, HCK.out] at CC
  simp only at CC
  rw [← hv] at CC
  have HB2 : Hid (∀ W, w2.grownBy W none → BLent W w.heap.size v ys) := fun W G => by
    refine ⟨g, cap, hv, h1, h2, Nat.le_trans HK1.out.size h3, owns_mono (owns_keptNone hrow G) HK1.out.size, fun x hx => ((hil x hx).keptNone G).mono HK1.out.size, hap⟩
  have HK2 : Hid (w.grownBy w2 none) := grown_trans HK1.out K2
  have HY : Hid (gOf ys = gOf xs) := hy
  clear B hy K2 hrow hil hap GL CL1 HK1 h1 h2 h3 hv hylen
  go_wp2_with fail
  refine CC.mono ?_
  rintro e w3 ⟨rfl, K3⟩
  have CK := bkept_any w a ca v xs ys w3 (HB2.out w3 K3) H.out (grown_trans HK2.out K3) HY.out (by omega) HM.out
  clear CC
  go_wp2_with fail
  refine CK.mono ?_
  rintro e w4 ⟨rfl, K4⟩
  have CA := awake15_any w4
  clear CK K3
  go_wp2_with fail
  refine CA.mono ?_
  rintro e w5 ⟨rfl, K5⟩
  have GF := grown_trans K4 K5
  clear CA K4 K5
  go_wp2
  go_ret
  exact ⟨rfl, GF⟩

set_option maxRecDepth 100000 in
theorem lifted (os : Os) (started : os.Started) (H : Type) (enc : TypeId × Value → H) :
    ReturnsInHanded {} Tryz.checked os 3 .any (Rows.graphChecksSpec.pre6 enc Tryz.prog Tryz.f3 Rows.graphChecksRow.domain false) (Rows.graphChecksSpec.post enc Tryz.prog Tryz.f3 false true false false) := by
  refine returnsInHanded_of_change_sized (C := Tryz.checked) own started (by kernel_rfl) Tryz.func3
    (ChangeSpec.witness6 (enc := enc) (C := Tryz.checked) false ⟨#[], #[.slice none 0 0], []⟩ 8 (by kernel_rfl) (by kernel_rfl) (by kernel_rfl) (by kernel_rfl)) ?_
  intro W base args ds gs before hval0 hW hcnd hsz0 _
  have hsz : (DataW.weightsEach Tryz.prog (Tryz.f3.params.toList ++ Rows.graphChecksSpec.plain.varTypes Tryz.prog) (ds ++ gs)).all (· ≤ reachBytes) = true := hsz0
  have hval : ∀ (j : Nat) t v, Tryz.f3.params[j]? = some t → args[j]? = some v → Value.okWide Tryz.prog W .any base t v := hval0
  have hW' := hW
  obtain ⟨p, q, hA0, hV, rfl, hfz, hnd⟩ := hW
  have hA : DataW.TrodAll enc Tryz.prog W 0 (fun _ => true) true Tryz.f3.params.toList args.toList ds p := hA0
  rw [Tryz.params3] at hA hval hsz
  obtain ⟨v0, vs0, d0, ds0, p0, q0, hargs, rfl, rfl, h0, r0⟩ := trodAll_cons hA
  obtain ⟨rfl, rfl, rfl⟩ := trodAll_nil r0
  obtain rfl : args = #[v0] := by cases args; simp_all
  obtain ⟨rfl, rfl⟩ := trodVars_none hV
  obtain ⟨a0, len0, cap0, rfl⟩ := okWide_slice Tryz.underlying22 (hval 0 22 v0 rfl rfl)
  have k0 := h0
  have lt0 : ∀ x ∈ p0, x.block < W.heap.size := by obtain ⟨m, hm⟩ := k0; exact DataW.trod_lt m _ _ _ hm
  obtain ⟨xs0, rfl, hgc0, hnil0, hcp0, hdat0⟩ := open_blocks h0
  have hlen0 := sized_blocks hsz (j := 0) rfl rfl hdat0
  clear hA0 hval0
  refine (walk a0 cap0 xs0 W hgc0 hnil0 hcp0.1 hcp0.2 hlen0.1 hlen0.2).mono fun e W' ⟨he, hg⟩ => ?_
  subst he
  have bel : Below W.heap.size W W' := (Below.refl _ _).grown hg (Nat.le_refl _) (by simp)
  exact ⟨_, rfl, _, _, _, [], _, [], hW', trodAll_mk1 (shut_bool Tryz.underlying4 _), (trodAll_cons_mk (Below.trod laidOut (by kernel_rfl) (of_decide_eq_true (by kernel_rfl)) k0 bel lt0) trodAll_mk0), rfl, bel.frame _, fun h => by cases h⟩

theorem over : Rows.GraphChecksSaid :=
  OpenClaim.holds_of_wide 3 Tryz.f3 rfl rfl rfl rfl rfl rfl rfl ⟨rfl, rfl, rfl, rfl, rfl⟩ rfl rfl rfl rfl rfl (by kernel_rfl) Tryz.func3 (by kernel_rfl)
    (of_decide_eq_true (by kernel_rfl)) (by unfold Func.isWrapper; first | (rw [if_pos (by decide +kernel)]; kernel_rfl) | (rw [if_neg (by decide +kernel)]; exact ⟨rfl, rfl⟩))
    (fun os started H enc _ => lifted os started H enc)

end graphChecks

theorem graphChecks_holds : Rows.GraphChecksSaid := graphChecks.over
#print axioms graphChecks_holds

end Go.Proofs.YtpoleldfoahpoaaGreat
