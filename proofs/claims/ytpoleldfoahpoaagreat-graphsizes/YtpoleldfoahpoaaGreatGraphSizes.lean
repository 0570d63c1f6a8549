/-
  For every list of blocks riddlelaw15.GraphSizes returns true and leaves what was there as it was: no condition of ours.
-/
import Derived.Test.YtpoleldfoahpoaaGreatLotP39
import Derived.Test.YtpoleldfoahpoaaGreatLotP37
import Derived.Test.YtpoleldfoahpoaaGreatLotP38
namespace Go.Proofs.YtpoleldfoahpoaaGreat
open Go.ChangeShapes Go.WideShapes Go.ChangeAt Go.RowKit
set_option maxRecDepth 100000
namespace graphSizes

theorem bcv_of {w : World} {base : Nat} {v : Value} {bs : List Bool} (h : BOwns w base v bs) : ∃ ao c, v = .slice ao bs.length c ∧ CV w ao (bs.map Value.bool) := by
  obtain ⟨ao, c, hv, hc, -⟩ := cv_of_row h
  exact ⟨ao, c, hv, hc⟩

set_option maxHeartbeats 8000000 in
theorem walk (a : Option Addr) (ca : Nat) (xs : List Bv) (w : World) (ha : GC w a xs) (_hc0 : a = none → ca = 0) (_hc1 : xs.length ≤ ca) (_hc2 : ca ≤ maxLen) (hn : xs.length * 56 ≤ 140737488351232) (hm : ∀ x ∈ xs, x.b.code.length * 8 ≤ 140737488351232) :
    Calls Tryz.prog 5 #[.slice a xs.length ca] w fun e w' => e = .returned (.bool true) ∧ w.grownBy w' none := by
  have hlen : ∀ x ∈ xs, x.b.code.length ≤ 4611686018427387904 := fun x hx => by have := hm x hx; omega
  have CT := reftakes_any a ca xs w ha hlen
  have H : Hid (GC w a xs) := ha
  have HM : Hid (∀ x ∈ xs, x.b.code.length * 8 ≤ 140737488351232) := hm
  have HLN : Hid (∀ x ∈ xs, x.b.code.length ≤ 4611686018427387904) := hlen
  have HZL : Hid (∀ zs : List Bv, gOf zs = gOf xs → (∀ y ∈ zs, y.b.code.length ≤ 4611686018427387904) ∧ zs.length = xs.length) := fun zs hz => ⟨fun y hyy => by
    have h1 : y.b ∈ gOf xs := by rw [← hz]; exact List.mem_map.2 ⟨y, hyy, rfl⟩
    obtain ⟨x, hx, hxb⟩ := List.mem_map.1 h1
    rw [← hxb]
    exact hlen x hx, by have := congrArg List.length hz; rwa [gOf_len, gOf_len] at this⟩
  clear ha hm hlen
  obtain ⟨tk, ht⟩ : ∃ tk, takenB (gOf xs) = tk := ⟨_, rfl⟩
  have HTK : Hid (takenB (gOf xs) = tk) := ht
  rw [ht] at CT
  clear ht
  go_enter Tryz.func5, Tryz.ntmps5
  go_wp2_with fail
  refine CT.mono ?_
  rintro e w1 ⟨rfl, G1⟩
  clear CT
  go_wp2_with fail
  refine (blend_any a ca xs w1 (H.out.keptNone G1) (by omega) HM.out).mono ?_
  rintro e w2 ⟨v, ys, rfl, B, hy, K2⟩
  have HB2 : Hid (BHi w2.heap.size v ys) := B.hi
  have HY : Hid (gOf ys = gOf xs) := hy
  obtain ⟨g, cap, hv, h1, h2, h3, hrow, hil, hap⟩ := id B
  have HL2 : Hid (∀ W, w2.grownBy W none → BLent W w1.heap.size v ys) := fun W G => ⟨g, cap, hv, h1, h2, h3, owns_keptNone hrow G, fun x hx => (hil x hx).keptNone G, hap⟩
  have HG2 : Hid (GC w2 (some ⟨g, 0, none⟩) ys) := ⟨(bcv_front hrow).1, fun y hyy => by
    obtain ⟨-, h2, h3, h4, -⟩ := (hil y hyy).cv
    exact ⟨h2, h3, h4⟩⟩
  have HK2 : Hid (w1.grownBy w2 none) := K2
  have HG1 : Hid (w.grownBy w1 none) := G1
  have CS := gsize_any (some ⟨g, 0, none⟩) cap ys w2 HG2.out (HZL.out ys hy).1
  have CM := fun W (G : w2.grownBy W none) => gmeasure_any (some ⟨g, 0, none⟩) cap ys W (HG2.out.keptNone G) (HZL.out ys hy).1
  have CR := fun W (G : w2.grownBy W none) => greach_any (some ⟨g, 0, none⟩) cap ys W (HG2.out.keptNone G) (HZL.out ys hy).1
  rw [hy, HTK.out, ← hv] at CS
  simp only [hy, HTK.out, ← hv] at CM CR
  obtain ⟨EE, hEE⟩ : ∃ EE : Int, (if tk = true then (0 : Int) else 155) = EE := ⟨_, rfl⟩
  obtain ⟨NS, hNS⟩ : ∃ N : Nat, (if tk = true then countG sizeE (gOf xs) else 0) = N := ⟨_, rfl⟩
  obtain ⟨NM, hNM⟩ : ∃ N : Nat, (if tk = true then countG measE (gOf xs) else 0) = N := ⟨_, rfl⟩
  rw [hNS, hEE] at CS
  simp only [hNM, hEE] at CM CR
  have HEE : Hid ((if tk = true then (0 : Int) else 155) = EE) := hEE
  have HNS : Hid ((if tk = true then countG sizeE (gOf xs) else 0) = NS) := hNS
  have HNM : Hid ((if tk = true then countG measE (gOf xs) else 0) = NM) := hNM
  clear hEE hNS hNM
  clear B hy hrow hil hap h1 h2 h3 hv K2 G1
  go_wp2_with fail
  refine CS.mono ?_
  rintro e w3 ⟨rfl, K3⟩
  have CM3 := CM w3 K3
  clear CS CM
  go_wp2_with fail
  refine CM3.mono ?_
  rintro e w4 ⟨rfl, K4⟩
  have K24 := grown_trans K3 K4
  have CR4 := CR w4 K24
  clear CM3 CR K3 K4
  go_wp2_with fail
  refine CR4.mono ?_
  rintro e w5 ⟨x, rfl, X5, K5⟩
  have K25 := grown_trans K24 K5
  have hs4 : w2.heap.size ≤ w4.heap.size := K24.size
  have HW4 : Hid (w.heap.size ≤ w4.heap.size) := Nat.le_trans HG1.out.size (Nat.le_trans HK2.out.size K24.size)
  have CK := bkept2_any w1 a ca v xs ys w5 (HL2.out w5 K25) (H.out.keptNone HG1.out) (grown_trans HK2.out K25) HY.out (by omega) HM.out w2.heap.size HB2.out
  clear CR4 K5 K24 HL2 HG2 HB2 HK2 K25
  go_wp2_with fail
  refine CK.mono ?_
  rintro e w6 ⟨rfl, K6, I6⟩
  have G6 := grown_trans HG1.out K6
  have X6 : BOwns w6 w4.heap.size x (reachG (gOf xs)) := I6.owns X5 (fun z hz => by have := (X5.lt z hz).1; omega)
  clear CK K6 I6 X5
  have CC := bcopy_any a ca xs w6 (H.out.keptNone G6) (by omega) HM.out
  go_wp2_with fail
  refine CC.mono ?_
  rintro e w7 ⟨v7, zs, rfl, B7, hz, K7⟩
  have G7 := grown_trans G6 K7
  have X7 : BOwns w7 w4.heap.size x (reachG (gOf xs)) := owns_keptNone X6 K7
  obtain ⟨a7, c7, rfl, GC7, -⟩ := B7.gc
  have CR7 := greach_any a7 c7 zs w7 GC7 (HZL.out zs hz).1
  rw [hz, HTK.out, HEE.out] at CR7
  rw [(HZL.out zs hz).2] at CR7 ⊢
  clear CC X6 K7 B7 GC7 G6
  go_wp2_with fail
  refine CR7.mono ?_
  rintro e w8 ⟨y, rfl, Y8, K8⟩
  have G8 := grown_trans G7 K8
  have X8 : BOwns w8 w4.heap.size x (reachG (gOf xs)) := owns_keptNone X7 K8
  have HAP : Hid (∀ z, x.ownBlock = some z → z < w7.heap.size) := fun z hz => (X7.lt z hz).2
  have HW8 : Hid (w7.heap.size ≤ w8.heap.size) := K8.size
  clear CR7 X7 K8 G7
  cases tk with
  | false =>
    obtain rfl : EE = 155 := HEE.out.symm
    obtain rfl : NS = 0 := HNS.out.symm
    obtain rfl : NM = 0 := HNM.out.symm
    have hr : reachG (gOf xs) = [] := by rw [reachG, if_neg (by rw [← takenB_iff, HTK.out]; simp)]
    rw [hr] at X8
    obtain ⟨xa, xc, rfl, -⟩ := bcv_of X8
    simp only [List.length_nil]
    have CA := awake15_any w8
    clear hr X8 Y8 HAP
    go_wp2_with fail
    refine CA.mono ?_
    rintro e w9 ⟨rfl, K9⟩
    have G9 := grown_trans G8 K9
    clear CA
    go_wp2
    go_ret
    exact ⟨rfl, G9⟩
  | true =>
    obtain rfl : EE = 0 := HEE.out.symm
    have hNS : countG sizeE (gOf xs) = NS := HNS.out
    have hNM : countG measE (gOf xs) = NM := HNM.out
    have T := taken_g (takenB_iff.1 HTK.out)
    have hfew : xs.length ≤ 4096 := by have := T.few; rwa [gOf_len] at this
    have hr : reachG (gOf xs) = reachGTo (gOf xs) xs.length := by rw [reachG, if_pos (takenB_iff.1 HTK.out), gOf_len]
    have hrl : (reachGTo (gOf xs) xs.length).length ≤ 4096 := by rw [reachG_len, gOf_len]; exact hfew
    rw [hr] at X8 Y8
    have CW := refreach_any a ca xs w8 (H.out.keptNone G8) T
    have CS := fun W (G : w.grownBy W none) => refsize_any a ca xs W (H.out.keptNone G) T
    have CM := fun W (G : w.grownBy W none) => refmeasure_any a ca xs W (H.out.keptNone G) T
    simp only [hNS, hNM] at CS CM
    clear hr T hNS hNM
    generalize reachGTo (gOf xs) xs.length = bs at *
    go_wp2_with fail
    refine CW.mono ?_
    rintro e w9 ⟨t, rfl, W9, K9⟩
    have G9 := grown_trans G8 K9
    have X9 := owns_keptNone X8 K9
    have Y9 := owns_keptNone Y8 K9
    have CS9 := CS w9 G9
    clear CW CS X8 Y8 K9 G8
    go_wp2_with fail
    refine CS9.mono ?_
    rintro e w10 ⟨rfl, K10⟩
    have G10 := grown_trans G9 K10
    have X10 := owns_keptNone X9 K10
    have Y10 := owns_keptNone Y9 K10
    have W10 := owns_keptNone W9 K10
    have CM10 := CM w10 G10
    clear CS9 CM X9 Y9 W9 K10 G9
    go_wp2_with fail
    refine CM10.mono ?_
    rintro e w11 ⟨rfl, K11⟩
    have G11 := grown_trans G10 K11
    have X11 := owns_keptNone X10 K11
    have Y11 := owns_keptNone Y10 K11
    have W11 := owns_keptNone W10 K11
    clear CM10 X10 Y10 W10 K11 G10
    obtain ⟨xa, xc, hxe, XC⟩ := bcv_of X11
    obtain ⟨ya, yc, hye, YC⟩ := bcv_of Y11
    obtain ⟨ta, tc, hte, WC⟩ := bcv_of W11
    have CB := bsame_any xa ta xc tc bs w11 XC WC (by omega)
    rw [← hxe, ← hte] at CB
    clear XC YC WC hxe hye hte
    go_wp2_with fail
    refine CB.mono ?_
    rintro e w12 ⟨rfl, n12, rfl⟩
    have K12 := grown_drewN w11 n12 none
    have G12 := grown_trans G11 K12
    have X12 := owns_keptNone X11 K12
    have Y12 := owns_keptNone Y11 K12
    have W12 := owns_keptNone W11 K12
    generalize w11.drewN n12 = w12 at *
    have CP := bspoil_own w12 X12 (by omega)
    clear CB X11 Y11 W11 K12 G11
    go_wp2_with fail
    refine CP.mono ?_
    rintro e w13 ⟨rfl, K13⟩
    have G13 : w.grownBy w13 none := grown_trans_new G12 K13 (fun z hz => by have := (X12.lt z hz).1; have := HW4.out; omega)
    have Y13 := Y12.kept K13 (by
      cases hq : y.ownBlock with
      | none => exact .inl rfl
      | some z => exact .inr (fun e => by have h1 := (Y12.lt z hq).1; have h2 := HAP.out z e.symm; omega))
    have W13 := W12.kept K13 (by
      cases hq : t.ownBlock with
      | none => exact .inl rfl
      | some z => exact .inr (fun e => by have h1 := (W12.lt z hq).1; have h2 := HAP.out z e.symm; have := HW8.out; omega))
    obtain ⟨ya', yc', hye', YC⟩ := bcv_of Y13
    obtain ⟨ta', tc', hte', WC⟩ := bcv_of W13
    have CB2 := bsame_any ya' ta' yc' tc' bs w13 YC WC (by omega)
    rw [← hye', ← hte'] at CB2
    clear CP K13 G12 X12 Y12 W12 Y13 W13 YC WC hye' hte'
    go_wp2_with fail
    refine CB2.mono ?_
    rintro e w14 ⟨rfl, n14, rfl⟩
    have G14 := grown_trans G13 (grown_drewN w13 n14 none)
    generalize w13.drewN n14 = w14 at *
    have CA := awake15_any w14
    clear CB2 G13
    go_wp2_with fail
    refine CA.mono ?_
    rintro e w15 ⟨rfl, K15⟩
    have G15 := grown_trans G14 K15
    clear CA
    go_wp2
    go_ret
    exact ⟨rfl, G15⟩

set_option maxRecDepth 100000 in
theorem lifted (os : Os) (started : os.Started) (H : Type) (enc : TypeId × Value → H) :
    ReturnsInHanded {} Tryz.checked os 5 .any (Rows.graphSizesSpec.pre6 enc Tryz.prog Tryz.f5 Rows.graphSizesRow.domain false) (Rows.graphSizesSpec.post enc Tryz.prog Tryz.f5 false true false false) := by
  refine returnsInHanded_of_change_sized (C := Tryz.checked) own started (by kernel_rfl) Tryz.func5
    (ChangeSpec.witness6 (enc := enc) (C := Tryz.checked) false ⟨#[], #[.slice none 0 0], []⟩ 8 (by kernel_rfl) (by kernel_rfl) (by kernel_rfl) (by kernel_rfl)) ?_
  intro W base args ds gs before hval0 hW hcnd hsz0 _
  have hsz : (DataW.weightsEach Tryz.prog (Tryz.f5.params.toList ++ Rows.graphSizesSpec.plain.varTypes Tryz.prog) (ds ++ gs)).all (· ≤ reachBytes) = true := hsz0
  have hval : ∀ (j : Nat) t v, Tryz.f5.params[j]? = some t → args[j]? = some v → Value.okWide Tryz.prog W .any base t v := hval0
  have hW' := hW
  obtain ⟨p, q, hA0, hV, rfl, hfz, hnd⟩ := hW
  have hA : DataW.TrodAll enc Tryz.prog W 0 (fun _ => true) true Tryz.f5.params.toList args.toList ds p := hA0
  rw [Tryz.params5] at hA hval hsz
  obtain ⟨v0, vs0, d0, ds0, p0, q0, hargs, rfl, rfl, h0, r0⟩ := trodAll_cons hA
  obtain ⟨rfl, rfl, rfl⟩ := trodAll_nil r0
  obtain rfl : args = #[v0] := by cases args; simp_all
  obtain ⟨rfl, rfl⟩ := trodVars_none hV
  obtain ⟨a0, len0, cap0, rfl⟩ := okWide_slice Tryz.underlying22 (hval 0 22 v0 rfl rfl)
  have k0 := h0
  have lt0 : ∀ x ∈ p0, x.block < W.heap.size := by obtain ⟨m, hm⟩ := k0; exact DataW.trod_lt m _ _ _ hm
  obtain ⟨xs0, rfl, hgc0, hnil0, hcp0, hdat0⟩ := open_blocks h0
  have hlen0 := sized_blocks hsz (j := 0) rfl rfl hdat0
  clear hA0 hval0
  refine (walk a0 cap0 xs0 W hgc0 hnil0 hcp0.1 hcp0.2 hlen0.1 hlen0.2).mono fun e W' ⟨he, hg⟩ => ?_
  subst he
  have bel : Below W.heap.size W W' := (Below.refl _ _).grown hg (Nat.le_refl _) (by simp)
  exact ⟨_, rfl, _, _, _, [], _, [], hW', trodAll_mk1 (shut_bool Tryz.underlying4 _), (trodAll_cons_mk (Below.trod laidOut (by kernel_rfl) (of_decide_eq_true (by kernel_rfl)) k0 bel lt0) trodAll_mk0), rfl, bel.frame _, fun h => by cases h⟩

theorem over : Rows.GraphSizesSaid :=
  OpenClaim.holds_of_wide 5 Tryz.f5 rfl rfl rfl rfl rfl rfl rfl ⟨rfl, rfl, rfl, rfl, rfl⟩ rfl rfl rfl rfl rfl (by kernel_rfl) Tryz.func5 (by kernel_rfl)
    (of_decide_eq_true (by kernel_rfl)) (by unfold Func.isWrapper; first | (rw [if_pos (by decide +kernel)]; kernel_rfl) | (rw [if_neg (by decide +kernel)]; exact ⟨rfl, rfl⟩))
    (fun os started H enc _ => lifted os started H enc)

end graphSizes

theorem graphSizes_holds : Rows.GraphSizesSaid := graphSizes.over
#print axioms graphSizes_holds

end Go.Proofs.YtpoleldfoahpoaaGreat
