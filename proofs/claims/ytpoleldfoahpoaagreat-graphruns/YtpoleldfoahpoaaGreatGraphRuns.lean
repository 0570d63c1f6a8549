/-
  For every list of blocks and every list of bytes riddlelaw15.GraphRuns returns true and leaves what was there as it was: no condition of ours.
-/
import Derived.Test.YtpoleldfoahpoaaGreatLotP39
import Derived.Test.YtpoleldfoahpoaaGreatLotP37
import Derived.Test.YtpoleldfoahpoaaGreatLotP38
namespace Go.Proofs.YtpoleldfoahpoaaGreat
open Go.ChangeShapes Go.WideShapes Go.ChangeAt Go.RowKit
set_option maxRecDepth 100000
namespace graphRuns

set_option maxHeartbeats 4000000 in
theorem walk (a : Option Addr) (ca : Nat) (xs : List Bv) (b : Option Addr) (cb : Nat) (pk : List UInt8) (w : World) (ha : GC w a xs) (_hc0 : a = none → ca = 0) (_hc1 : xs.length ≤ ca) (_hc2 : ca ≤ maxLen) (hn : xs.length * 56 ≤ 140737488351232) (hm : ∀ x ∈ xs, x.b.code.length * 8 ≤ 140737488351232)
    (hb : Cells w b pk) (hd0 : b = none → cb = 0) (hpm : pk.length ≤ 140737488351232) :
    Calls Tryz.prog 4 #[.slice a xs.length ca, .slice b pk.length cb] w fun e w' => e = .returned (.bool true) ∧ w.grownBy w' none := by
  have hlen : ∀ x ∈ xs, x.b.code.length ≤ 4611686018427387904 := fun x hx => by have := hm x hx; omega
  have CR := refgrun_any a b ca cb xs pk w ha hlen hb (by omega)
  have H : Hid (GC w a xs) := ha
  have HP : Hid (Cells w b pk) := hb
  have HM : Hid (∀ x ∈ xs, x.b.code.length * 8 ≤ 140737488351232) := hm
  have HLN : Hid (∀ x ∈ xs, x.b.code.length ≤ 4611686018427387904) := hlen
  clear ha hb hm hlen
  obtain ⟨R, hR⟩ : ∃ R, runG (gOf xs) pk = R := ⟨_, rfl⟩
  obtain ⟨E, hE⟩ : ∃ E, runGE (gOf xs) pk = E := ⟨_, rfl⟩
  have HR : Hid (runG (gOf xs) pk = R) := hR
  have HE : Hid (runGE (gOf xs) pk = E) := hE
  rw [hR, hE] at CR
  clear hR hE
  obtain ⟨rv, rf, rs⟩ := R
  simp only [GEnd] at CR
  go_enter Tryz.func4, Tryz.ntmps4
  go_wp2_with fail
  refine CR.mono ?_
  rintro e w1 ⟨rfl, G1⟩
  clear CR
  go_upto_region 2 with fail
  have G2 := grown_trans G1 (World.grownBy_alloc w1 (.cells #[.int .u32 (rv : Int), .int .i64 rf, .int .i64 (rs : Int)] 33) none)
  have V2 := VAt.alloc w1 33 #[.int .u32 (rv : Int), .int .i64 rf, .int .i64 (rs : Int)]
  have hs2 : w1.heap.size < (w1.alloc (.cells #[.int .u32 (rv : Int), .int .i64 rf, .int .i64 (rs : Int)] 33)).heap.size := by simp
  generalize w1.alloc (.cells #[.int .u32 (rv : Int), .int .i64 rf, .int .i64 (rs : Int)] 33) = w2 at *
  generalize w1.heap.size = B1 at *
  clear G1
  go_wp2_with fail
  refine (blend_any a ca xs w2 (H.out.keptNone G2) (by omega) HM.out).mono ?_
  rintro e w3 ⟨v, ys, rfl, B, hy, K3⟩
  have HB3 : Hid (BHi w3.heap.size v ys) := B.hi
  have HY : Hid (gOf ys = gOf xs) := hy
  have hyl : ys.length = xs.length := by have := congrArg List.length hy; rwa [gOf_len, gOf_len] at this
  have HYL : Hid (∀ y ∈ ys, y.b.code.length ≤ 4611686018427387904) := fun y hyy => by
    have h1 : y.b ∈ gOf xs := by rw [← hy]; exact List.mem_map.2 ⟨y, hyy, rfl⟩
    obtain ⟨x, hx, hxb⟩ := List.mem_map.1 h1
    rw [← hxb]
    exact HLN.out x hx
  obtain ⟨g, cap, hv, h1, h2, h3, hrow, hil, hap⟩ := id B
  have HL3 : Hid (∀ W, w3.grownBy W none → BLent W w2.heap.size v ys) := fun W G => ⟨g, cap, hv, h1, h2, h3, owns_keptNone hrow G, fun x hx => (hil x hx).keptNone G, hap⟩
  have HG3 : Hid (GC w3 (some ⟨g, 0, none⟩) ys) := ⟨(bcv_front hrow).1, fun y hyy => by
    obtain ⟨-, h2, h3, h4, -⟩ := (hil y hyy).cv
    exact ⟨h2, h3, h4⟩⟩
  have HG2 : Hid (w.grownBy w2 none) := G2
  have HVE : Hid (v = .slice (some ⟨g, 0, none⟩) ys.length cap) := hv
  have G3 := grown_trans G2 K3
  have HK3 : Hid (w2.grownBy w3 none) := K3
  have HV2 : Hid (VAt w2 B1 33 #[.int .u32 (rv : Int), .int .i64 rf, .int .i64 (rs : Int)]) := V2
  clear B hy hrow hil hap h1 h2 h3 hv K3 G2 V2
  go_wp2_with fail
  refine (lend_any b cb pk _ (HP.out.keptNone G3) hd0 hpm).mono ?_
  rintro e w4 ⟨v4, rfl, ⟨h, cap', rfl, -, -, hh1, hh2, hown'⟩, K4⟩
  have D4 := (cells_front hown').1
  have CV4 := grun_any (some ⟨g, 0, none⟩) (some ⟨h, 0, none⟩) cap cap' ys pk w4 (HG3.out.keptNone K4) HYL.out D4 (by omega)
  rw [HY.out, HR.out, HE.out, ← HVE.out] at CV4
  simp only [GEnd] at CV4
  have HK4 : Hid (w3.grownBy w4 none) := K4
  have HO4 : Hid (w4.ownsRow w3.heap.size 5 1 (.slice (some ⟨h, 0, none⟩) (pk.length + 3) cap') (pk.length + 3) ((pk ++ [201, 201, 201]).map bv)) := hown'
  clear D4 G3 HG3 hown' K4
  go_wp2_with fail
  refine CV4.mono ?_
  rintro e w5 ⟨rfl, K5⟩
  have HK5 : Hid (w4.grownBy w5 none) := K5
  clear CV4 K5
  go_upto_region 4 with fail
  have HK6 : Hid (w5.grownBy (w5.alloc (.cells #[.int .u32 (rv : Int), .int .i64 rf, .int .i64 (rs : Int)] 33)) none) := World.grownBy_alloc w5 _ none
  have HU6 : Hid (VAt (w5.alloc (.cells #[.int .u32 (rv : Int), .int .i64 rf, .int .i64 (rs : Int)] 33)) w5.heap.size 33 #[.int .u32 (rv : Int), .int .i64 rf, .int .i64 (rs : Int)]) := VAt.alloc w5 _ _
  have z3 := HK3.out.size
  have z4 := HK4.out.size
  have z5 := HK5.out.size
  generalize w5.alloc (.cells #[.int .u32 (rv : Int), .int .i64 rf, .int .i64 (rs : Int)] 33) = w6 at *
  obtain ⟨B5, hB5⟩ : ∃ B5, w5.heap.size = B5 := ⟨_, rfl⟩
  rw [hB5] at HU6 ⊢
  have K36 := grown_trans HK4.out (grown_trans HK5.out HK6.out)
  have K46 := grown_trans HK5.out HK6.out
  have HO6 : Hid (w6.ownsRow w3.heap.size 5 1 (.slice (some ⟨h, 0, none⟩) (pk.length + 3) cap') (pk.length + 3) ((pk ++ [201, 201, 201]).map bv)) := owns_keptNone HO4.out K46
  have CK := bkept2_any w2 a ca v xs ys w6 (HL3.out w6 K36) (H.out.keptNone HG2.out) (grown_trans HK3.out K36) HY.out (by omega) HM.out w3.heap.size HB3.out
  have hBh : B5 ≠ h := by omega
  have hB3 : w3.heap.size ≤ B5 := by omega
  have hB1h : B1 ≠ h := by omega
  have hwh : w.heap.size ≤ h := by have := HG2.out.size; omega
  clear HK4 HK5 HK6 K36 K46 HO4 HL3 HB3 hB5 z3 z4 z5 HVE HK3
  go_wp2_with fail
  refine CK.mono ?_
  rintro e w7 ⟨rfl, K7, I7⟩
  have G7 := grown_trans HG2.out K7
  have V7 := HV2.out.kept K7
  have U7 := I7.vat HU6.out hB3
  have own7 := I7.owns HO6.out (fun x hx => by obtain rfl := Option.some.inj hx; exact hh1)
  have CB := kept_any h cap' b cb pk w7 (owns_mono own7 (Nat.zero_le _)) (HP.out.keptNone G7) hpm
  clear CK K7 I7 HV2 HU6 HO6 own7
  go_wp2_with fail
  refine CB.mono ?_
  rintro e w8 ⟨rfl, K8⟩
  have G8 : w.grownBy w8 none := grown_trans_new G7 K8 (by intro k hk; obtain rfl := Option.some.inj hk; exact hwh)
  have V8 := V7.grown K8 (by simpa using Ne.symm hB1h)
  have U8 := U7.grown K8 (by simpa using Ne.symm hBh)
  have y0 : w8.cell? ⟨B1, 0, none⟩ = some (.int .u32 (rv : Int)) := V8.cell 0
  have y1 : w8.cell? ⟨B1, 1, none⟩ = some (.int .i64 rf) := V8.cell 1
  have y2 : w8.cell? ⟨B1, 2, none⟩ = some (.int .i64 (rs : Int)) := V8.cell 2
  have u0 : w8.cell? ⟨B5, 0, none⟩ = some (.int .u32 (rv : Int)) := U8.cell 0
  have u1 : w8.cell? ⟨B5, 1, none⟩ = some (.int .i64 rf) := U8.cell 1
  have u2 : w8.cell? ⟨B5, 2, none⟩ = some (.int .i64 (rs : Int)) := U8.cell 2
  clear CB K8 V7 U7 V8 U8 G7
  go_wp2_with fail
  refine (awake15_any _).mono ?_
  rintro e w9 ⟨rfl, K9⟩
  have G9 := grown_trans G8 K9
  clear G8 K9 y0 y1 y2 u0 u1 u2
  go_wp2
  go_ret
  exact ⟨rfl, G9⟩

set_option maxRecDepth 100000 in
theorem lifted (os : Os) (started : os.Started) (H : Type) (enc : TypeId × Value → H) :
    ReturnsInHanded {} Tryz.checked os 4 .any (Rows.graphRunsSpec.pre6 enc Tryz.prog Tryz.f4 Rows.graphRunsRow.domain false) (Rows.graphRunsSpec.post enc Tryz.prog Tryz.f4 false true false false) := by
  refine returnsInHanded_of_change_sized (C := Tryz.checked) own started (by kernel_rfl) Tryz.func4
    (ChangeSpec.witness6 (enc := enc) (C := Tryz.checked) false ⟨#[], #[.slice none 0 0, .slice none 0 0], []⟩ 8 (by kernel_rfl) (by kernel_rfl) (by kernel_rfl) (by kernel_rfl)) ?_
  intro W base args ds gs before hval0 hW hcnd hsz0 _
  have hsz : (DataW.weightsEach Tryz.prog (Tryz.f4.params.toList ++ Rows.graphRunsSpec.plain.varTypes Tryz.prog) (ds ++ gs)).all (· ≤ reachBytes) = true := hsz0
  have hval : ∀ (j : Nat) t v, Tryz.f4.params[j]? = some t → args[j]? = some v → Value.okWide Tryz.prog W .any base t v := hval0
  have hW' := hW
  obtain ⟨p, q, hA0, hV, rfl, hfz, hnd⟩ := hW
  have hA : DataW.TrodAll enc Tryz.prog W 0 (fun _ => true) true Tryz.f4.params.toList args.toList ds p := hA0
  rw [Tryz.params4] at hA hval hsz
  obtain ⟨v0, vs0, d0, ds0, p0, q0, hargs, rfl, rfl, h0, r0⟩ := trodAll_cons hA
  obtain ⟨v1, vs1, d1, ds1, p1, q1, rfl, rfl, rfl, h1, r1⟩ := trodAll_cons r0
  obtain ⟨rfl, rfl, rfl⟩ := trodAll_nil r1
  obtain rfl : args = #[v0, v1] := by cases args; simp_all
  obtain ⟨rfl, rfl⟩ := trodVars_none hV
  obtain ⟨a0, len0, cap0, rfl⟩ := okWide_slice Tryz.underlying22 (hval 0 22 v0 rfl rfl)
  have k0 := h0
  have lt0 : ∀ x ∈ p0, x.block < W.heap.size := by obtain ⟨m, hm⟩ := k0; exact DataW.trod_lt m _ _ _ hm
  obtain ⟨xs0, rfl, hgc0, hnil0, hcp0, hdat0⟩ := open_blocks h0
  have hlen0 := sized_blocks hsz (j := 0) rfl rfl hdat0
  obtain ⟨a1, len1, cap1, rfl⟩ := okWide_slice Tryz.underlying30 (hval 1 30 v1 rfl rfl)
  have k1 := h1
  have lt1 : ∀ x ∈ p1, x.block < W.heap.size := by obtain ⟨m, hm⟩ := k1; exact DataW.trod_lt m _ _ _ hm
  obtain ⟨xs1, rfl, hcells1, hnil1, hdat1⟩ := open_bytes Tryz.underlying30 Tryz.underlying5 (by kernel_rfl) h1
  have hlen1 : xs1.length * 1 ≤ 140737488351232 := by
    rcases hdat1 with ⟨_, rfl⟩ | ⟨elems, spare, rfl, hle⟩
    · simp
    · have := sized_slice hsz (j := 1) (t := 30) (e := 5) rfl rfl Tryz.underlying30
      rw [bytes5] at this
      unfold reachBytes at this
      omega
  clear hA0 hval0
  refine (walk a0 cap0 xs0 a1 cap1 xs1 W hgc0 hnil0 hcp0.1 hcp0.2 hlen0.1 hlen0.2 hcells1 hnil1 (by omega)).mono fun e W' ⟨he, hg⟩ => ?_
  subst he
  have bel : Below W.heap.size W W' := (Below.refl _ _).grown hg (Nat.le_refl _) (by simp)
  exact ⟨_, rfl, _, _, _, [], _, [], hW', trodAll_mk1 (shut_bool Tryz.underlying4 _), (trodAll_cons_mk (Below.trod laidOut (by kernel_rfl) (of_decide_eq_true (by kernel_rfl)) k0 bel lt0) (trodAll_cons_mk (Below.trod laidOut (by kernel_rfl) (of_decide_eq_true (by kernel_rfl)) k1 bel lt1) trodAll_mk0)), rfl, bel.frame _, fun h => by cases h⟩

theorem over : Rows.GraphRunsSaid :=
  OpenClaim.holds_of_wide 4 Tryz.f4 rfl rfl rfl rfl rfl rfl rfl ⟨rfl, rfl, rfl, rfl, rfl⟩ rfl rfl rfl rfl rfl (by kernel_rfl) Tryz.func4 (by kernel_rfl)
    (of_decide_eq_true (by kernel_rfl)) (by unfold Func.isWrapper; first | (rw [if_pos (by decide +kernel)]; kernel_rfl) | (rw [if_neg (by decide +kernel)]; exact ⟨rfl, rfl⟩))
    (fun os started H enc _ => lifted os started H enc)

end graphRuns

theorem graphRuns_holds : Rows.GraphRunsSaid := graphRuns.over
#print axioms graphRuns_holds

end Go.Proofs.YtpoleldfoahpoaaGreat
