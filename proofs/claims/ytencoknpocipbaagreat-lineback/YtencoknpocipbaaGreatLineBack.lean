/-
  For every list of blocks and every list of bytes riddlelaw18.LineBack returns true and leaves what was there as it was: no condition of ours.
-/
import Derived.Test.YtencoknpocipbaaGreatLotP30
import Derived.Test.YtencoknpocipbaaGreatGqA
import Derived.Test.YtencoknpocipbaaGreatLotP41
import Derived.Test.YtencoknpocipbaaGreatLotP29
import Derived.Test.YtencoknpocipbaaGreatLotP42
import Derived.Test.YtencoknpocipbaaGreatOpenB
namespace Go.Proofs.YtencoknpocipbaaGreat
open Go.ChangeShapes Go.WideShapes Go.ChangeAt Go.RowKit
set_option maxRecDepth 100000
namespace lineBack

theorem icv {w : World} {base n c : Nat} {a : Option Addr} {P : List In} (O : w.ownsRow base 54 4 (.slice a n c) P.length (flat P)) : CV w a (flat P) ∧ (a = none → c = 0) ∧ P.length ≤ c := by
  obtain ⟨x1, x2, x3, x4, x6, -, x5, -⟩ := cv_of_row O
  injection x3 with e1 e2 e3
  subst e1 e3
  exact ⟨x4, x5, x6⟩
theorem lin_len (g : List Bk) : (linG g).length ≤ 4096 := by
  unfold linG
  split
  · rename_i h
    rw [linE] at h
    by_cases h1 : (gckG g).2 = 0
    · rw [if_pos h1] at h
      by_cases h2 : 4096 < countG measE g
      · rw [if_pos h2] at h; cases h
      · have := (prog_taken (taken_g h1) (by omega)).2
        omega
    · rw [if_neg h1] at h; cases h
  · simp
/-- All that the law asks, without Go. -/
theorem back_pure {g : List Bk} {pk : List UInt8} (h : linE g = 0) (hp : pk.length ≤ 65536) :
    ofE (linG g) = 0 ∧ runGE g pk = 0 ∧ runGE (ofG (linG g)) pk = 0 ∧ runE (linG g) pk = 0 ∧ (runG (ofG (linG g)) pk).1 = (runG g pk).1 ∧ (runG (ofG (linG g)) pk).2.1 = (runG g pk).2.1 ∧ (runV (linG g) pk).1 = (runG g pk).1 ∧ (runV (linG g) pk).2.1 = (runG g pk).2.1 ∧ TakenG (ofG (linG g)) := by
  have e : linG g = progG g := by rw [linG, if_pos h]
  rw [e]
  rw [linE] at h
  by_cases h1 : (gckG g).2 = 0
  · rw [if_pos h1] at h
    by_cases h2 : 4096 < countG measE g
    · rw [if_pos h2] at h; cases h
    · have hc := (prog_taken (taken_g h1) (by omega)).1
      have hc2 : (checkV (progG g)).2 = 0 := by rw [hc]
      obtain ⟨r1, r2, s1, s2, -⟩ := line_runs h1 (by omega) (pk := pk) hp
      obtain ⟨q1, q2, t1, t2, -⟩ := same_pure hc2 (pk := pk) hp
      exact ⟨by rw [ofE, if_pos hc2], r2, q1, r1, t1.trans s1, t2.trans s2, s1, s2, of_taken hc2⟩
  · rw [if_neg h1] at h; cases h
theorem taken_code {g : List Bk} (T : TakenG g) : ∀ b ∈ g, b.code.length ≤ 4096 := by
  intro b hb
  have h1 := T.room
  have h2 : ∀ (l : List Bk), b ∈ l → b.code.length ≤ codeLen l := by
    intro l
    induction l with
    | nil => intro h; simp at h
    | cons c r ih =>
      intro h
      have := codeLen_cons c r
      rcases List.mem_cons.1 h with rfl | h
      · omega
      · have := ih h; omega
  have := h2 g hb
  omega

set_option maxHeartbeats 8000000 in
theorem walk (a : Option Addr) (ca : Nat) (xs : List Bv) (b : Option Addr) (cb : Nat) (pk : List UInt8) (w : World) (ha : GC w a xs) (_hc0 : a = none → ca = 0) (_hc1 : xs.length ≤ ca) (_hc2 : ca ≤ maxLen) (hn : xs.length * 56 ≤ 140737488351232) (hm : ∀ x ∈ xs, x.b.code.length * 8 ≤ 140737488351232)
    (hb : Cells w b pk) (hd0 : b = none → cb = 0) (hpm : pk.length ≤ 140737488351232) :
    Calls Tryz.prog 3 #[.slice a xs.length ca, .slice b pk.length cb] w fun e w' => e = .returned (.bool true) ∧ w.grownBy w' none := by
  have hlen : ∀ x ∈ xs, x.b.code.length ≤ 4611686018427387904 := fun x hx => by have := hm x hx; omega
  have H : Hid (GC w a xs) := ha
  have HP : Hid (Cells w b pk) := hb
  have HM : Hid (∀ x ∈ xs, x.b.code.length * 8 ≤ 140737488351232) := hm
  have HZL : Hid (∀ ys : List Bv, gOf ys = gOf xs → ∀ y ∈ ys, y.b.code.length ≤ 4611686018427387904) := fun ys hy y hyy => by
    have h1 : y.b ∈ gOf xs := by rw [← hy]; exact List.mem_map.2 ⟨y, hyy, rfl⟩
    obtain ⟨x, hx, hxb⟩ := List.mem_map.1 h1
    rw [← hxb]
    exact hlen x hx
  have HCY : Hid (∀ W : World, w.grownBy W none → Calls Tryz.prog 10 #[.slice b pk.length cb] W fun e w' => ∃ a' c', e = .returned (.slice a' pk.length c') ∧ Cells w' a' pk ∧ W.grownBy w' none) := fun W G => by
    refine (copy_any b cb pk W (hb.keptNone G) hd0 (by omega)).mono ?_
    rintro e w' ⟨v, rfl, O, K⟩
    obtain ⟨a', c', rfl, hc, -⟩ := O.shape
    exact ⟨a', c', rfl, hc, K⟩
  have CB := bcopy_any a ca xs w ha (by omega) hm
  clear ha hb hm hlen
  obtain ⟨E, hE⟩ : ∃ E, linE (gOf xs) = E := ⟨_, rfl⟩
  obtain ⟨P, hP⟩ : ∃ P, linG (gOf xs) = P := ⟨_, rfl⟩
  have hPl := lin_len (gOf xs)
  rw [hP] at hPl
  have HE : Hid (linE (gOf xs) = E ∧ linG (gOf xs) = P) := ⟨hE, hP⟩
  clear hE hP
  go_enter Tryz.func3, Tryz.ntmps3
  go_wp2_with fail
  refine CB.mono ?_
  rintro e w1 ⟨v, ys, rfl, B, hy, G1⟩
  obtain ⟨a1, c1, rfl, gc1, -⟩ := B.gc
  have CL := linear_any a1 c1 ys w1 gc1 (HZL.out ys hy)
  rw [hy, HE.out.1, HE.out.2] at CL
  clear CB B hy gc1
  go_wp2_with fail
  refine CL.mono ?_
  rintro e w2 ⟨v2, rfl, O2, K2⟩
  obtain ⟨a2, c2, rfl⟩ := own_slice O2
  have G2 := grown_trans G1 K2
  have HO2 : Hid (IOwns w2 w1.heap.size (.slice a2 P.length c2) P) := O2
  clear CL O2 K2 G1
  by_cases h0 : E = 0
  · subst h0
    by_cases hp : 65536 < pk.length
    · have hp' : (65536 : Int) < (pk.length : Int) := by omega
      go_wp2_with fail
      refine (awake18_any _).mono ?_
      rintro e w3 ⟨rfl, K3⟩
      go_wp2
      go_ret
      exact ⟨rfl, grown_trans G2 K3⟩
    · have hp' : ¬ (65536 : Int) < (pk.length : Int) := by omega
      have HB := back_pure (pk := pk) HE.out.1 (by omega)
      rw [HE.out.2] at HB
      obtain ⟨f1, f2, f3, f4, f5, f6, f7, f8, f9⟩ := HB
      have HT : Hid (TakenG (ofG P)) := f9
      obtain ⟨⟨rv, rf, rs⟩, hr1⟩ : ∃ r, runG (gOf xs) pk = r := ⟨_, rfl⟩
      obtain ⟨⟨qv, qf, qs⟩, hr2⟩ : ∃ r, runG (ofG P) pk = r := ⟨_, rfl⟩
      obtain ⟨⟨uv, uf, ul⟩, hr3⟩ : ∃ r, runV P pk = r := ⟨_, rfl⟩
      have HRN : Hid ((runG (gOf xs) pk = (rv, rf, rs) ∧ runGE (gOf xs) pk = 0) ∧ (runG (ofG P) pk = (qv, qf, qs) ∧ runGE (ofG P) pk = 0) ∧ (runV P pk = (uv, uf, ul) ∧ runE P pk = 0) ∧ ofE P = 0) := ⟨⟨hr1, f2⟩, ⟨hr2, f3⟩, ⟨hr3, f4⟩, f1⟩
      rw [hr1, hr2] at f5 f6
      rw [hr1, hr3] at f7 f8
      simp only at f5 f6 f7 f8
      subst f5 f6 f7 f8
      clear f1 f2 f3 f4 f9 hr1 hr2 hr3
      go_wp2_with fail
      refine (icopy_any a2 c2 P w2 (icv HO2.out).1 (icv HO2.out).2.1 (by omega)).mono ?_
      rintro e w3 ⟨v3, rfl, O3, K3⟩
      obtain ⟨a3, c3, rfl⟩ := own_slice O3
      have CO := of_any a3 c3 P w3 (icv O3).1 (icv O3).2.2
      have HO3 : Hid (IOwns w3 w1.heap.size (.slice a2 P.length c2) P) := owns_keptNone HO2.out K3
      have G3 := grown_trans G2 K3
      clear O3 K3 G2 HO2
      go_wp2_with fail
      refine CO.mono ?_
      rintro e w4 ⟨v4, zs, rfl, B4, hz, K4⟩
      rw [HRN.out.2.2.2]
      obtain ⟨a4, c4, rfl, gc4, -⟩ := B4.gc
      have HZ4 : Hid (GC w4 a4 zs ∧ gOf zs = ofG P ∧ ∀ z ∈ zs, z.b.code.length ≤ 4611686018427387904) := ⟨gc4, hz, fun z hzz => by
        have h1 : z.b ∈ ofG P := by rw [← hz]; exact List.mem_map.2 ⟨z, hzz, rfl⟩
        have := taken_code HT.out _ h1
        omega⟩
      have HO4 : Hid (IOwns w4 w1.heap.size (.slice a2 P.length c2) P) := owns_keptNone HO3.out K4
      have G4 := grown_trans G3 K4
      clear CO B4 gc4 hz K4 G3 HO3 HT
      go_wp2_with fail
      refine (bcopy_any a ca xs w4 (H.out.keptNone G4) (by omega) HM.out).mono ?_
      rintro e w5 ⟨v5, us, rfl, B5, hu, K5⟩
      obtain ⟨a5, c5, rfl, gc5, -⟩ := B5.gc
      have G5 := grown_trans G4 K5
      have HU5 : Hid (GC w5 a5 us ∧ gOf us = gOf xs) := ⟨gc5, hu⟩
      have HK5 : Hid (w4.grownBy w5 none) := K5
      clear B5 gc5 hu K5 G4
      go_wp2_with fail
      refine (HCY.out w5 G5).mono ?_
      rintro e w6 ⟨a6, c6, rfl, C6, K6⟩
      have CG := grun_any a5 a6 c5 c6 us pk w6 (HU5.out.1.keptNone K6) (HZL.out us HU5.out.2) C6 (by omega)
      rw [HU5.out.2, HRN.out.1.1, HRN.out.1.2] at CG
      have HK6 : Hid (w4.grownBy w6 none) := grown_trans HK5.out K6
      have G6 := grown_trans G5 K6
      clear C6 K6 G5 HK5 HU5
      go_wp2_with fail
      refine CG.mono ?_
      rintro e w7 ⟨rfl, K7⟩
      have V7 := GVt.alloc w7 35 #[.int .u32 (uv : Int), .int .i64 uf, .int .i64 (rs : Int)]
      have K8 : w7.grownBy (w7.alloc (.cells #[.int .u32 (uv : Int), .int .i64 uf, .int .i64 (rs : Int)] 35)) none := World.grownBy_alloc _ _ _
      go_upto_region 6 with fail
      generalize w7.alloc (.cells #[.int .u32 (uv : Int), .int .i64 uf, .int .i64 (rs : Int)] 35) = w8 at *
      generalize w7.heap.size = B1 at *
      have HK8 : Hid (w4.grownBy w8 none) := grown_trans HK6.out (grown_trans K7 K8)
      have G8 := grown_trans G6 (grown_trans K7 K8)
      clear CG K7 K8 G6 HK6
      go_wp2_with fail
      refine (HCY.out w8 G8).mono ?_
      rintro e w9 ⟨a9, c9, rfl, C9, K9⟩
      have CG := grun_any a4 a9 c4 c9 zs pk w9 (HZ4.out.1.keptNone (grown_trans HK8.out K9)) HZ4.out.2.2 C9 (by omega)
      rw [HZ4.out.2.1, HRN.out.2.1.1, HRN.out.2.1.2] at CG
      have HK9 : Hid (w4.grownBy w9 none) := grown_trans HK8.out K9
      have G9 := grown_trans G8 K9
      have V9 := V7.kept K9
      clear C9 K9 G8 HK8 HZ4 V7
      go_wp2_with fail
      refine CG.mono ?_
      rintro e w10 ⟨rfl, K10⟩
      have V10 := GVt.alloc w10 35 #[.int .u32 (uv : Int), .int .i64 uf, .int .i64 (qs : Int)]
      have K11 : w10.grownBy (w10.alloc (.cells #[.int .u32 (uv : Int), .int .i64 uf, .int .i64 (qs : Int)] 35)) none := World.grownBy_alloc _ _ _
      go_upto_region 7 with fail
      generalize w10.alloc (.cells #[.int .u32 (uv : Int), .int .i64 uf, .int .i64 (qs : Int)] 35) = w11 at *
      generalize w10.heap.size = B2 at *
      have HK11 : Hid (w4.grownBy w11 none) := grown_trans HK9.out (grown_trans K10 K11)
      have G11 := grown_trans G9 (grown_trans K10 K11)
      have V11 := (V9.kept K10).kept K11
      clear CG K10 K11 G9 HK9 V9
      go_wp2_with fail
      refine (HCY.out w11 G11).mono ?_
      rintro e w12 ⟨a12, c12, rfl, C12, K12⟩
      have CV := run_any a2 a12 c2 c12 P pk w12 ((icv HO4.out).1.keptNone (grown_trans HK11.out K12)) C12
      rw [HRN.out.2.2.1.1, HRN.out.2.2.1.2] at CV
      have G12 := grown_trans G11 K12
      have V12 := V11.kept K12
      have V12' := V10.kept K12
      clear C12 K12 G11 HK11 HO4 V11 V10
      go_wp2_with fail
      refine CV.mono ?_
      rintro e w13 ⟨rfl, K13⟩
      have V13 := GVt.alloc w13 35 #[.int .u32 (uv : Int), .int .i64 uf, .int .i64 (ul.length : Int)]
      have K14 : w13.grownBy (w13.alloc (.cells #[.int .u32 (uv : Int), .int .i64 uf, .int .i64 (ul.length : Int)] 35)) none := World.grownBy_alloc _ _ _
      go_upto_region 8 with fail
      generalize w13.alloc (.cells #[.int .u32 (uv : Int), .int .i64 uf, .int .i64 (ul.length : Int)] 35) = w14 at *
      generalize w13.heap.size = B3 at *
      have G14 := grown_trans G12 (grown_trans K13 K14)
      have V14 := (V12.kept K13).kept K14
      have V14' := (V12'.kept K13).kept K14
      have x0 : w14.cell? ⟨B1, 0, none⟩ = some (.int .u32 (uv : Int)) := V14.cell 0
      have x1 : w14.cell? ⟨B1, 1, none⟩ = some (.int .i64 uf) := V14.cell 1
      have y0 : w14.cell? ⟨B2, 0, none⟩ = some (.int .u32 (uv : Int)) := V14'.cell 0
      have y1 : w14.cell? ⟨B2, 1, none⟩ = some (.int .i64 uf) := V14'.cell 1
      have z0 : w14.cell? ⟨B3, 0, none⟩ = some (.int .u32 (uv : Int)) := V13.cell 0
      have z1 : w14.cell? ⟨B3, 1, none⟩ = some (.int .i64 uf) := V13.cell 1
      clear CV K13 K14 V12 V12' V13 V14 V14' G12
      go_wp2_with fail
      refine (awake18_any _).mono ?_
      rintro e w15 ⟨rfl, K15⟩
      go_wp2
      go_ret
      exact ⟨rfl, grown_trans G14 K15⟩
  · have h0' : (E != 0) = true := by simpa using h0
    go_wp2_with fail
    refine (awake18_any _).mono ?_
    rintro e w3 ⟨rfl, K3⟩
    go_wp2
    go_ret
    exact ⟨rfl, grown_trans G2 K3⟩

set_option maxRecDepth 100000 in
theorem lifted (os : Os) (started : os.Started) (H : Type) (enc : TypeId × Value → H) :
    ReturnsInHanded {} Tryz.checked os 3 .any (Rows.lineBackSpec.pre6 enc Tryz.prog Tryz.f3 Rows.lineBackRow.domain false) (Rows.lineBackSpec.post enc Tryz.prog Tryz.f3 false true false false) := by
  refine returnsInHanded_of_change_sized (C := Tryz.checked) own started (by kernel_rfl) Tryz.func3
    (ChangeSpec.witness6 (enc := enc) (C := Tryz.checked) false ⟨#[], #[.slice none 0 0, .slice none 0 0], []⟩ 8 (by kernel_rfl) (by kernel_rfl) (by kernel_rfl) (by kernel_rfl)) ?_
  intro W base args ds gs before hval0 hW hcnd hsz0 _
  have hsz : (DataW.weightsEach Tryz.prog (Tryz.f3.params.toList ++ Rows.lineBackSpec.plain.varTypes Tryz.prog) (ds ++ gs)).all (· ≤ reachBytes) = true := hsz0
  have hval : ∀ (j : Nat) t v, Tryz.f3.params[j]? = some t → args[j]? = some v → Value.okWide Tryz.prog W .any base t v := hval0
  have hW' := hW
  obtain ⟨p, q, hA0, hV, rfl, hfz, hnd⟩ := hW
  have hA : DataW.TrodAll enc Tryz.prog W 0 (fun _ => true) true Tryz.f3.params.toList args.toList ds p := hA0
  rw [Tryz.params3] at hA hval hsz
  obtain ⟨v0, vs0, d0, ds0, p0, q0, hargs, rfl, rfl, h0, r0⟩ := trodAll_cons hA
  obtain ⟨v1, vs1, d1, ds1, p1, q1, rfl, rfl, rfl, h1, r1⟩ := trodAll_cons r0
  obtain ⟨rfl, rfl, rfl⟩ := trodAll_nil r1
  obtain rfl : args = #[v0, v1] := by cases args; simp_all
  obtain ⟨rfl, rfl⟩ := trodVars_none hV
  obtain ⟨a0, len0, cap0, rfl⟩ := okWide_slice Tryz.underlying22 (hval 0 22 v0 rfl rfl)
  have k0 := h0
  have lt0 : ∀ x ∈ p0, x.block < W.heap.size := by obtain ⟨m, hm⟩ := k0; exact DataW.trod_lt m _ _ _ hm
  obtain ⟨xs0, rfl, hgc0, hnil0, hcp0, hdat0⟩ := open_blocks h0
  have hlen0 := sized_blocks hsz (j := 0) rfl rfl hdat0
  obtain ⟨a1, len1, cap1, rfl⟩ := okWide_slice Tryz.underlying23 (hval 1 23 v1 rfl rfl)
  have k1 := h1
  have lt1 : ∀ x ∈ p1, x.block < W.heap.size := by obtain ⟨m, hm⟩ := k1; exact DataW.trod_lt m _ _ _ hm
  obtain ⟨xs1, rfl, hcells1, hnil1, hdat1⟩ := open_bytes Tryz.underlying23 Tryz.underlying5 (by kernel_rfl) h1
  have hlen1 : xs1.length * 1 ≤ 140737488351232 := by
    rcases hdat1 with ⟨_, rfl⟩ | ⟨elems, spare, rfl, hle⟩
    · simp
    · have := sized_slice hsz (j := 1) (t := 23) (e := 5) rfl rfl Tryz.underlying23
      rw [bytes5] at this
      unfold reachBytes at this
      omega
  clear hA0 hval0
  refine (walk a0 cap0 xs0 a1 cap1 xs1 W hgc0 hnil0 hcp0.1 hcp0.2 hlen0.1 hlen0.2 hcells1 hnil1 (by omega)).mono fun e W' ⟨he, hg⟩ => ?_
  subst he
  have bel : Below W.heap.size W W' := (Below.refl _ _).grown hg (Nat.le_refl _) (by simp)
  exact ⟨_, rfl, _, _, _, [], _, [], hW', trodAll_mk1 (shut_bool Tryz.underlying4 _), (trodAll_cons_mk (Below.trod laidOut (by kernel_rfl) (of_decide_eq_true (by kernel_rfl)) k0 bel lt0) (trodAll_cons_mk (Below.trod laidOut (by kernel_rfl) (of_decide_eq_true (by kernel_rfl)) k1 bel lt1) trodAll_mk0)), rfl, bel.frame _, fun h => by cases h⟩

theorem over : Rows.LineBackSaid :=
  OpenClaim.holds_of_wide 3 Tryz.f3 rfl rfl rfl rfl rfl rfl rfl ⟨rfl, rfl, rfl, rfl, rfl⟩ rfl rfl rfl rfl rfl (by kernel_rfl) Tryz.func3 (by kernel_rfl)
    (of_decide_eq_true (by kernel_rfl)) (by unfold Func.isWrapper; first | (rw [if_pos (by decide +kernel)]; kernel_rfl) | (rw [if_neg (by decide +kernel)]; exact ⟨rfl, rfl⟩))
    (fun os started H enc _ => lifted os started H enc)

end lineBack

theorem lineBack_holds : Rows.LineBackSaid := lineBack.over
#print axioms lineBack_holds

end Go.Proofs.YtencoknpocipbaaGreat
