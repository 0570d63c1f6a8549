/-
  For every list of instructions and every list of bytes riddlelaw15.GraphSame returns true and leaves what was there as it was: no condition of ours.
-/
import Derived.Test.YtencoknpocipbaaGqA
import Derived.Test.YtencoknpocipbaaVgP
import Derived.Test.YtencoknpocipbaaLotP38
import Derived.Test.YtencoknpocipbaaLotP39
import Derived.Test.YtencoknpocipbaaLotP40
import Derived.BigQuiet
namespace Go.Proofs.Ytencoknpocipbaa
open Go.ChangeShapes Go.WideShapes Go.ChangeAt Go.RowKit
set_option maxRecDepth 100000
namespace graphSame

theorem places {w : World} {ao : Option Addr} {ts : List Nat} (h : CV w ao ((zl ts).map iv)) {k : Nat} (hk : k < ts.length) : ∃ b off, ao = some ⟨b, off, none⟩ ∧ ∀ i (hi : i < ts.length), w.cell? ⟨b, off + i, none⟩ = some (.int .i64 (ts[i] : Int)) := by
  obtain ⟨b, off, hao, hc⟩ := h.addr (k := k) (by simpa [zl] using hk)
  refine ⟨b, off, hao, fun i hi => ?_⟩
  rw [hc i (by simpa [zl] using hi)]
  simp [zl, iv]

theorem code_few {xs : List In} (h : (checkV xs).2 = 0) {b : Bk} (hb : b ∈ ofG xs) : b.code.length ≤ 4096 := by
  obtain ⟨i, hi, rfl⟩ := List.mem_iff_getElem.1 hb
  obtain ⟨s, e, B, -, hg⟩ := blk_at h hi
  rw [hg, blk_code, cd_len B.lt B.le]
  have := (taken h).2.1
  have := B.lt
  split <;> omega

set_option maxHeartbeats 8000000 in
theorem walk (a : Option Addr) (ca : Nat) (xs : List In) (b : Option Addr) (cb : Nat) (pk : List UInt8) (w : World) (ha : CV w a (flat xs)) (hc0 : a = none → ca = 0) (_hca : xs.length ≤ ca) (_hcm : ca ≤ maxLen) (hn : xs.length * 8 ≤ 140737488351232)
    (hb : Cells w b pk) (hd0 : b = none → cb = 0) (hpm : pk.length ≤ 140737488351232) :
    Calls Try.prog 3 #[.slice a xs.length ca, .slice b pk.length cb] w fun e w' => e = .returned (.bool true) ∧ w.grownBy w' none := by
  obtain ⟨P, E, hPE⟩ : ∃ P E, checkV xs = (P, E) := ⟨_, _, rfl⟩
  have HCI : Hid (∀ W, w.grownBy W none → Calls Try.prog 5 #[.slice a xs.length ca] W fun e w' => ∃ v, e = .returned v ∧ IOwns w' W.heap.size v xs ∧ W.grownBy w' none) := fun W G => icopy_any a ca xs W (ha.keptNone G) hc0 (by omega)
  have HBY : Hid (∀ W, w.grownBy W none → Calls Try.prog 11 #[.slice b pk.length cb] W fun e w' => ∃ v, e = .returned v ∧ Owns w' W.heap.size v pk ∧ W.grownBy w' none) := fun W G => copy_any b cb pk W (hb.keptNone G) hd0 (by omega)
  have HCK : Hid (∀ W a' c', CV W a' (flat xs) → Calls Try.prog 4 #[.slice a' xs.length c'] W fun e w' => e = .returned (.tuple #[.int .i64 (P : Int), .int .i64 E]) ∧ W.grownBy w' none) := fun W a' c' h => by
    have k := check_any a' c' xs W h
    rw [hPE] at k
    exact k
  have HX : Hid (CV w a (flat xs)) := ha
  have HPE : Hid (checkV xs = (P, E)) := hPE
  clear ha hb hPE
  go_enter Try.func3, Try.ntmps3
  go_wp2_with fail
  refine (HCI.out w (World.grownBy.refl _ _)).mono ?_
  rintro e w1 ⟨v1, rfl, O1, K1⟩
  obtain ⟨a1, c1, rfl, C1, -⟩ := cv_of_row O1
  have CC := HCK.out w1 a1 c1 C1
  clear O1 C1 HCK
  go_wp2_with fail
  refine CC.mono ?_
  rintro e w2 ⟨rfl, K2⟩
  have G2 := grown_trans K1 K2
  clear CC K1 K2
  by_cases hE : E = 0
  · subst hE
    by_cases hp : (65536 : Int) < (pk.length : Int)
    · have CA := awake15_any w2
      go_wp2_with fail
      refine CA.mono ?_
      rintro e w3 ⟨rfl, K3⟩
      have G3 := grown_trans G2 K3
      clear CA
      go_wp2
      go_ret
      exact ⟨rfl, G3⟩
    · have hck : (checkV xs).2 = 0 := by rw [HPE.out]
      obtain ⟨e1, e2, R⟩ := same_pure hck (pk := pk) (by omega)
      have hT := of_taken hck
      have hxl := (taken hck).2.1
      have hx0 := (taken hck).1
      have hwi := (runV_runs e2).within
      have htl := runV_len xs pk
      obtain ⟨N, hN⟩ : ∃ N, (ofG xs).length = N := ⟨_, rfl⟩
      have hNf : N ≤ 4096 := by rw [← hN]; exact hT.few
      have HZL : Hid (∀ zs : List Bv, gOf zs = ofG xs → (∀ y ∈ zs, y.b.code.length ≤ 4096) ∧ zs.length = N) := fun zs hz => ⟨fun y hyy => by
        have h1 : y.b ∈ ofG xs := by rw [← hz]; exact List.mem_map.2 ⟨y, hyy, rfl⟩
        exact code_few hck h1, by have := congrArg List.length hz; rwa [gOf_len, hN] at this⟩
      obtain ⟨⟨rv, rf, rs⟩, hR⟩ : ∃ R, runG (ofG xs) pk = R := ⟨_, rfl⟩
      obtain ⟨⟨v, f, ts⟩, hV⟩ : ∃ R, runV xs pk = R := ⟨_, rfl⟩
      rw [hR, hV] at R
      rw [hV] at hwi htl
      obtain ⟨r1, r2, r3⟩ := R
      simp only at r1 r2 r3 hwi htl
      subst r1 r2
      have HOF : Hid (∀ W a' c', CV W a' (flat xs) → xs.length ≤ c' → Calls Try.prog 7 #[.slice a' xs.length c'] W fun e w' => ∃ v vs, e = .returned (.tuple #[v, .int .i64 0]) ∧ BLv w' W.heap.size v vs ∧ gOf vs = ofG xs ∧ W.grownBy w' none) := fun W a' c' h1 h2 => by
        have k := of_any a' c' xs W h1 h2
        unfold OfP at k
        rw [show ofE xs = 0 by rw [ofE, if_pos hck]] at k
        exact k
      have HGC : Hid (∀ W a' c' zs, GC W a' zs → gOf zs = ofG xs → Calls Try.prog 8 #[.slice a' N c'] W fun e w' => e = .returned (.tuple #[.int .i64 0, .int .i64 0]) ∧ W.grownBy w' none) := fun W a' c' zs h1 h2 => by
        have k := gcheck_any a' c' zs W h1 (fun y hy => by have := (HZL.out zs h2).1 y hy; omega)
        rw [h2, check_of hT, (HZL.out zs h2).2] at k
        exact k
      have HVR : Hid (∀ W a' c' b' d', CV W a' (flat xs) → Cells W b' pk → Calls Try.prog 10 #[.slice a' xs.length c', .slice b' pk.length d'] W fun e w' => e = .returned (.tuple #[.agg #[.int .u32 (rv : Int), .int .i64 rf, .int .i64 (ts.length : Int)], .int .i64 0]) ∧ W.grownBy w' none) := fun W a' c' b' d' h1 h2 => by
        have k := run_any a' b' c' d' xs pk W h1 h2
        rw [hV, e2] at k
        exact k
      have HVT : Hid (∀ W a' c' b' d', CV W a' (flat xs) → Cells W b' pk → Calls Try.prog 12 #[.slice a' xs.length c', .slice b' pk.length d'] W fun e w' => ∃ v, e = .returned (.tuple #[v, .int .i64 0]) ∧ w'.ownsRow W.heap.size 3 1 v ts.length ((zl ts).map iv) ∧ W.grownBy w' none) := fun W a' c' b' d' h1 h2 => by
        have k := trace_any a' b' c' d' xs pk W h1 h2
        rw [hV, e2] at k
        exact k
      have HGR : Hid (∀ W a' c' b' d' zs, GC W a' zs → gOf zs = ofG xs → Cells W b' pk → Calls Try.prog 13 #[.slice a' N c', .slice b' pk.length d'] W fun e w' => e = .returned (.tuple #[.agg #[.int .u32 (rv : Int), .int .i64 rf, .int .i64 (rs : Int)], .int .i64 0]) ∧ W.grownBy w' none) := fun W a' c' b' d' zs h1 h2 h3 => by
        have k := grun_any a' b' c' d' zs pk W h1 (fun y hy => by have := (HZL.out zs h2).1 y hy; omega) h3 (by omega)
        rw [h2, hR, e1, (HZL.out zs h2).2] at k
        exact k
      have HCB : Hid (∀ W a' c' zs, GC W a' zs → gOf zs = ofG xs → Calls Try.prog 9 #[.slice a' N c'] W fun e w' => ∃ v vs, e = .returned v ∧ BLv w' W.heap.size v vs ∧ gOf vs = ofG xs ∧ W.grownBy w' none) := fun W a' c' zs h1 h2 => by
        have k := bcopy_any a' c' zs W h1 (by have := (HZL.out zs h2).2; omega) (fun y hy => by have := (HZL.out zs h2).1 y hy; omega)
        rw [h2, (HZL.out zs h2).2] at k
        exact k
      have HCK : Hid ((checkV xs).2 = 0) := hck
      have HN : Hid ((ofG xs).length = N) := hN
      have HWI : Hid (∀ t ∈ ts, t < xs.length) := hwi
      have HR3 : Hid (rs + jaC xs ts = ts.length) := r3
      clear e1 e2 hT hwi hN hR hV hck r3 HPE
      go_wp2_with fail
      refine (HCI.out w2 G2).mono ?_
      rintro e w3 ⟨v1, rfl, O3, K3⟩
      obtain ⟨a1, c1, rfl, C3, hc3, -⟩ := cv_of_row O3
      have CO := HOF.out w3 a1 c1 C3 hc3
      have G3 := grown_trans G2 K3
      clear O3 C3 HOF K3 G2 hc3
      go_wp2_with fail
      refine CO.mono ?_
      rintro e w4 ⟨v4, zs, rfl, B4, hz, K4⟩
      obtain ⟨ga, gc, rfl, GC4, -⟩ := B4.gc
      have G4 := grown_trans G3 K4
      have HZ : Hid (gOf zs = ofG xs) := hz
      rw [(HZL.out zs hz).2]
      clear CO K4 G3 B4 hz
      go_wp2_with fail
      refine (HCB.out w4 ga gc zs GC4 HZ.out).mono ?_
      rintro e w5 ⟨v5, z5, rfl, B5, hz5, K5⟩
      obtain ⟨a5, c5, rfl, GCa, -⟩ := B5.gc
      rw [(HZL.out z5 hz5).2]
      have CC := HGC.out w5 a5 c5 z5 GCa hz5
      have G5 := grown_trans G4 K5
      have GC5 := GC4.keptNone K5
      clear B5 hz5 K5 HGC HCB GC4 G4 GCa
      go_wp2_with fail
      refine CC.mono ?_
      rintro e w6 ⟨rfl, K6⟩
      have G6 := grown_trans G5 K6
      have GC6 := GC5.keptNone K6
      clear CC K6 G5 GC5
      go_wp2_with fail
      refine (HCI.out w6 G6).mono ?_
      rintro e w7 ⟨v7, rfl, O7, K7⟩
      obtain ⟨a7, c7, rfl, C7, -⟩ := cv_of_row O7
      have G7 := grown_trans G6 K7
      have GC7 := GC6.keptNone K7
      clear O7 K7 G6 GC6
      go_wp2_with fail
      refine (HBY.out w7 G7).mono ?_
      rintro e w8 ⟨v8, rfl, O8, K8⟩
      obtain ⟨a8, c8, rfl, P8, -⟩ := O8.rd
      have CR := HVR.out w8 a7 c7 a8 c8 (C7.keptNone K8) P8
      have G8 := grown_trans G7 K8
      have GC8 := GC7.keptNone K8
      clear O8 K8 G7 GC7 C7 P8 HVR
      go_wp2_with fail
      refine CR.mono ?_
      rintro e w9 ⟨rfl, K9⟩
      have KA : w9.grownBy (w9.alloc (.cells #[.int .u32 (rv : Int), .int .i64 rf, .int .i64 (ts.length : Int)] 36)) none := World.grownBy_alloc _ _ _
      have V10 := GVt.alloc w9 36 #[.int .u32 (rv : Int), .int .i64 rf, .int .i64 (ts.length : Int)]
      have G10 := grown_trans (grown_trans G8 K9) KA
      have GC10 := (GC8.keptNone K9).keptNone KA
      clear CR K9 KA G8 GC8
      go_upto_region 7 with fail
      generalize w9.alloc (.cells #[.int .u32 (rv : Int), .int .i64 rf, .int .i64 (ts.length : Int)] 36) = w10 at *
      generalize w9.heap.size = V at *
      go_wp2_with fail
      refine (HCI.out w10 G10).mono ?_
      rintro e w11 ⟨v11, rfl, O11, K11⟩
      obtain ⟨a11, c11, rfl, C11, -⟩ := cv_of_row O11
      have G11 := grown_trans G10 K11
      have GC11 := GC10.keptNone K11
      have V11 := V10.kept K11
      clear O11 K11 G10 GC10 V10 HCI
      go_wp2_with fail
      refine (HBY.out w11 G11).mono ?_
      rintro e w12 ⟨v12, rfl, O12, K12⟩
      obtain ⟨a12, c12, rfl, P12, -⟩ := O12.rd
      have CT := HVT.out w12 a11 c11 a12 c12 (C11.keptNone K12) P12
      have G12 := grown_trans G11 K12
      have GC12 := GC11.keptNone K12
      have V12 := V11.kept K12
      clear O12 K12 G11 GC11 C11 P12 HVT V11
      go_wp2_with fail
      refine CT.mono ?_
      rintro e w13 ⟨v13, rfl, O13, K13⟩
      obtain ⟨ta, tc, rfl, C13, -⟩ := cv_of_row O13
      have G13 := grown_trans G12 K13
      have GC13 := GC12.keptNone K13
      have V13 := V12.kept K13
      clear O13 K13 G12 GC12 V12 CT
      go_wp2_with fail
      refine (HBY.out w13 G13).mono ?_
      rintro e w14 ⟨v14, rfl, O14, K14⟩
      obtain ⟨a14, c14, rfl, P14, -⟩ := O14.rd
      have GC14 := GC13.keptNone K14
      have CG := HGR.out w14 ga gc a14 c14 zs GC14 HZ.out P14
      have G14 := grown_trans G13 K14
      have V14 := V13.kept K14
      have C14 := C13.keptNone K14
      clear O14 K14 G13 GC13 V13 C13 P14 HGR HBY
      go_wp2_with fail
      refine CG.mono ?_
      rintro e w15 ⟨rfl, K15⟩
      have KA : w15.grownBy (w15.alloc (.cells #[.int .u32 (rv : Int), .int .i64 rf, .int .i64 (rs : Int)] 36)) none := World.grownBy_alloc _ _ _
      have U16 := GVt.alloc w15 36 #[.int .u32 (rv : Int), .int .i64 rf, .int .i64 (rs : Int)]
      have G16 := grown_trans (grown_trans G14 K15) KA
      have GC16 := (GC14.keptNone K15).keptNone KA
      have V16 := (V14.kept K15).kept KA
      have C16 := (C14.keptNone K15).keptNone KA
      clear CG K15 KA G14 GC14 V14 C14
      go_upto_region 9 with fail
      generalize w15.alloc (.cells #[.int .u32 (rv : Int), .int .i64 rf, .int .i64 (rs : Int)] 36) = wz at *
      generalize w15.heap.size = U at *
      clear w1 w2 w3 w4 w5 w6 w7 w8 w9 w10 w11 w12 w13 w14 w15
      have HGZ : Hid (GC wz ga zs) := GC16
      have HTC : Hid (CV wz ta ((zl ts).map iv)) := C16
      have HXZ : Hid (CV wz a (flat xs)) := HX.out.keptNone G16
      have y0 : wz.cell? ⟨V, 0, none⟩ = some (.int .u32 (rv : Int)) := V16.cell 0
      have y1 : wz.cell? ⟨V, 1, none⟩ = some (.int .i64 rf) := V16.cell 1
      have y2 : wz.cell? ⟨V, 2, none⟩ = some (.int .i64 (ts.length : Int)) := V16.cell 2
      have u0 : wz.cell? ⟨U, 0, none⟩ = some (.int .u32 (rv : Int)) := U16.cell 0
      have u1 : wz.cell? ⟨U, 1, none⟩ = some (.int .i64 rf) := U16.cell 1
      have u2 : wz.cell? ⟨U, 2, none⟩ = some (.int .i64 (rs : Int)) := U16.cell 2
      clear GC16 C16 V16 U16 HX
      go_wp2
      go_loopw [17, 18] (fun gn j wr => ∃ k : Nat, k ≤ ts.length ∧ j = .int .i64 k ∧ gn = .int .i64 (jaC xs (ts.take k) : Int) ∧ wz.grownBy wr none) (fun _ j _ => ts.length - (intOf j).toNat)
      case atStart => exact ⟨0, Nat.zero_le _, rfl, rfl, World.grownBy.refl _ _⟩
      case round =>
        obtain ⟨k, hk, rfl, rfl, G⟩ := hrel
        by_cases hlt : k < ts.length
        · have hl : (k : Int) < (ts.length : Int) := by omega
          obtain ⟨b1, o1, rfl, t0⟩ := places (HTC.out.keptNone G) hlt
          have t1 := t0 k hlt
          clear t0
          have hti := HWI.out _ (List.getElem_mem hlt)
          have hjs := jaC_snoc (xs := xs) hlt
          have hjl : jaC xs (ts.take k) ≤ k := Nat.le_trans (jaC_le _ _) (by rw [List.length_take]; omega)
          generalize jaC xs (ts.take k) = g0 at *
          generalize ts[k] = T at *
          obtain ⟨b2, o2, rfl, p0⟩ := (HXZ.out.keptNone G).insns hti
          have p1 := (p0 T hti).1
          clear p0
          have hl2 : (T : Int) < (xs.length : Int) := by omega
          rw [getD_at hti] at hjs
          generalize xs[T] = x at *
          cases h5 : ((x.code.toNat : Int) == 5) with
          | true =>
            rw [h5, if_pos rfl] at hjs
            have HJ : Hid (jaC xs (ts.take (k + 1)) = g0 + 1) := hjs
            clear hjs
            go_wp2
            go_roundw
            case rel => exact ⟨k + 1, by omega, by go_num, by rw [HJ.out]; go_num, G⟩
            case measure => simp [intOf]; omega
          | false =>
            rw [h5, if_neg (by simp)] at hjs
            have HJ : Hid (jaC xs (ts.take (k + 1)) = g0) := hjs
            clear hjs
            go_wp2
            go_roundw
            case rel => exact ⟨k + 1, by omega, by go_num, by rw [HJ.out], G⟩
            case measure => simp [intOf]; omega
        · have hl : ¬ (k : Int) < (ts.length : Int) := by omega
          have hkt : ts.take k = ts := List.take_of_length_le (by omega)
          rw [hkt]
          clear hkt
          have h3 := HR3.out
          generalize jaC xs ts = J at *
          have y0 := G.cell y0 (by simp)
          have y1 := G.cell y1 (by simp)
          have y2 := G.cell y2 (by simp)
          have u0 := G.cell u0 (by simp)
          have u1 := G.cell u1 (by simp)
          have u2 := G.cell u2 (by simp)
          have n0 : ((rv : Int) != (rv : Int)) = false := by simp
          have n1 : (rf != rf) = false := by simp
          have n2 : ((rs : Int) != (ts.length : Int) - (J : Int)) = false := by
            rw [bne_eq_false_iff_eq]
            omega
          have hJl : J ≤ ts.length := by omega
          have HJ3 : Hid (rs + J = ts.length) := h3
          clear h3 HR3 hlt
          go_upto_region 19 with fail
          clear y0 y1 y2 u0 u1 u2 n0 n1 n2 HTC HWI HJ3 hJl hl
          go_loopw [19, 20] (fun at' j wr => ∃ (A J : Nat), J ≤ N ∧ A ≤ 5000 ∧ at' = .int .i64 A ∧ j = .int .i64 J ∧ Hid (AtB xs J A) ∧ wz.grownBy wr none) (fun _ j _ => N - (intOf j).toNat)
          case atStart => exact ⟨0, 0, Nat.zero_le _, by omega, rfl, rfl, AtB.zero xs, G⟩
          case round =>
            obtain ⟨A, J, hJ, hA5, rfl, rfl, HAT, G⟩ := hrel
            by_cases hlt : J < N
            · have hl : (J : Int) < (N : Int) := by omega
              have hzn := (HZL.out zs HZ.out).2
              have hJz : J < zs.length := by omega
              have hJo : J < (ofG xs).length := by rw [HN.out]; exact hlt
              obtain ⟨q1, q2, q3⟩ := AtB.step HCK.out hJo HAT.out
              have hbz : (ofG xs)[J] = zs[J].b := by simp only [← HZ.out, gOf, List.getElem_map]
              rw [hbz] at q1 q3
              simp only [hbz] at q2
              obtain ⟨b1, o1, hga, d0⟩ := HGZ.out.1.blocks hJz
              have d1 := d0 J hJz
              clear d0
              have hx := HGZ.out.2 _ (List.getElem_mem hJz)
              generalize zs[J] = z at *
              obtain ⟨⟨code, en, ln, yes, no⟩, xa, xc⟩ := z
              have c0 := d1 0 _ rfl
              have c1 := d1 1 _ rfl
              simp only at q1 q2 q3
              have HC0 : Hid (wz.cell? ⟨b1, o1 + J * 8, none⟩ = some (.slice xa code.length xc)) := c0
              have HC1 : Hid (wz.cell? ⟨b1, o1 + J * 8 + 1, none⟩ = some (.int .i64 en)) := c1
              have HXC : Hid (CV wz xa (flat code)) := hx.1
              have HQ2 : Hid (∀ k (hk : k < code.length), ∃ h : A + k < xs.length, xs[A + k] = code[k]) := q2
              have HQ3 : Hid ((en != 2) = true ∧ AtB xs (J + 1) (A + code.length + 1) ∨ (en != 2) = false ∧ ∃ h : A + code.length < xs.length, (((xs[A + code.length].code.toNat : Int) == 5) = true ∧ AtB xs (J + 1) (A + code.length + 1) ∨ ((xs[A + code.length].code.toNat : Int) == 5) = false ∧ AtB xs (J + 1) (A + code.length))) := q3
              clear hbz d1 c0 c1 q2 q3 hx hJo hJz hzn
              subst hga
              have HG : Hid (wz.grownBy wr none) := G
              clear G
              go_upto_region 22 with fail
              go_loopw [19, 21] (fun at' k wq => ∃ K : Nat, K ≤ code.length ∧ at' = .int .i64 ((A + K : Nat) : Int) ∧ k = .int .i64 K ∧ wz.grownBy wq none) (fun _ k _ => code.length - (intOf k).toNat)
              case atStart => exact ⟨0, Nat.zero_le _, rfl, rfl, HG.out⟩
              case round =>
                obtain ⟨K, hK, rfl, rfl, G⟩ := hrel
                have c0 := G.cell HC0.out (by simp)
                have hcl : code.length ≤ 4096 := by omega
                by_cases hlk : K < code.length
                · have hk2 : (K : Int) < (code.length : Int) := by omega
                  obtain ⟨hak, hxe⟩ := HQ2.out K hlk
                  obtain ⟨b3, o3, rfl, p0⟩ := (HXZ.out.keptNone G).insns hak
                  obtain ⟨p1, p2, p3, p4⟩ := p0 (A + K) hak
                  obtain ⟨b4, o4, hxa, s0⟩ := (HXC.out.keptNone G).insns hlk
                  obtain ⟨s1, s2, s3, s4⟩ := s0 K hlk
                  rw [hxe] at p1 p2 p3 p4
                  rw [hxa] at c0
                  clear p0 s0 hxe hxa
                  generalize code[K] = x at *
                  have hl3 : ((A + K : Nat) : Int) < (xs.length : Int) := by omega
                  have hl4 : decide (xs.length ≤ A + K) = false := decide_eq_false (by omega)
                  have HAK : Hid (A + (K + 1) = A + K + 1) := rfl
                  generalize A + K = Q at *
                  clear hak
                  go_wp2
                  go_quiet (fail)
                  go_wp2
                  go_roundw
                  case rel => exact ⟨K + 1, by omega, by rw [HAK.out]; go_num, by go_num, by first | exact G | exact grown_trans G (grown_drewN _ _ none)⟩
                  case measure => simp [intOf]; omega
                · have hk2 : ¬ (K : Int) < (code.length : Int) := by omega
                  have hKe : K = code.length := by omega
                  have c1 := G.cell HC1.out (by simp)
                  have hq3 := HQ3.out
                  rw [← hKe] at hq3
                  clear HQ2 HQ3 HXC HC1 HC0 HG HGZ
                  rcases hq3 with ⟨m1, m2⟩ | ⟨m1, hal, m2⟩
                  · have HM : Hid (AtB xs (J + 1) (A + K + 1)) := m2
                    have hQ5 : A + K + 1 ≤ 5000 := by omega
                    clear m2
                    generalize A + K = Q at *
                    go_wp2
                    go_roundw
                    case rel => exact ⟨Q + 1, J + 1, by omega, by omega, by go_num, by go_num, HM, G⟩
                    case measure => simp [intOf]; omega
                  · obtain ⟨b3, o3, rfl, p0⟩ := (HXZ.out.keptNone G).insns hal
                    have p1 := (p0 (A + K) hal).1
                    clear p0
                    have hl3 : ((A + K : Nat) : Int) < (xs.length : Int) := by omega
                    rcases m2 with ⟨m2, m3⟩ | ⟨m2, m3⟩
                    · have HM : Hid (AtB xs (J + 1) (A + K + 1)) := m3
                      have hQ5 : A + K + 1 ≤ 5000 := by omega
                      generalize xs[A + K].code.toNat = cd at *
                      clear m3
                      generalize A + K = Q at *
                      go_wp2
                      go_roundw
                      case rel => exact ⟨Q + 1, J + 1, by omega, by omega, by go_num, by go_num, HM, G⟩
                      case measure => simp [intOf]; omega
                    · have HM : Hid (AtB xs (J + 1) (A + K)) := m3
                      have hQ5 : A + K + 1 ≤ 5000 := by omega
                      generalize xs[A + K].code.toNat = cd at *
                      clear m3
                      generalize A + K = Q at *
                      go_wp2
                      go_roundw
                      case rel => exact ⟨Q, J + 1, by omega, by omega, by go_num, by go_num, HM, G⟩
                      case measure => simp [intOf]; omega
            · have hl : ¬ (J : Int) < (N : Int) := by omega
              have hJN : J = N := by omega
              have hAt := AtB.over HCK.out (a := A) (by rw [HN.out, ← hJN]; exact HAT.out)
              have hee : ((A : Int) == (xs.length : Int)) = true := by rw [hAt]; simp
              have CA := awake15_any wr
              have G17 := grown_trans G16 G
              clear hAt
              go_wp2_with fail
              refine CA.mono ?_
              rintro e w17 ⟨rfl, K17⟩
              have G18 := grown_trans G17 K17
              clear CA
              go_wp2
              go_ret
              exact ⟨rfl, G18⟩
  · have hEb : (E != 0) = true := by rw [bne_iff_ne]; exact hE
    have CA := awake15_any w2
    go_wp2_with fail
    refine CA.mono ?_
    rintro e w3 ⟨rfl, K3⟩
    have G3 := grown_trans G2 K3
    clear CA
    go_wp2
    go_ret
    exact ⟨rfl, G3⟩

set_option maxRecDepth 100000 in
theorem lifted (os : Os) (started : os.Started) (H : Type) (enc : TypeId × Value → H) :
    ReturnsInHanded {} Try.checked os 3 .any (Rows.graphSameSpec.pre6 enc Try.prog Try.f3 Rows.graphSameRow.domain false) (Rows.graphSameSpec.post enc Try.prog Try.f3 false true false false) := by
  refine returnsInHanded_of_change_sized (C := Try.checked) own started (by kernel_rfl) Try.func3
    (ChangeSpec.witness6 (enc := enc) (C := Try.checked) false ⟨#[], #[.slice none 0 0, .slice none 0 0], []⟩ 8 (by kernel_rfl) (by kernel_rfl) (by kernel_rfl) (by kernel_rfl)) ?_
  intro W base args ds gs before hval0 hW hcnd hsz0 _
  have hsz : (DataW.weightsEach Try.prog (Try.f3.params.toList ++ Rows.graphSameSpec.plain.varTypes Try.prog) (ds ++ gs)).all (· ≤ reachBytes) = true := hsz0
  have hval : ∀ (j : Nat) t v, Try.f3.params[j]? = some t → args[j]? = some v → Value.okWide Try.prog W .any base t v := hval0
  have hW' := hW
  obtain ⟨p, q, hA0, hV, rfl, hfz, hnd⟩ := hW
  have hA : DataW.TrodAll enc Try.prog W 0 (fun _ => true) true Try.f3.params.toList args.toList ds p := hA0
  rw [Try.params3] at hA hval hsz
  obtain ⟨v0, vs0, d0, ds0, p0, q0, hargs, rfl, rfl, h0, r0⟩ := trodAll_cons hA
  obtain ⟨v1, vs1, d1, ds1, p1, q1, rfl, rfl, rfl, h1, r1⟩ := trodAll_cons r0
  obtain ⟨rfl, rfl, rfl⟩ := trodAll_nil r1
  obtain rfl : args = #[v0, v1] := by cases args; simp_all
  obtain ⟨rfl, rfl⟩ := trodVars_none hV
  obtain ⟨a0, len0, cap0, rfl⟩ := okWide_slice Try.underlying22 (hval 0 22 v0 rfl rfl)
  have k0 := h0
  have lt0 : ∀ x ∈ p0, x.block < W.heap.size := by obtain ⟨m, hm⟩ := k0; exact DataW.trod_lt m _ _ _ hm
  obtain ⟨xs0, rfl, hcells0, hnil0, hcp0, hdat0⟩ := open_insns h0
  obtain ⟨a1, len1, cap1, rfl⟩ := okWide_slice Try.underlying23 (hval 1 23 v1 rfl rfl)
  have k1 := h1
  have lt1 : ∀ x ∈ p1, x.block < W.heap.size := by obtain ⟨m, hm⟩ := k1; exact DataW.trod_lt m _ _ _ hm
  obtain ⟨xs1, rfl, hcells1, hnil1, hdat1⟩ := open_bytes Try.underlying23 Try.underlying5 (by kernel_rfl) h1
  have hlen0 : xs0.length * 8 ≤ 140737488351232 := by
    rcases hdat0 with ⟨_, rfl⟩ | ⟨elems, spare, rfl, hle⟩
    · simp
    · have := sized_slice hsz (j := 0) (t := 22) (e := 46) rfl rfl Try.underlying22
      rw [bytes46] at this
      unfold reachBytes at this
      omega
  have hlen1 : xs1.length * 1 ≤ 140737488351232 := by
    rcases hdat1 with ⟨_, rfl⟩ | ⟨elems, spare, rfl, hle⟩
    · simp
    · have := sized_slice hsz (j := 1) (t := 23) (e := 5) rfl rfl Try.underlying23
      rw [bytes5] at this
      unfold reachBytes at this
      omega
  clear hA0 hval0
  refine (walk a0 cap0 xs0 a1 cap1 xs1 W hcells0 hnil0 hcp0.1 hcp0.2 (by omega) hcells1 hnil1 (by omega)).mono fun e W' ⟨he, hg⟩ => ?_
  subst he
  have bel : Below W.heap.size W W' := (Below.refl _ _).grown hg (Nat.le_refl _) (by simp)
  exact ⟨_, rfl, _, _, _, [], _, [], hW', trodAll_mk1 (shut_bool Try.underlying4 _), (trodAll_cons_mk (Below.trod laidOut (by kernel_rfl) (of_decide_eq_true (by kernel_rfl)) k0 bel lt0) (trodAll_cons_mk (Below.trod laidOut (by kernel_rfl) (of_decide_eq_true (by kernel_rfl)) k1 bel lt1) trodAll_mk0)), rfl, bel.frame _, fun h => by cases h⟩

theorem over : Rows.GraphSameSaid :=
  OpenClaim.holds_of_wide 3 Try.f3 rfl rfl rfl rfl rfl rfl rfl ⟨rfl, rfl, rfl, rfl, rfl⟩ rfl rfl rfl rfl rfl (by kernel_rfl) Try.func3 (by kernel_rfl)
    (of_decide_eq_true (by kernel_rfl)) (by unfold Func.isWrapper; first | (rw [if_pos (by decide +kernel)]; kernel_rfl) | (rw [if_neg (by decide +kernel)]; exact ⟨rfl, rfl⟩))
    (fun os started H enc _ => lifted os started H enc)

end graphSame

theorem graphSame_holds : Rows.GraphSameSaid := graphSame.over
#print axioms graphSame_holds

end Go.Proofs.Ytencoknpocipbaa
