/-
  For every list of blocks and every list of bytes riddlelaw15.GraphBounds returns true and leaves what was there as it was: no condition of ours.
-/
import Derived.Test.YtpoleldfoahpoaaLotP33
import Derived.Test.YtpoleldfoahpoaaLotP31
import Derived.Test.YtpoleldfoahpoaaLotP32
namespace Go.Proofs.Ytpoleldfoahpoaa
open Go.ChangeShapes Go.WideShapes Go.ChangeAt Go.RowKit
set_option maxRecDepth 100000
namespace graphBounds

set_option maxHeartbeats 8000000 in
theorem walk (a : Option Addr) (ca : Nat) (xs : List Bv) (b : Option Addr) (cb : Nat) (pk : List UInt8) (w : World) (ha : GC w a xs) (_hc0 : a = none → ca = 0) (_hc1 : xs.length ≤ ca) (_hc2 : ca ≤ maxLen) (hn : xs.length * 56 ≤ 140737488351232) (hm : ∀ x ∈ xs, x.b.code.length * 8 ≤ 140737488351232)
    (hb : Cells w b pk) (hd0 : b = none → cb = 0) (hpm : pk.length ≤ 140737488351232) :
    Calls Try.prog 4 #[.slice a xs.length ca, .slice b pk.length cb] w fun e w' => e = .returned (.bool true) ∧ w.grownBy w' none := by
  have hlen : ∀ x ∈ xs, x.b.code.length ≤ 4611686018427387904 := fun x hx => by have := hm x hx; omega
  have HZL : Hid (∀ zs : List Bv, gOf zs = gOf xs → (∀ y ∈ zs, y.b.code.length ≤ 4611686018427387904) ∧ zs.length = xs.length) := fun zs hz => ⟨fun y hyy => by
    have h1 : y.b ∈ gOf xs := by rw [← hz]; exact List.mem_map.2 ⟨y, hyy, rfl⟩
    obtain ⟨x, hx, hxb⟩ := List.mem_map.1 h1
    rw [← hxb]
    exact hlen x hx, by have := congrArg List.length hz; rwa [gOf_len, gOf_len] at this⟩
  have HCP : Hid (∀ W, w.grownBy W none → Calls Try.prog 10 #[.slice a xs.length ca] W (BlksP W (gOf xs))) := fun W G => bcopy_any a ca xs W (ha.keptNone G) (by omega) hm
  have HBY : Hid (∀ W, w.grownBy W none → Calls Try.prog 12 #[.slice b pk.length cb] W fun e w' => ∃ v, e = .returned v ∧ Owns w' W.heap.size v pk ∧ W.grownBy w' none) := fun W G => copy_any b cb pk W (hb.keptNone G) hd0 (by omega)
  obtain ⟨tk, ht⟩ : ∃ tk, takenB (gOf xs) = tk := ⟨_, rfl⟩
  obtain ⟨EE, hEE⟩ : ∃ EE : Int, (if tk = true then (0 : Int) else 155) = EE := ⟨_, rfl⟩
  obtain ⟨NS, hNS⟩ : ∃ N : Nat, (if tk = true then countG sizeE (gOf xs) else 0) = N := ⟨_, rfl⟩
  obtain ⟨NM, hNM⟩ : ∃ N : Nat, (if tk = true then countG measE (gOf xs) else 0) = N := ⟨_, rfl⟩
  have HCS : Hid (∀ W a' c' zs, GC W a' zs → gOf zs = gOf xs → Calls Try.prog 15 #[.slice a' xs.length c'] W fun e w' => e = .returned (.tuple #[.int .i64 (NS : Int), .int .i64 EE]) ∧ W.grownBy w' none) := fun W a' c' zs hG hz => by
    have h := gsize_any a' c' zs W hG (HZL.out zs hz).1
    rw [hz, ht, hNS, hEE, (HZL.out zs hz).2] at h
    exact h
  have HCM : Hid (∀ W a' c' zs, GC W a' zs → gOf zs = gOf xs → Calls Try.prog 16 #[.slice a' xs.length c'] W fun e w' => e = .returned (.tuple #[.int .i64 (NM : Int), .int .i64 EE]) ∧ W.grownBy w' none) := fun W a' c' zs hG hz => by
    have h := gmeasure_any a' c' zs W hG (HZL.out zs hz).1
    rw [hz, ht, hNM, hEE, (HZL.out zs hz).2] at h
    exact h
  have HCR : Hid (∀ W a' c' zs, GC W a' zs → gOf zs = gOf xs → Calls Try.prog 17 #[.slice a' xs.length c'] W fun e w' => ∃ v, e = .returned (.tuple #[v, .int .i64 EE]) ∧ BOwns w' W.heap.size v (reachG (gOf xs)) ∧ W.grownBy w' none) := fun W a' c' zs hG hz => by
    have h := greach_any a' c' zs W hG (HZL.out zs hz).1
    rw [hz, ht, hEE, (HZL.out zs hz).2] at h
    exact h
  have HTK : Hid (takenB (gOf xs) = tk) := ht
  have HEE : Hid ((if tk = true then (0 : Int) else 155) = EE) := hEE
  have HNS : Hid ((if tk = true then countG sizeE (gOf xs) else 0) = NS) := hNS
  have HNM : Hid ((if tk = true then countG measE (gOf xs) else 0) = NM) := hNM
  clear ha hb hm hlen ht hEE hNS hNM
  go_enter Try.func4, Try.ntmps4
  go_wp2_with fail
  refine (HCP.out w (World.grownBy.refl _ _)).mono ?_
  rintro e w1 ⟨v1, z1, rfl, B1, hz1, K1⟩
  obtain ⟨a1, c1, rfl, GC1, -⟩ := B1.gc
  rw [(HZL.out z1 hz1).2]
  have CS := HCS.out w1 a1 c1 z1 GC1 hz1
  clear B1 GC1 hz1 HCS
  go_wp2_with fail
  refine CS.mono ?_
  rintro e w2 ⟨rfl, K2⟩
  have G2 := grown_trans K1 K2
  clear CS K1 K2
  cases tk with
  | false =>
    obtain rfl : EE = 155 := HEE.out.symm
    have CA := awake15_any w2
    go_wp2_with fail
    refine CA.mono ?_
    rintro e w3 ⟨rfl, K3⟩
    have G3 := grown_trans G2 K3
    clear CA
    go_wp2
    go_ret
    exact ⟨rfl, G3⟩
  | true =>
    obtain rfl : EE = 0 := HEE.out.symm
    by_cases hp : (65536 : Int) < (pk.length : Int)
    · have CA := awake15_any w2
      go_wp2_with fail
      refine CA.mono ?_
      rintro e w3 ⟨rfl, K3⟩
      have G3 := grown_trans G2 K3
      clear CA
      go_wp2
      go_ret
      exact ⟨rfl, G3⟩
    · have hck := takenB_iff.1 HTK.out
      have T := taken_g hck
      have hn0 : 0 < xs.length := by have := T.pos; rwa [gOf_len] at this
      have hfew : xs.length ≤ 4096 := by have := T.few; rwa [gOf_len] at this
      obtain ⟨e0, s1, s2, s3⟩ := runG_steps (pk := pk) hck (by omega)
      have hsm := size_meas (gOf xs)
      rw [show countG sizeE (gOf xs) = NS from HNS.out] at s2 hsm
      rw [show countG measE (gOf xs) = NM from HNM.out] at hsm
      obtain ⟨bs, hbs⟩ : ∃ bs, reachGTo (gOf xs) (gOf xs).length = bs := ⟨_, rfl⟩
      have hrg : reachG (gOf xs) = bs := by rw [reachG, if_pos hck, hbs]
      have hbl : bs.length = xs.length := by rw [← hbs, reachG_len, gOf_len]
      have hb0 : bs.getD 0 false = true := by rw [← hbs]; exact ((reachG_all T).2 0).2 .first
      have HPR : Hid (∀ m, runG (prG bs (gOf xs) m) pk = runG (gOf xs) pk ∧ runGE (prG bs (gOf xs) m) pk = 0) := fun m => by
        have := prG_run (pk := pk) hck m
        rw [hbs, e0] at this
        exact this
      obtain ⟨⟨rv, rf, rs⟩, hR⟩ : ∃ R, runG (gOf xs) pk = R := ⟨_, rfl⟩
      rw [hR] at s1 s2 s3 HPR
      simp only at s1 s2 s3
      have HRN : Hid (∀ W a' c' b' d' zs, GC W a' zs → gOf zs = gOf xs → Cells W b' pk → Calls Try.prog 14 #[.slice a' xs.length c', .slice b' pk.length d'] W fun e w' => e = .returned (.tuple #[.agg #[.int .u32 (rv : Int), .int .i64 rf, .int .i64 (rs : Int)], .int .i64 0]) ∧ W.grownBy w' none) := fun W a' c' b' d' zs hG hz hc => by
        have h := grun_any a' b' c' d' zs pk W hG (HZL.out zs hz).1 hc (by omega)
        rw [hz, hR, e0, (HZL.out zs hz).2] at h
        exact h
      rw [hrg] at HCR
      have HBL : Hid (bs.length = xs.length) := hbl
      have HB0 : Hid (bs.getD 0 false = true) := hb0
      have HS3 : Hid ((rf != 0) = false ∨ ((rf != 0) = true ∧ ((rv : Int) != 0) = false)) := by
        by_cases h : rf = 0
        · exact .inl (by rw [h]; rfl)
        · exact .inr ⟨by rw [bne_iff_ne]; exact h, by rw [s3 h]; rfl⟩
      have f1 : ¬ (rs : Int) < 1 := by omega
      have f2 : ¬ (NS : Int) < (rs : Int) := by omega
      have f3 : ¬ (NM : Int) < (NS : Int) := by omega
      clear T hck e0 s1 s2 s3 hsm hbs hrg hbl hb0 hR HEE HNS HNM
      go_wp2_with fail
      refine (HCP.out w2 G2).mono ?_
      rintro e w3 ⟨v1, z1, rfl, B1, hz1, K3⟩
      obtain ⟨a1, c1, rfl, GC1, -⟩ := B1.gc
      rw [(HZL.out z1 hz1).2]
      have CM := HCM.out w3 a1 c1 z1 GC1 hz1
      have G3 := grown_trans G2 K3
      clear B1 GC1 hz1 HCM K3 G2
      go_wp2_with fail
      refine CM.mono ?_
      rintro e w4 ⟨rfl, K4⟩
      have G4 := grown_trans G3 K4
      clear CM K4 G3
      go_wp2_with fail
      refine (HCP.out w4 G4).mono ?_
      rintro e w5 ⟨v1, z1, rfl, B1, hz1, K5⟩
      obtain ⟨a1, c1, rfl, GC1, -⟩ := B1.gc
      rw [(HZL.out z1 hz1).2]
      have CR := HCR.out w5 a1 c1 z1 GC1 hz1
      have G5 := grown_trans G4 K5
      clear B1 GC1 hz1 HCR K5 G4
      go_wp2_with fail
      refine CR.mono ?_
      rintro e w6 ⟨r, rfl, R6, K6⟩
      have G6 := grown_trans G5 K6
      unfold BOwns at R6
      rw [HBL.out] at R6
      obtain ⟨gr, rc, rfl, hc1, hc2, hg1, hg2⟩ := owns_head R6 hn0
      clear CR K6 G5
      generalize w5.heap.size = b5 at *
      go_wp2_with fail
      refine (HCP.out w6 G6).mono ?_
      rintro e w7 ⟨v1, z1, rfl, B1, hz1, K7⟩
      obtain ⟨a1, c1, rfl, GC1, -⟩ := B1.gc
      rw [(HZL.out z1 hz1).2]
      have G7 := grown_trans G6 K7
      have R7 := owns_keptNone R6 K7
      have hg7 : gr < w7.heap.size := Nat.lt_of_lt_of_le hg2 K7.size
      clear B1 K7 G6 R6 hg2
      go_wp2_with fail
      refine (HBY.out w7 G7).mono ?_
      rintro e w8 ⟨v2, rfl, O8, K8⟩
      obtain ⟨a2, c2, rfl, P8, -⟩ := O8.rd
      have CN := HRN.out w8 a1 c1 a2 c2 z1 (GC1.keptNone K8) hz1 P8
      have G8 := grown_trans G7 K8
      have R8 := owns_keptNone R7 K8
      have hg8 : gr < w8.heap.size := Nat.lt_of_lt_of_le hg7 K8.size
      clear O8 K8 G7 R7 hg7 GC1 hz1 P8 HRN
      go_wp2_with fail
      refine CN.mono ?_
      rintro e w9 ⟨rfl, K9⟩
      have G9 := grown_trans G8 K9
      have R9 := owns_keptNone R8 K9
      have hg9 : gr < w9.heap.size := Nat.lt_of_lt_of_le hg8 K9.size
      clear CN K9 G8 R8 hg8
      have KA : w9.grownBy (w9.alloc (.cells #[.int .u32 (rv : Int), .int .i64 rf, .int .i64 (rs : Int)] 36)) none := World.grownBy_alloc _ _ _
      have V10 := VAt.alloc w9 36 #[.int .u32 (rv : Int), .int .i64 rf, .int .i64 (rs : Int)]
      have hsz : w9.heap.size < (w9.alloc (.cells #[.int .u32 (rv : Int), .int .i64 rf, .int .i64 (rs : Int)] 36)).heap.size := V10.lt
      have R10 := owns_keptNone R9 KA
      have G10 := grown_trans G9 KA
      clear KA R9 G9
      go_upto_region 7 with fail
      generalize w9.alloc (.cells #[.int .u32 (rv : Int), .int .i64 rf, .int .i64 (rs : Int)] 36) = w10 at *
      generalize w9.heap.size = V at *
      have y0 : w10.cell? ⟨V, 0, none⟩ = some (.int .u32 (rv : Int)) := V10.cell 0
      have y1 : w10.cell? ⟨V, 1, none⟩ = some (.int .i64 rf) := V10.cell 1
      have y2 : w10.cell? ⟨V, 2, none⟩ = some (.int .i64 (rs : Int)) := V10.cell 2
      have hs3 := HS3.out
      rcases hs3 with q1 | ⟨q1, q2⟩
      all_goals
        go_upto_region 9 with fail
        clear y0 y1 y2 f1 f2 f3 HS3
        go_wp2_with fail
        refine (HCP.out w10 G10).mono ?_
        rintro e w11 ⟨v11, zs, rfl, B11, hz, K11⟩
        have hzl := (HZL.out zs hz).2
        have HZ : Hid (gOf zs = gOf xs) := hz
        obtain ⟨gx, cx, rfl, hx1, hx2, hx3, hx4⟩ := owns_head B11.1 (by omega)
        have HB11 : Hid (w11.ownsRow w10.heap.size 48 8 (.slice (some ⟨gx, 0, none⟩) xs.length cx) xs.length (flatB zs)) := by
          have := B11.1
          rw [hzl] at this
          exact this
        have HPK : Hid (PK w11 V gr xs.length rc w10.heap.size rv rf rs bs zs b5) := ⟨V10.kept K11, owns_keptNone R10 K11, B11.2.1⟩
        have G11 := grown_trans G10 K11
        have hVx : V ≠ gx := by omega
        have hwx : w.heap.size ≤ gx := by have := G10.size; omega
        have HZN : Hid (zs.length = xs.length) := hzl
        rw [hzl] at hx1 ⊢
        clear hz hzl B11 K11 R10 V10 G10 hx3 hx4 hsz hg9 hg1 hc1 hc2 HCP
        generalize w10.heap.size = b10 at *
        go_wp2
        go_loopw [14] (fun i wr => ∃ k : Nat, k ≤ xs.length ∧ i = .int .i64 k ∧ Hid (wr.ownsRow b10 48 8 (.slice (some ⟨gx, 0, none⟩) xs.length cx) xs.length (flatB (prV bs zs k))) ∧ Hid (PK wr V gr xs.length rc b10 rv rf rs bs zs b5) ∧ w.grownBy wr none) (fun i _ => xs.length - (intOf i).toNat)
        case atStart => exact ⟨0, Nat.zero_le _, rfl, HB11, HPK, G11⟩
        case round =>
          clear HB11 HPK G11
          obtain ⟨k, hk, rfl, HR, HK, G⟩ := hrel
          by_cases hlt : k < xs.length
          · have hl : (k : Int) < (xs.length : Int) := by omega
            have bc := bool_cells HK.out.marks HBL.out k hlt
            cases hq : bs.getD k false with
            | true =>
              rw [hq] at bc
              have HN : Hid (prV bs zs (k + 1) = prV bs zs k) := (by rw [prV, if_pos hq] : prV bs zs (k + 1) = prV bs zs k)
              clear hq
              go_wp2
              go_roundw
              case rel => exact ⟨k + 1, by omega, by go_num, (by show World.ownsRow _ _ _ _ _ _ _; rw [HN.out]; exact HR.out), HK, G⟩
              case measure => simp [intOf]; omega
            | false =>
              rw [hq] at bc
              have HN : Hid (prV bs zs (k + 1) = (prV bs zs k).set k deadV) := (by rw [prV, if_neg (by rw [hq]; simp)] : prV bs zs (k + 1) = (prV bs zs k).set k deadV)
              obtain ⟨r1, r2⟩ := row_dead HR.out k (by rw [prV_len]; have := HZN.out; omega)
              have B0 := (BlkN.ofRow HR.out).1
              have HK2 := HK.out.step HR.out r2 hVx
              have G2 := grown_trans_new G r2 (fun x e => by cases e; exact hwx)
              clear hq
              obtain ⟨u0, hu0⟩ := B0.cell (i := k * 8) (by omega)
              have hf0 := B0.free (k * 8)
              obtain ⟨u1, hu1⟩ := B0.cell (i := k * 8 + 1) (by omega)
              have hf1 := B0.free (k * 8 + 1)
              obtain ⟨u2, hu2⟩ := B0.cell (i := k * 8 + 2) (by omega)
              have hf2 := B0.free (k * 8 + 2)
              obtain ⟨u3, hu3⟩ := B0.cell (i := k * 8 + 3) (by omega)
              have hf3 := B0.free (k * 8 + 3)
              obtain ⟨u4, hu4⟩ := B0.cell (i := k * 8 + 4) (by omega)
              have hf4 := B0.free (k * 8 + 4)
              obtain ⟨u5, hu5⟩ := B0.cell (i := k * 8 + 5) (by omega)
              have hf5 := B0.free (k * 8 + 5)
              obtain ⟨u6, hu6⟩ := B0.cell (i := k * 8 + 6) (by omega)
              have hf6 := B0.free (k * 8 + 6)
              obtain ⟨u7, hu7⟩ := B0.cell (i := k * 8 + 7) (by omega)
              have hf7 := B0.free (k * 8 + 7)
              clear B0 r2
              go_wp2
              go_roundw
              case rel => exact ⟨k + 1, by omega, by go_num, (by show World.ownsRow _ _ _ _ _ _ _; rw [HN.out]; exact r1), HK2, G2⟩
              case measure => simp [intOf]; omega
          · have hl : ¬ (k : Int) < (xs.length : Int) := by omega
            have hpl := prV_len bs zs k
            rw [HZN.out] at hpl
            have GX := prV_gc HK.out k HR.out
            have HRX : Hid (∀ W b' d', wr.grownBy W none → Cells W b' pk → Calls Try.prog 14 #[.slice (some ⟨gx, 0, none⟩) xs.length cx, .slice b' pk.length d'] W fun e w' => e = .returned (.tuple #[.agg #[.int .u32 (rv : Int), .int .i64 rf, .int .i64 (rs : Int)], .int .i64 0]) ∧ W.grownBy w' none) := fun W b' d' GW hc => by
              have h := grun_any (some ⟨gx, 0, none⟩) b' cx d' (prV bs zs k) pk W (GX.keptNone GW) (fun y hy => by
                rcases prV_mem bs zs k y hy with rfl | hz
                · exact Nat.zero_le _
                · exact (HZL.out zs HZ.out).1 y hz) hc (by omega)
              rw [prV_g, HZ.out, (HPR.out k).1, (HPR.out k).2, hpl] at h
              exact h
            clear GX hpl HR HPR
            go_wp2_with fail
            refine (HBY.out wr G).mono ?_
            rintro e w12 ⟨v2, rfl, O12, K12⟩
            obtain ⟨a2, c2, rfl, P12, -⟩ := O12.rd
            have CN := HRX.out w12 a2 c2 K12 P12
            have G12 := grown_trans G K12
            have PK12 := HK.out.kept K12
            clear O12 K12 G P12 HRX HBY HK
            go_wp2_with fail
            refine CN.mono ?_
            rintro e w13 ⟨rfl, K13⟩
            have KA : w13.grownBy (w13.alloc (.cells #[.int .u32 (rv : Int), .int .i64 rf, .int .i64 (rs : Int)] 36)) none := World.grownBy_alloc _ _ _
            have U14 := VAt.alloc w13 36 #[.int .u32 (rv : Int), .int .i64 rf, .int .i64 (rs : Int)]
            have PK14 := (PK12.kept K13).kept KA
            have G14 := grown_trans (grown_trans G12 K13) KA
            clear CN K13 KA PK12 G12
            go_upto_region 16 with fail
            generalize w13.alloc (.cells #[.int .u32 (rv : Int), .int .i64 rf, .int .i64 (rs : Int)] 36) = w14 at *
            generalize w13.heap.size = V2 at *
            have y0 : w14.cell? ⟨V, 0, none⟩ = some (.int .u32 (rv : Int)) := PK14.ver.cell 0
            have y1 : w14.cell? ⟨V, 1, none⟩ = some (.int .i64 rf) := PK14.ver.cell 1
            have y2 : w14.cell? ⟨V, 2, none⟩ = some (.int .i64 (rs : Int)) := PK14.ver.cell 2
            have u0 : w14.cell? ⟨V2, 0, none⟩ = some (.int .u32 (rv : Int)) := U14.cell 0
            have u1 : w14.cell? ⟨V2, 1, none⟩ = some (.int .i64 rf) := U14.cell 1
            have u2 : w14.cell? ⟨V2, 2, none⟩ = some (.int .i64 (rs : Int)) := U14.cell 2
            have r0 := bool_cells PK14.marks HBL.out 0 hn0
            rw [HB0.out] at r0
            have h0 : (0 : Int) < (xs.length : Int) := by omega
            clear PK14 U14
            have CA := awake15_any w14
            go_wp2_with fail
            refine CA.mono ?_
            rintro e w15 ⟨rfl, K15⟩
            have G15 := grown_trans G14 K15
            clear CA K15 G14 y0 y1 y2 u0 u1 u2 r0
            go_wp2
            go_ret
            exact ⟨rfl, G15⟩

set_option maxRecDepth 100000 in
theorem lifted (os : Os) (started : os.Started) (H : Type) (enc : TypeId × Value → H) :
    ReturnsInHanded {} Try.checked os 4 .any (Rows.graphBoundsSpec.pre6 enc Try.prog Try.f4 Rows.graphBoundsRow.domain false) (Rows.graphBoundsSpec.post enc Try.prog Try.f4 false true false false) := by
  refine returnsInHanded_of_change_sized (C := Try.checked) own started (by kernel_rfl) Try.func4
    (ChangeSpec.witness6 (enc := enc) (C := Try.checked) false ⟨#[], #[.slice none 0 0, .slice none 0 0], []⟩ 8 (by kernel_rfl) (by kernel_rfl) (by kernel_rfl) (by kernel_rfl)) ?_
  intro W base args ds gs before hval0 hW hcnd hsz0 _
  have hsz : (DataW.weightsEach Try.prog (Try.f4.params.toList ++ Rows.graphBoundsSpec.plain.varTypes Try.prog) (ds ++ gs)).all (· ≤ reachBytes) = true := hsz0
  have hval : ∀ (j : Nat) t v, Try.f4.params[j]? = some t → args[j]? = some v → Value.okWide Try.prog W .any base t v := hval0
  have hW' := hW
  obtain ⟨p, q, hA0, hV, rfl, hfz, hnd⟩ := hW
  have hA : DataW.TrodAll enc Try.prog W 0 (fun _ => true) true Try.f4.params.toList args.toList ds p := hA0
  rw [Try.params4] at hA hval hsz
  obtain ⟨v0, vs0, d0, ds0, p0, q0, hargs, rfl, rfl, h0, r0⟩ := trodAll_cons hA
  obtain ⟨v1, vs1, d1, ds1, p1, q1, rfl, rfl, rfl, h1, r1⟩ := trodAll_cons r0
  obtain ⟨rfl, rfl, rfl⟩ := trodAll_nil r1
  obtain rfl : args = #[v0, v1] := by cases args; simp_all
  obtain ⟨rfl, rfl⟩ := trodVars_none hV
  obtain ⟨a0, len0, cap0, rfl⟩ := okWide_slice Try.underlying29 (hval 0 29 v0 rfl rfl)
  have k0 := h0
  have lt0 : ∀ x ∈ p0, x.block < W.heap.size := by obtain ⟨m, hm⟩ := k0; exact DataW.trod_lt m _ _ _ hm
  obtain ⟨xs0, rfl, hgc0, hnil0, hcp0, hdat0⟩ := open_blocks h0
  have hlen0 := sized_blocks hsz (j := 0) rfl rfl hdat0
  obtain ⟨a1, len1, cap1, rfl⟩ := okWide_slice Try.underlying23 (hval 1 23 v1 rfl rfl)
  have k1 := h1
  have lt1 : ∀ x ∈ p1, x.block < W.heap.size := by obtain ⟨m, hm⟩ := k1; exact DataW.trod_lt m _ _ _ hm
  obtain ⟨xs1, rfl, hcells1, hnil1, hdat1⟩ := open_bytes Try.underlying23 Try.underlying5 (by kernel_rfl) h1
  have hlen1 : xs1.length * 1 ≤ 140737488351232 := by
    rcases hdat1 with ⟨_, rfl⟩ | ⟨elems, spare, rfl, hle⟩
    · simp
    · have := sized_slice hsz (j := 1) (t := 23) (e := 5) rfl rfl Try.underlying23
      rw [bytes5] at this
      unfold reachBytes at this
      omega
  clear hA0 hval0
  refine (walk a0 cap0 xs0 a1 cap1 xs1 W hgc0 hnil0 hcp0.1 hcp0.2 hlen0.1 hlen0.2 hcells1 hnil1 (by omega)).mono fun e W' ⟨he, hg⟩ => ?_
  subst he
  have bel : Below W.heap.size W W' := (Below.refl _ _).grown hg (Nat.le_refl _) (by simp)
  exact ⟨_, rfl, _, _, _, [], _, [], hW', trodAll_mk1 (shut_bool Try.underlying4 _), (trodAll_cons_mk (Below.trod laidOut (by kernel_rfl) (of_decide_eq_true (by kernel_rfl)) k0 bel lt0) (trodAll_cons_mk (Below.trod laidOut (by kernel_rfl) (of_decide_eq_true (by kernel_rfl)) k1 bel lt1) trodAll_mk0)), rfl, bel.frame _, fun h => by cases h⟩

theorem over : Rows.GraphBoundsSaid :=
  OpenClaim.holds_of_wide 4 Try.f4 rfl rfl rfl rfl rfl rfl rfl ⟨rfl, rfl, rfl, rfl, rfl⟩ rfl rfl rfl rfl rfl (by kernel_rfl) Try.func4 (by kernel_rfl)
    (of_decide_eq_true (by kernel_rfl)) (by unfold Func.isWrapper; first | (rw [if_pos (by decide +kernel)]; kernel_rfl) | (rw [if_neg (by decide +kernel)]; exact ⟨rfl, rfl⟩))
    (fun os started H enc _ => lifted os started H enc)

end graphBounds

theorem graphBounds_holds : Rows.GraphBoundsSaid := graphBounds.over
#print axioms graphBounds_holds

end Go.Proofs.Ytpoleldfoahpoaa
