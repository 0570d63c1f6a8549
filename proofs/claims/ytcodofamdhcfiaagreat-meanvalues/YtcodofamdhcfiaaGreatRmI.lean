import Derived.Test.YtcodofamdhcfiaaGreatAb
import Derived.Test.YtcodofamdhcfiaaGreatLotP31
import Derived.Test.YtcodofamdhcfiaaGreatLotP34
namespace Go.Proofs.YtcodofamdhcfiaaGreat
open Go.RowKit
set_option maxRecDepth 100000
def rpL (p : Rp) : List Value := [.int .u32 (p.v : Int), .bool p.ab, .bool p.fl, .int .i64 p.sd]
def overR (s : Sg) (n : Ng) (x y : Rp) : Rp :=
 if n.kind = 3 then loadR s n x else if n.kind = 5 then ⟨minusG x.v, x.ab, x.fl, x.sd⟩ else if n.kind = 4 then arithR n.op x y
 else if n.kind = 6 then ⟨0, false, false, relR n.op x y⟩ else if n.kind = 7 then ⟨0, false, false, andM x.sd y.sd⟩ else if n.kind = 8 then ⟨0, false, false, orM x.sd y.sd⟩
 else if x.sd = 2 then x else ⟨0, false, false, jdg (x.sd == 0)⟩
theorem neg_u32 {v : Nat} (h : v ≤ 4294967295) : IntKind.u32.wrap (-(v : Int)) = ((minusG v : Nat) : Int) := by
 unfold minusG
 rw [IntKind.wrap_u32]
 omega
theorem rp_len : (Tryz.prog.info? 46).map (·.size) = some 4 := by kernel_rfl
set_option maxRecDepth 100000 in
set_option maxHeartbeats 16000000 in
theorem refover_any (s : Sg) (a : Option Addr) (ca : Nat) (n : Ng) (x y : Rp) (pb po k pc : Nat) (w : World) (hb : Cells w a s.b) (hl : s.b.length ≤ 65535) (hx : x.v ≤ 4294967295) (hy : y.v ≤ 4294967295)
  (hk : n.kind = 3 ∨ n.kind = 4 ∨ n.kind = 5 ∨ n.kind = 6 ∨ n.kind = 7 ∨ n.kind = 8 ∨ n.kind = 9) (h3 : n.kind = 3 → (baseR s.v n.of).1 ≤ 65535) (h4 : n.kind = 4 → 1 ≤ n.op ∧ n.op ≤ 10)
  (hx1 : w.rangeAt pb po (rpL x)) (hy1 : (n.kind = 4 ∨ n.kind = 6 ∨ n.kind = 7 ∨ n.kind = 8) → w.rangeAt pb (po + 4) (rpL y) ∧ 2 ≤ k) (hk1 : 1 ≤ k) :
  Calls Tryz.prog 34 #[.agg (sgA s a ca), .agg n.cells.toArray, .slice (some ⟨pb, po, none⟩) k pc] w fun e w' => e = .returned (.agg (rpA (overR s n x y))) ∧ w.grownBy w' none := by
 have HB1 := box_sg14 s a ca
 have HB2 := box_ng n
 have HV0 : Hid _ := blk3 w (sgA s a ca) n.cells.toArray #[.int .u32 0, .bool false, .bool false, .int .i64 0] 48 52 46
 have HSS := sg_size s a ca
 have HNS := ng_size n
 have HPX : Hid (∀ W, w.grownBy W none → W.rangeAt pb po (rpL x)) := fun W K j v hv => K.cell (hx1 j v hv) (by simp)
 have HPY : Hid ((n.kind = 4 ∨ n.kind = 6 ∨ n.kind = 7 ∨ n.kind = 8) → (∀ W, w.grownBy W none → W.rangeAt pb (po + 4) (rpL y)) ∧ 2 ≤ k) := fun h => ⟨fun W K j v hv => K.cell ((hy1 h).1 j v hv) (by simp), (hy1 h).2⟩
 have HLD : Hid (n.kind = 3 → ∀ W, w.grownBy W none → Calls Tryz.prog 48 #[.agg (sgA s a ca), .agg n.cells.toArray, .agg (rpL x).toArray] W fun e w' => e = .returned (.agg (rpA (loadR s n x))) ∧ W.grownBy w' none) := fun h W K => refload_any s a ca n x W (hb.keptNone K) hl (h3 h) hx
 have HAR : Hid (n.kind = 4 → ∀ W, Calls Tryz.prog 49 #[.agg n.cells.toArray, .agg (rpL x).toArray, .agg (rpL y).toArray] W fun e w' => e = .returned (.agg (rpA (arithR n.op x y))) ∧ W.grownBy w' none) := fun h W => refarith14_any n x y hx hy (h4 h) W
 have HRL : Hid (∀ W, Calls Tryz.prog 50 #[.agg n.cells.toArray, .agg (rpL x).toArray, .agg (rpL y).toArray] W fun e w' => e = .returned (.int .i64 (relR n.op x y)) ∧ W.grownBy w' none) := fun W => refrel_any n x y W
 have HCX : Hid (∀ W, w.grownBy W none → W.cell? ⟨pb, po + 3, none⟩ = some (.int .i64 x.sd)) := fun W K => HPX.out W K 3 _ rfl
 have HCY : Hid ((n.kind = 4 ∨ n.kind = 6 ∨ n.kind = 7 ∨ n.kind = 8) → ∀ W, w.grownBy W none → W.cell? ⟨pb, po + 4 + 3, none⟩ = some (.int .i64 y.sd)) := fun h W K => (HPY.out h).1 W K 3 _ rfl
 obtain ⟨SA, hSA⟩ : ∃ A, sgA s a ca = A := ⟨_, rfl⟩
 obtain ⟨NA, hNA⟩ : ∃ A, n.cells.toArray = A := ⟨_, rfl⟩
 obtain ⟨XL, hXL⟩ : ∃ L, rpL x = L := ⟨_, rfl⟩
 obtain ⟨YL, hYL⟩ : ∃ L, rpL y = L := ⟨_, rfl⟩
 have HNX : Hid (sgA s a ca = SA ∧ n.cells.toArray = NA ∧ rpL x = XL ∧ rpL y = YL) := ⟨hSA, hNA, hXL, hYL⟩
 have HXL : Hid ((Tryz.prog.info? 46).map (·.size) = some XL.length ∧ (Tryz.prog.info? 46).map (·.size) = some YL.length) := by
  show _ ∧ _
  rw [← hXL, ← hYL]
  exact ⟨rp_len, rp_len⟩
 rw [hXL] at HPX
 rw [hYL] at HPY
 rw [hSA, hNA, hXL] at HLD
 rw [hNA, hXL, hYL] at HAR HRL
 rw [hSA, hNA] at HV0
 rw [hSA] at HB1 HSS
 rw [hNA] at HB2 HNS
 rw [hSA, hNA]
 clear hSA hNA hXL hYL hb hl hx1 hy1 h3 h4 hy
 obtain ⟨R, hR⟩ : ∃ R, overR s n x y = R := ⟨_, rfl⟩
 rw [hR]
 have HR : Hid (R = overR s n x y) := hR.symm
 clear hR
 have HSZ : Hid (∀ q, (Tryz.prog.info? 46).map (·.size) = some (rpA q).size ∧ 4 = (rpA q).size ∧ (rpA q).all (·.oneCell') = true) := fun q => ⟨rp_size q, rfl, rp_all q⟩
 have HKI : Hid (n.kind = 3 ∨ n.kind = 4 ∨ n.kind = 5 ∨ n.kind = 6 ∨ n.kind = 7 ∨ n.kind = 8 ∨ n.kind = 9) := hk
 have HXV : Hid (x.v ≤ 4294967295) := hx
 clear hk hx
 have hk0 : (0 : Int) < (k : Int) := by omega
 go_enter Tryz.func34, Tryz.ntmps34
 go_upto_region 1 with fail
 generalize ((w.alloc (.cells SA 48)).alloc (.cells NA 52)).alloc (.cells #[.int .u32 0, .bool false, .bool false, .int .i64 0] 46) = w1 at *
 obtain ⟨B, hB, HB⟩ : ∃ B, w.heap.size = B ∧ Hid (w.heap.size ≤ B + 2) := ⟨_, rfl, Nat.le_add_right _ _⟩
 rw [hB] at HV0 ⊢
 clear HB1 HB2 hB
 obtain ⟨v1, v2, v3, K1⟩ := HV0.out
 have HV : Hid (S14 w w1 B SA NA) := ⟨v1, v2, ⟨_, v3, rfl⟩, K1⟩
 have HVR : Hid (VAt w1 (B + 2) 46 #[.int .u32 0, .bool false, .bool false, .int .i64 0]) := v3
 have n0 : w1.cell? ⟨B + 1, 0, none⟩ = some (.int .i64 n.kind) := by
  rw [← HNX.out.2.1] at v2
  exact v2.cell 0
 clear HV0 v1 v2 v3 K1
 have HD : Hid (S14 w w1.drew B SA NA) := HV.out.kept (grown_drewN w1 1 none)
 rcases HKI.out with hkd | hkd | hkd | hkd | hkd | hkd | hkd
 ·rw [hkd] at n0
  have HF : Hid (R = loadR s n x) := by
   show R = _
   rw [HR.out]
   unfold overR
   rw [if_pos hkd]
  have HL2 : Hid _ := HLD.out hkd
  clear hkd HLD HAR HRL HPY HCY
  go_upto_region 3 with fail
  clear HR n0 HV HVR
  generalize loadR s n x = q at *
  refine wp_region_held_drew (S := fun W => S14 w W B SA NA) (by kernel_rfl) (HD.out) (fun hHeld => ?_)
  refine wpT (i := 0) (v := .agg (SA)) rfl (yieldsIf_load_row (by rfl) _ _ rfl B rfl 48 (SA) _ (fun W hW => hW.s) Tryz.underlying48 rfl HSS) hHeld ?_
  try simp only [Act.put, a0, a1, a3, a4, a5]
  refine wpT (i := 1) (v := .agg (NA)) rfl (yieldsIf_load_row (by rfl) _ _ rfl (B + 1) rfl 52 (NA) _ (fun W hW => hW.n) Tryz.underlying52 rfl HNS) hHeld ?_
  try simp only [Act.put, a0, a1, a2, a3, a4, a5]
  refine wpT (i := 2) (v := .slice (some ⟨pb, po, none⟩) k pc) rfl (Or.inl ⟨by rfl, fun W hW => ?_⟩) hHeld ?_
  ·clear hW
   go_simp
  try simp only [Act.put, a0, a1, a2, a3, a4, a5]
  refine wpT (i := 3) (v := .pointer (some ⟨pb, po, none⟩)) rfl (Or.inl ⟨by rfl, fun W hW => ?_⟩) hHeld ?_
  ·clear hW
   go_simp
   all_goals (intro hz0; omega)
  try simp only [Act.put, a0, a1, a2, a3, a4, a5]
  refine wpT (i := 4) (v := .agg (XL).toArray) rfl (yieldsIf_load_mid (by rfl) 46 (.tmp 15) rfl pb (po) rfl XL _ (fun W hW => HPX.out W hW.up) Tryz.underlying46 rfl HXL.out.1) hHeld ?_
  try simp only [Act.put, a0, a1, a2, a3, a4, a5]
  refine wpR (rs := [5]) (AllReadyH.cons rfl (fun K hK => ?_) AllReadyH.nil)
  go_simp
  refine (HL2.out _ hHeld.up).mono ?_
  rintro e w2 ⟨rfl, K2⟩
  go_wp2_with fail
  refine hK.out _ _ (hHeld.kept K2) (fun hHeld => ?_)
  clear hK K
  try simp only [Act.put, a0, a1, a2, a3, a4, a5]
  refine wpR (rs := [6]) (AllReadyH.cons rfl (fun K hK => ?_) AllReadyH.nil)
  obtain ⟨RA, vRA, hRA⟩ := hHeld.r
  refine step_store_rowM rfl 46 (.tmp 6) (.tmp 17) rfl (B + 2) (rpA q) rfl rfl 46 RA vRA (HSZ.out _).1 (hRA.trans (HSZ.out _).2.1) (HSZ.out _).2.2 ?_
  obtain ⟨p1, p2, p3⟩ := hHeld.put q HB.out
  refine hK.out _ _ p1 (fun _ => ?_)
  clear hK K
  try simp only [Act.put]
  refine wpAnyH_done (by kernel_rfl) ?_ _
  go_wp2_with fail
  refine bodyPost_ret (results_cell_row rfl _ _ (B + 2) _ (rpA q) (0, 0) _ rfl p2 Tryz.underlying46 rfl (HSZ.out _).1) rfl ?_
  exact ⟨by rw [HF.out], p3⟩
 ·rw [hkd] at n0
  have HF : Hid (R = arithR n.op x y) := by
   show R = _
   rw [HR.out]
   unfold overR
   rw [if_neg (by omega), if_neg (by omega), if_pos hkd]
  obtain ⟨hpy, hk2⟩ := HPY.out (.inl hkd)
  have HP2 : Hid (∀ W, w.grownBy W none → W.rangeAt pb (po + 4) YL) := hpy
  have hk1i : (1 : Int) < (k : Int) := by omega
  have HCY2 : Hid (∀ W, w.grownBy W none → W.cell? ⟨pb, po + 4 + 3, none⟩ = some (.int .i64 y.sd)) := HCY.out (.inl hkd)
  have HL2 : Hid _ := HAR.out hkd
  clear hkd HLD HAR HRL HPY HCY hpy hk2
  go_upto_region 9 with fail
  clear HR n0 HV HVR
  generalize arithR n.op x y = q at *
  refine wp_region_held_drew (S := fun W => S14 w W B SA NA) (by kernel_rfl) (HD.out) (fun hHeld => ?_)
  refine wpT (i := 0) (v := .agg (NA)) rfl (yieldsIf_load_row (by rfl) _ _ rfl (B + 1) rfl 52 (NA) _ (fun W hW => hW.n) Tryz.underlying52 rfl HNS) hHeld ?_
  try simp only [Act.put, a0, a1, a3, a4, a5]
  refine wpT (i := 1) (v := .slice (some ⟨pb, po, none⟩) k pc) rfl (Or.inl ⟨by rfl, fun W hW => ?_⟩) hHeld ?_
  ·clear hW
   go_simp
  try simp only [Act.put, a0, a1, a2, a3, a4, a5]
  refine wpT (i := 2) (v := .pointer (some ⟨pb, po, none⟩)) rfl (Or.inl ⟨by rfl, fun W hW => ?_⟩) hHeld ?_
  ·clear hW
   go_simp
   all_goals (intro hz0; omega)
  try simp only [Act.put, a0, a1, a2, a3, a4, a5]
  refine wpT (i := 3) (v := .agg (XL).toArray) rfl (yieldsIf_load_mid (by rfl) 46 (.tmp 32) rfl pb (po) rfl XL _ (fun W hW => HPX.out W hW.up) Tryz.underlying46 rfl HXL.out.1) hHeld ?_
  try simp only [Act.put, a0, a1, a2, a3, a4, a5]
  refine wpT (i := 4) (v := .slice (some ⟨pb, po, none⟩) k pc) rfl (Or.inl ⟨by rfl, fun W hW => ?_⟩) hHeld ?_
  ·clear hW
   go_simp
  try simp only [Act.put, a0, a1, a2, a3, a4, a5]
  refine wpT (i := 5) (v := .pointer (some ⟨pb, po + 4, none⟩)) rfl (Or.inl ⟨by rfl, fun W hW => ?_⟩) hHeld ?_
  ·clear hW
   go_simp
   all_goals (intro hz0; omega)
  try simp only [Act.put, a0, a1, a2, a3, a4, a5]
  refine wpT (i := 6) (v := .agg (YL).toArray) rfl (yieldsIf_load_mid (by rfl) 46 (.tmp 35) rfl pb (po + 4) rfl YL _ (fun W hW => HP2.out W hW.up) Tryz.underlying46 rfl HXL.out.2) hHeld ?_
  try simp only [Act.put, a0, a1, a2, a3, a4, a5]
  refine wpR (rs := [7]) (AllReadyH.cons rfl (fun K hK => ?_) AllReadyH.nil)
  go_simp
  refine (HL2.out _).mono ?_
  rintro e w2 ⟨rfl, K2⟩
  go_wp2_with fail
  refine hK.out _ _ (hHeld.kept K2) (fun hHeld => ?_)
  clear hK K
  try simp only [Act.put, a0, a1, a2, a3, a4, a5]
  refine wpR (rs := [8]) (AllReadyH.cons rfl (fun K hK => ?_) AllReadyH.nil)
  obtain ⟨RA, vRA, hRA⟩ := hHeld.r
  refine step_store_rowM rfl 46 (.tmp 6) (.tmp 37) rfl (B + 2) (rpA q) rfl rfl 46 RA vRA (HSZ.out _).1 (hRA.trans (HSZ.out _).2.1) (HSZ.out _).2.2 ?_
  obtain ⟨p1, p2, p3⟩ := hHeld.put q HB.out
  refine hK.out _ _ p1 (fun _ => ?_)
  clear hK K
  try simp only [Act.put]
  refine wpAnyH_done (by kernel_rfl) ?_ _
  go_wp2_with fail
  refine bodyPost_ret (results_cell_row rfl _ _ (B + 2) _ (rpA q) (0, 0) _ rfl p2 Tryz.underlying46 rfl (HSZ.out _).1) rfl ?_
  exact ⟨by rw [HF.out], p3⟩
 ·rw [hkd] at n0
  have HF : Hid (R = ⟨minusG x.v, x.ab, x.fl, x.sd⟩) := by
   show R = _
   rw [HR.out]
   unfold overR
   rw [if_neg (by omega), if_pos hkd]
  clear hkd HLD HAR HRL HPY HCY HCX HR HD
  go_upto_region 5 with fail
  have HXZ : Hid (4 = XL.toArray.size ∧ XL.toArray.all (·.oneCell') = true) := by
   show _ ∧ _
   rw [← HNX.out.2.2.1]
   exact ⟨rfl, rp_all x⟩
  go_upto_region 6 with (first
   | (refine wpList_load_mid rfl 46 (.tmp 21) rfl pb po rfl XL _ (HPX.out w1 HV.out.up) Tryz.underlying46 rfl HXL.out.1 ?_)
   | (refine wpList_store_row rfl 46 (.tmp 7) (.tmp 22) rfl w1.heap.size XL.toArray rfl rfl 46 _ (heap_alloc_new w1 _) HXL.out.1 HXZ.out.1 HXZ.out.2 ?_))
  rw [World.setRow_alloc_new]
  have K2 := World.grownBy_alloc w1 (.cells XL.toArray 46) none
  have T2 := VAt.alloc w1 46 XL.toArray
  have hlt := HVR.out.lt
  have HT : Hid (VAt _ w1.heap.size 46 XL.toArray ∧ VAt _ (B + 2) 46 #[.int .u32 0, .bool false, .bool false, .int .i64 0] ∧ w.grownBy _ none ∧ B + 2 ≠ w1.heap.size ∧ w.heap.size ≤ w1.heap.size) := ⟨T2, HVR.out.kept K2, grown_trans HV.out.up K2, by omega, HV.out.up.size⟩
  clear K2 T2 HV HVR hlt
  generalize w1.alloc (.cells XL.toArray 46) = w2 at *
  generalize w1.heap.size = T at *
  have t0 : w2.cell? ⟨T, 0, none⟩ = some (.int .u32 (x.v : Int)) := by
   have := HT.out.1
   rw [← HNX.out.2.2.1] at this
   exact this.cell 0
  have tf := HT.out.1.free 0
  have hneg := neg_u32 HXV.out
  have V3 : VAt (w2.setCell ⟨T, 0, none⟩ (.int .u32 ((minusG x.v : Nat) : Int))) T 46 (rpA ⟨minusG x.v, x.ab, x.fl, x.sd⟩) := by
   have := HT.out.1.set 0 (.int .u32 ((minusG x.v : Nat) : Int))
   rw [← HNX.out.2.2.1] at this
   exact this
  have K3 := grown_set1 w2 ⟨T, 0, none⟩ (.int .u32 ((minusG x.v : Nat) : Int))
  have HT3 : Hid (VAt (w2.setCell ⟨T, 0, none⟩ (.int .u32 ((minusG x.v : Nat) : Int))) T 46 (rpA ⟨minusG x.v, x.ab, x.fl, x.sd⟩) ∧ VAt (w2.setCell ⟨T, 0, none⟩ (.int .u32 ((minusG x.v : Nat) : Int))) (B + 2) 46 #[.int .u32 0, .bool false, .bool false, .int .i64 0] ∧ w.grownBy (w2.setCell ⟨T, 0, none⟩ (.int .u32 ((minusG x.v : Nat) : Int))) none) := ⟨V3, HT.out.2.1.grown K3 (fun e => HT.out.2.2.2.1 (Option.some.inj e).symm), grown_trans_new HT.out.2.2.1 K3 (fun z e => by cases e; exact HT.out.2.2.2.2)⟩
  clear V3 K3 HT
  go_upto_region 7 with fail
  generalize w2.setCell ⟨T, 0, none⟩ (.int .u32 ((minusG x.v : Nat) : Int)) = w3 at *
  clear t0 tf hneg
  obtain ⟨q, hq⟩ : ∃ q, (⟨minusG x.v, x.ab, x.fl, x.sd⟩ : Rp) = q := ⟨_, rfl⟩
  rw [hq] at HF HT3
  clear hq
  go_wp2_with (first
   | (refine wpList_load_row rfl 46 (.tmp 7) rfl T rfl 46 (rpA q) (0, 0) _ HT3.out.1 Tryz.underlying46 rfl (HSZ.out _).1 ?_)
   | (refine wpList_store_row rfl 46 (.tmp 6) (.tmp 27) rfl (B + 2) (rpA q) rfl rfl 46 _ HT3.out.2.1 (HSZ.out _).1 (HSZ.out _).2.1 (HSZ.out _).2.2 ?_))
  refine bodyPost_ret (results_cell_row rfl _ _ (B + 2) _ (rpA q) (0, 0) _ rfl (HT3.out.2.1.setRow _) Tryz.underlying46 rfl (HSZ.out _).1) rfl ?_
  exact ⟨by rw [HF.out], vgrown_setRow HT3.out.2.2 _ _ (.inr HB.out)⟩
 ·rw [hkd] at n0
  have HF : Hid (R = ⟨0, false, false, relR n.op x y⟩) := by
   show R = _
   rw [HR.out]
   unfold overR
   rw [if_neg (by omega), if_neg (by omega), if_neg (by omega), if_pos hkd]
  obtain ⟨hpy, hk2⟩ := HPY.out (.inr (.inl hkd))
  have HP2 : Hid (∀ W, w.grownBy W none → W.rangeAt pb (po + 4) YL) := hpy
  have hk1i : (1 : Int) < (k : Int) := by omega
  have HCY2 : Hid (∀ W, w.grownBy W none → W.cell? ⟨pb, po + 4 + 3, none⟩ = some (.int .i64 y.sd)) := HCY.out (.inr (.inl hkd))
  clear hkd HLD HAR HPY HCY hpy hk2
  go_upto_region 11 with fail
  clear HR n0 HV HVR
  generalize relR n.op x y = z at *
  have HBZ := bld_rps z
  refine wp_region_held_drew (S := fun W => S14 w W B SA NA) (by kernel_rfl) (HD.out) (fun hHeld => ?_)
  refine wpT (i := 0) (v := .agg (NA)) rfl (yieldsIf_load_row (by rfl) _ _ rfl (B + 1) rfl 52 (NA) _ (fun W hW => hW.n) Tryz.underlying52 rfl HNS) hHeld ?_
  try simp only [Act.put, a0, a1, a3, a4, a5]
  refine wpT (i := 1) (v := .slice (some ⟨pb, po, none⟩) k pc) rfl (Or.inl ⟨by rfl, fun W hW => ?_⟩) hHeld ?_
  ·clear hW
   go_simp
  try simp only [Act.put, a0, a1, a2, a3, a4, a5]
  refine wpT (i := 2) (v := .pointer (some ⟨pb, po, none⟩)) rfl (Or.inl ⟨by rfl, fun W hW => ?_⟩) hHeld ?_
  ·clear hW
   go_simp
   all_goals (intro hz0; omega)
  try simp only [Act.put, a0, a1, a2, a3, a4, a5]
  refine wpT (i := 3) (v := .agg (XL).toArray) rfl (yieldsIf_load_mid (by rfl) 46 (.tmp 42) rfl pb (po) rfl XL _ (fun W hW => HPX.out W hW.up) Tryz.underlying46 rfl HXL.out.1) hHeld ?_
  try simp only [Act.put, a0, a1, a2, a3, a4, a5]
  refine wpT (i := 4) (v := .slice (some ⟨pb, po, none⟩) k pc) rfl (Or.inl ⟨by rfl, fun W hW => ?_⟩) hHeld ?_
  ·clear hW
   go_simp
  try simp only [Act.put, a0, a1, a2, a3, a4, a5]
  refine wpT (i := 5) (v := .pointer (some ⟨pb, po + 4, none⟩)) rfl (Or.inl ⟨by rfl, fun W hW => ?_⟩) hHeld ?_
  ·clear hW
   go_simp
   all_goals (intro hz0; omega)
  try simp only [Act.put, a0, a1, a2, a3, a4, a5]
  refine wpT (i := 6) (v := .agg (YL).toArray) rfl (yieldsIf_load_mid (by rfl) 46 (.tmp 45) rfl pb (po + 4) rfl YL _ (fun W hW => HP2.out W hW.up) Tryz.underlying46 rfl HXL.out.2) hHeld ?_
  try simp only [Act.put, a0, a1, a2, a3, a4, a5]
  refine wpR (rs := [7]) (AllReadyH.cons rfl (fun K hK => ?_) AllReadyH.nil)
  go_simp
  refine (HRL.out _).mono ?_
  rintro e w2 ⟨rfl, K2⟩
  go_wp2_with fail
  refine hK.out _ _ (hHeld.kept K2) (fun hHeld => ?_)
  clear hK K
  try simp only [Act.put, a0, a1, a2, a3, a4, a5]
  refine wpT (i := 8) (v := .agg (rpA ⟨0, false, false, z⟩)) rfl (yieldsIf_bld14 (by rfl) 46 _ (by rfl) #[(3, .int .i64 z)] (by kernel_rfl) (.agg (rpA ⟨0, false, false, z⟩)) HBZ) hHeld ?_
  try simp only [Act.put, a0, a1, a2, a3, a4, a5]
  refine wpR (rs := [9]) (AllReadyH.cons rfl (fun K hK => ?_) AllReadyH.nil)
  obtain ⟨RA, vRA, hRA⟩ := hHeld.r
  refine step_store_rowM rfl 46 (.tmp 6) (.tmp 48) rfl (B + 2) (rpA ⟨0, false, false, z⟩) rfl rfl 46 RA vRA (HSZ.out _).1 (hRA.trans (HSZ.out _).2.1) (HSZ.out _).2.2 ?_
  obtain ⟨p1, p2, p3⟩ := hHeld.put ⟨0, false, false, z⟩ HB.out
  refine hK.out _ _ p1 (fun _ => ?_)
  clear hK K
  try simp only [Act.put]
  refine wpAnyH_done (by kernel_rfl) ?_ _
  go_wp2_with fail
  refine bodyPost_ret (results_cell_row rfl _ _ (B + 2) _ (rpA ⟨0, false, false, z⟩) (0, 0) _ rfl p2 Tryz.underlying46 rfl (HSZ.out _).1) rfl ?_
  exact ⟨by rw [HF.out], p3⟩
 ·rw [hkd] at n0
  have HF : Hid (R = ⟨0, false, false, andM x.sd y.sd⟩) := by
   show R = _
   rw [HR.out]
   unfold overR
   rw [if_neg (by omega), if_neg (by omega), if_neg (by omega), if_neg (by omega), if_pos hkd]
  obtain ⟨hpy, hk2⟩ := HPY.out (.inr (.inr (.inl hkd)))
  have HP2 : Hid (∀ W, w.grownBy W none → W.rangeAt pb (po + 4) YL) := hpy
  have hk1i : (1 : Int) < (k : Int) := by omega
  have HCY2 : Hid (∀ W, w.grownBy W none → W.cell? ⟨pb, po + 4 + 3, none⟩ = some (.int .i64 y.sd)) := HCY.out (.inr (.inr (.inl hkd)))
  clear hkd HLD HAR HRL HPY HCY hpy hk2
  go_upto_region 13 with fail
  clear HR n0 HV HVR
  generalize x.sd = xd at *
  generalize y.sd = yd at *
  have HBZ := bld_rps (andM xd yd)
  refine wp_region_held_drew (S := fun W => S14 w W B SA NA) (by kernel_rfl) (HD.out) (fun hHeld => ?_)
  refine wpT (i := 0) (v := .slice (some ⟨pb, po, none⟩) k pc) rfl (Or.inl ⟨by rfl, fun W hW => ?_⟩) hHeld ?_
  ·clear hW
   go_simp
  try simp only [Act.put, a0, a1, a3, a4, a5]
  refine wpT (i := 1) (v := .pointer (some ⟨pb, po, none⟩)) rfl (Or.inl ⟨by rfl, fun W hW => ?_⟩) hHeld ?_
  ·clear hW
   go_simp
   all_goals (intro hz0; omega)
  try simp only [Act.put, a0, a1, a2, a3, a4, a5]
  refine wpT (i := 2) (v := .pointer (some ⟨pb, po + 3, none⟩)) rfl (Or.inl ⟨by rfl, fun W hW => ?_⟩) hHeld ?_
  ·clear hW
   go_simp
  try simp only [Act.put, a0, a1, a2, a3, a4, a5]
  refine wpT (i := 3) (v := .int .i64 xd) rfl (Or.inl ⟨by rfl, fun W hW => ?_⟩) hHeld ?_
  ·have cc := HCX.out W hW.up
   clear hW
   go_simp
  try simp only [Act.put, a0, a1, a2, a3, a4, a5]
  refine wpT (i := 4) (v := .slice (some ⟨pb, po, none⟩) k pc) rfl (Or.inl ⟨by rfl, fun W hW => ?_⟩) hHeld ?_
  ·clear hW
   go_simp
  try simp only [Act.put, a0, a1, a2, a3, a4, a5]
  refine wpT (i := 5) (v := .pointer (some ⟨pb, po + 4, none⟩)) rfl (Or.inl ⟨by rfl, fun W hW => ?_⟩) hHeld ?_
  ·clear hW
   go_simp
   all_goals (intro hz0; omega)
  try simp only [Act.put, a0, a1, a2, a3, a4, a5]
  refine wpT (i := 6) (v := .pointer (some ⟨pb, po + 4 + 3, none⟩)) rfl (Or.inl ⟨by rfl, fun W hW => ?_⟩) hHeld ?_
  ·clear hW
   go_simp
  try simp only [Act.put, a0, a1, a2, a3, a4, a5]
  refine wpT (i := 7) (v := .int .i64 yd) rfl (Or.inl ⟨by rfl, fun W hW => ?_⟩) hHeld ?_
  ·have cc := HCY2.out W hW.up
   clear hW
   go_simp
  try simp only [Act.put, a0, a1, a2, a3, a4, a5]
  refine wpR (rs := [8]) (AllReadyH.cons rfl (fun K hK => ?_) AllReadyH.nil)
  go_simp
  refine (refand14_any xd yd _).mono ?_
  rintro e wo ⟨rfl, hwo⟩
  subst hwo
  go_wp2_with fail
  refine hK.out _ _ hHeld (fun hHeld => ?_)
  clear hK K
  try simp only [Act.put, a0, a1, a2, a3, a4, a5]
  refine wpT (i := 9) (v := .agg (rpA ⟨0, false, false, andM xd yd⟩)) rfl (yieldsIf_bld14 (by rfl) 46 _ (by rfl) #[(3, .int .i64 (andM xd yd))] (by kernel_rfl) (.agg (rpA ⟨0, false, false, andM xd yd⟩)) HBZ) hHeld ?_
  try simp only [Act.put, a0, a1, a2, a3, a4, a5]
  refine wpR (rs := [10]) (AllReadyH.cons rfl (fun K hK => ?_) AllReadyH.nil)
  obtain ⟨RA, vRA, hRA⟩ := hHeld.r
  refine step_store_rowM rfl 46 (.tmp 6) (.tmp 60) rfl (B + 2) (rpA ⟨0, false, false, andM xd yd⟩) rfl rfl 46 RA vRA (HSZ.out _).1 (hRA.trans (HSZ.out _).2.1) (HSZ.out _).2.2 ?_
  obtain ⟨p1, p2, p3⟩ := hHeld.put ⟨0, false, false, andM xd yd⟩ HB.out
  refine hK.out _ _ p1 (fun _ => ?_)
  clear hK K
  try simp only [Act.put]
  refine wpAnyH_done (by kernel_rfl) ?_ _
  go_wp2_with fail
  refine bodyPost_ret (results_cell_row rfl _ _ (B + 2) _ (rpA ⟨0, false, false, andM xd yd⟩) (0, 0) _ rfl p2 Tryz.underlying46 rfl (HSZ.out _).1) rfl ?_
  exact ⟨by rw [HF.out], p3⟩
 ·rw [hkd] at n0
  have HF : Hid (R = ⟨0, false, false, orM x.sd y.sd⟩) := by
   show R = _
   rw [HR.out]
   unfold overR
   rw [if_neg (by omega), if_neg (by omega), if_neg (by omega), if_neg (by omega), if_neg (by omega), if_pos hkd]
  obtain ⟨hpy, hk2⟩ := HPY.out (.inr (.inr (.inr hkd)))
  have HP2 : Hid (∀ W, w.grownBy W none → W.rangeAt pb (po + 4) YL) := hpy
  have hk1i : (1 : Int) < (k : Int) := by omega
  have HCY2 : Hid (∀ W, w.grownBy W none → W.cell? ⟨pb, po + 4 + 3, none⟩ = some (.int .i64 y.sd)) := HCY.out (.inr (.inr (.inr hkd)))
  clear hkd HLD HAR HRL HPY HCY hpy hk2
  go_upto_region 15 with fail
  clear HR n0 HV HVR
  generalize x.sd = xd at *
  generalize y.sd = yd at *
  have HBZ := bld_rps (orM xd yd)
  refine wp_region_held_drew (S := fun W => S14 w W B SA NA) (by kernel_rfl) (HD.out) (fun hHeld => ?_)
  refine wpT (i := 0) (v := .slice (some ⟨pb, po, none⟩) k pc) rfl (Or.inl ⟨by rfl, fun W hW => ?_⟩) hHeld ?_
  ·clear hW
   go_simp
  try simp only [Act.put, a0, a1, a3, a4, a5]
  refine wpT (i := 1) (v := .pointer (some ⟨pb, po, none⟩)) rfl (Or.inl ⟨by rfl, fun W hW => ?_⟩) hHeld ?_
  ·clear hW
   go_simp
   all_goals (intro hz0; omega)
  try simp only [Act.put, a0, a1, a2, a3, a4, a5]
  refine wpT (i := 2) (v := .pointer (some ⟨pb, po + 3, none⟩)) rfl (Or.inl ⟨by rfl, fun W hW => ?_⟩) hHeld ?_
  ·clear hW
   go_simp
  try simp only [Act.put, a0, a1, a2, a3, a4, a5]
  refine wpT (i := 3) (v := .int .i64 xd) rfl (Or.inl ⟨by rfl, fun W hW => ?_⟩) hHeld ?_
  ·have cc := HCX.out W hW.up
   clear hW
   go_simp
  try simp only [Act.put, a0, a1, a2, a3, a4, a5]
  refine wpT (i := 4) (v := .slice (some ⟨pb, po, none⟩) k pc) rfl (Or.inl ⟨by rfl, fun W hW => ?_⟩) hHeld ?_
  ·clear hW
   go_simp
  try simp only [Act.put, a0, a1, a2, a3, a4, a5]
  refine wpT (i := 5) (v := .pointer (some ⟨pb, po + 4, none⟩)) rfl (Or.inl ⟨by rfl, fun W hW => ?_⟩) hHeld ?_
  ·clear hW
   go_simp
   all_goals (intro hz0; omega)
  try simp only [Act.put, a0, a1, a2, a3, a4, a5]
  refine wpT (i := 6) (v := .pointer (some ⟨pb, po + 4 + 3, none⟩)) rfl (Or.inl ⟨by rfl, fun W hW => ?_⟩) hHeld ?_
  ·clear hW
   go_simp
  try simp only [Act.put, a0, a1, a2, a3, a4, a5]
  refine wpT (i := 7) (v := .int .i64 yd) rfl (Or.inl ⟨by rfl, fun W hW => ?_⟩) hHeld ?_
  ·have cc := HCY2.out W hW.up
   clear hW
   go_simp
  try simp only [Act.put, a0, a1, a2, a3, a4, a5]
  refine wpR (rs := [8]) (AllReadyH.cons rfl (fun K hK => ?_) AllReadyH.nil)
  go_simp
  refine (refor14_any xd yd _).mono ?_
  rintro e wo ⟨rfl, hwo⟩
  subst hwo
  go_wp2_with fail
  refine hK.out _ _ hHeld (fun hHeld => ?_)
  clear hK K
  try simp only [Act.put, a0, a1, a2, a3, a4, a5]
  refine wpT (i := 9) (v := .agg (rpA ⟨0, false, false, orM xd yd⟩)) rfl (yieldsIf_bld14 (by rfl) 46 _ (by rfl) #[(3, .int .i64 (orM xd yd))] (by kernel_rfl) (.agg (rpA ⟨0, false, false, orM xd yd⟩)) HBZ) hHeld ?_
  try simp only [Act.put, a0, a1, a2, a3, a4, a5]
  refine wpR (rs := [10]) (AllReadyH.cons rfl (fun K hK => ?_) AllReadyH.nil)
  obtain ⟨RA, vRA, hRA⟩ := hHeld.r
  refine step_store_rowM rfl 46 (.tmp 6) (.tmp 72) rfl (B + 2) (rpA ⟨0, false, false, orM xd yd⟩) rfl rfl 46 RA vRA (HSZ.out _).1 (hRA.trans (HSZ.out _).2.1) (HSZ.out _).2.2 ?_
  obtain ⟨p1, p2, p3⟩ := hHeld.put ⟨0, false, false, orM xd yd⟩ HB.out
  refine hK.out _ _ p1 (fun _ => ?_)
  clear hK K
  try simp only [Act.put]
  refine wpAnyH_done (by kernel_rfl) ?_ _
  go_wp2_with fail
  refine bodyPost_ret (results_cell_row rfl _ _ (B + 2) _ (rpA ⟨0, false, false, orM xd yd⟩) (0, 0) _ rfl p2 Tryz.underlying46 rfl (HSZ.out _).1) rfl ?_
  exact ⟨by rw [HF.out], p3⟩
 ·rw [hkd] at n0
  have HF : Hid (R = if x.sd = 2 then x else ⟨0, false, false, jdg (x.sd == 0)⟩) := by
   show R = _
   rw [HR.out]
   unfold overR
   rw [if_neg (by omega), if_neg (by omega), if_neg (by omega), if_neg (by omega), if_neg (by omega), if_neg (by omega)]
  have c3 := HCX.out w1 HV.out.up
  clear hkd HLD HAR HRL HPY HCY HCX HR HD
  by_cases h2 : x.sd = 2
  ·have HF2 : Hid (R = x) := by
    show R = x
    rw [HF.out, if_pos h2]
   have HXA : Hid (VAt w1 (B + 2) 46 #[.int .u32 0, .bool false, .bool false, .int .i64 0] ∧ XL.toArray = rpA x ∧ 4 = XL.toArray.size ∧ XL.toArray.all (·.oneCell') = true) := by
    show _ ∧ _ ∧ _ ∧ _
    rw [← HNX.out.2.2.1]
    exact ⟨HVR.out, rfl, rfl, rp_all x⟩
   rw [h2] at c3
   clear HF h2
   go_upto_region 17 with fail
   go_wp2_with (first
    | (refine wpList_load_mid rfl 46 (.tmp 79) rfl pb po rfl XL _ (HPX.out w1 HV.out.up) Tryz.underlying46 rfl HXL.out.1 ?_)
    | (refine wpList_store_row rfl 46 (.tmp 6) (.tmp 80) rfl (B + 2) XL.toArray rfl rfl 46 _ HXA.out.1 HXL.out.1 HXA.out.2.2.1 HXA.out.2.2.2 ?_))
   refine bodyPost_ret (results_cell_row rfl _ _ (B + 2) _ XL.toArray (0, 0) _ rfl (HXA.out.1.setRow _) Tryz.underlying46 rfl HXL.out.1) rfl ?_
   exact ⟨by rw [HF2.out, HXA.out.2.1], vgrown_setRow HV.out.up _ _ (.inr HB.out)⟩
  have HF2 : Hid (R = ⟨0, false, false, jdg (x.sd == 0)⟩) := by
   show R = _
   rw [HF.out, if_neg h2]
  have b2 : (x.sd == 2) = false := by rw [beq_eq_false_iff_ne]; exact h2
  clear HF h2
  go_upto_region 18 with fail
  go_wp2_with fail
  refine (refjdg_any (x.sd == 0) _).mono ?_
  rintro e wj ⟨rfl, hwj⟩
  subst hwj
  generalize jdg (x.sd == 0) = z at *
  go_wp2_with (first
   | (refine wpList_bld rfl 46 _ rfl #[(3, .int .i64 z)] (by kernel_rfl) (.agg (rpA ⟨0, false, false, z⟩)) (bld_rps _) ?_)
   | (refine wpList_store_row rfl 46 (.tmp 6) (.tmp 87) rfl (B + 2) (rpA ⟨0, false, false, z⟩) rfl rfl 46 _ HVR.out (HSZ.out _).1 (HSZ.out _).2.1 (HSZ.out _).2.2 ?_))
  refine bodyPost_ret (results_cell_row rfl _ _ (B + 2) _ (rpA ⟨0, false, false, z⟩) (0, 0) _ rfl (HVR.out.setRow _) Tryz.underlying46 rfl (HSZ.out _).1) rfl ?_
  exact ⟨by rw [HF2.out], vgrown_setRow HV.out.up _ _ (.inr HB.out)⟩
end Go.Proofs.YtcodofamdhcfiaaGreat
