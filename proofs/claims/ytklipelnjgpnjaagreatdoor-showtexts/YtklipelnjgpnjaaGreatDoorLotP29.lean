import Derived.Test.YtklipelnjgpnjaaGreatDoorLotP17
namespace Go.Proofs.YtklipelnjgpnjaaGreatDoor
open Go.RowKit
set_option maxRecDepth 100000
set_option maxRecDepth 100000 in
set_option maxHeartbeats 16000000 in
theorem bare_b (x : Ng) (w : World) (hc : x.kind = 14) : Calls Tryz.prog 176 #[.agg x.cells.toArray] w fun e w' => e = .returned (.tuple #[.agg (bareG x).cells.toArray, .bool (mayG x)]) ∧ w.grownBy w' none := by
 have HBX := box_ng x
 obtain ⟨h1, h2, h3⟩ := two_ng w x
 obtain ⟨X, hX⟩ : ∃ X, x.cells.toArray = X := ⟨_, rfl⟩
 rw [hX] at HBX ⊢
 go_enter Tryz.func176, Tryz.ntmps176
 go_upto_region 1 with fail
 rw [← hX] at *
 rw [show #[.int .i64 0, .int .i64 0, .int .u32 0, .int .u32 0, .int .i64 0, .int .i64 0, .int .i64 0, .int .u8 0, .int .u8 0, .int .u8 0, .int .u8 0, .int .u8 0, .int .u8 0, .int .u8 0, .int .u8 0, .int .u8 0, .int .u8 0, .int .u8 0, .int .u8 0, .int .u8 0, .int .u8 0, .int .u8 0, .int .u8 0, .int .i64 0] = ngZ.cells.toArray from rfl]
 generalize (w.alloc (.cells x.cells.toArray 43)).alloc (.cells ngZ.cells.toArray 43) = W at *
 obtain ⟨B, hB⟩ : ∃ B, w.heap.size = B := ⟨_, rfl⟩
 rw [hB] at h1 h2 ⊢
 have HB : Hid (w.heap.size ≤ B) := Nat.le_of_eq hB
 have HW0 : Hid (BW w W B x) := ⟨h1, h2, h3⟩
 have c0 := h1.kind
 have c1 := h1.op
 have c2 := h1.n
 have c3 := h1.m
 have c4 := h1.size
 have c5 := h1.of
 have c6 := h1.side
 have c23 := h1.bits
 have f1 := VAt.free h1 1
 have f2 := VAt.free h1 2
 have f3 := VAt.free h1 3
 have f4 := VAt.free h1 4
 have f5 := VAt.free h1 5
 have f6 := VAt.free h1 6
 have f23 := VAt.free h1 23
 obtain ⟨kk, hkk⟩ : ∃ kk, x.kind = kk := ⟨_, rfl⟩
 have HK : Hid (x.kind = kk) := hkk
 rw [hkk] at c0 hc
 clear HBX hX X h1 h2 h3 hB hkk
 have HEB : Hid (∀ (y : Ng) (bb : Bool), bareG x = y → mayG x = bb → Ending.returned (.tuple #[.agg (bareG x).cells.toArray, .bool (mayG x)]) = .returned (.tuple #[.agg y.cells.toArray, .bool bb])) := fun y bb h h' => by rw [h, h']
 subst hc
 have HMS : Hid ((Tryz.prog.info? 41).map (·.size) = some zA.size ∧ zA.all (·.oneCell') = true) := ⟨zA_size, zA_all⟩
 have HMB : Hid (∀ W : World, (Instr.build 41 #[]).run Tryz.prog W = .ok (.agg zA) W) := fun W => by kernel_rfl
 obtain ⟨M, hM⟩ : ∃ M, zA = M := ⟨_, rfl⟩
 rw [hM] at HMS HMB
 have HM2 : Hid (zA = M) := hM
 clear hM
 have CB1 := between_any x.of 2 3 W
 have CB2 := between_any x.side 0 2 W
 have HS : Hid (Calls Tryz.prog 197 #[.agg ((adgs x).map bv).toArray] W fun e w' => e = .returned (.bool (decide ((adgs x).drop 4 = zeros 12))) ∧ W.grownBy w' none) := short12_any x W
 have HMG : Hid (mayG x = (inG x.of 2 3 && inG x.side 0 2 && (x.of == 3 || decide ((adgs x).drop 4 = zeros 12)))) := by show mayG x = _; unfold mayG; rw [HK.out]; rfl
 have HAD : Hid (W.rangeAt B 7 ((adgs x).map bv)) := NB.addr HW0.out.1
 have HAZ : Hid ((Tryz.prog.info? 41).map (·.size) = some ((adgs x).map bv).length) := size_arr16 x
 obtain ⟨oo, hoo⟩ : ∃ oo, x.of = oo := ⟨_, rfl⟩
 obtain ⟨ss, hss⟩ : ∃ ss, x.side = ss := ⟨_, rfl⟩
 obtain ⟨sb, hsb⟩ : ∃ sb, decide ((adgs x).drop 4 = zeros 12) = sb := ⟨_, rfl⟩
 obtain ⟨al, hal⟩ : ∃ al, (adgs x).map bv = al := ⟨_, rfl⟩
 rw [hoo] at CB1 c5
 rw [hss] at CB2 c6
 rw [hsb, hal] at HS
 rw [hal] at HAD HAZ
 rw [hoo, hss, hsb] at HMG
 obtain ⟨b1, hb1⟩ : ∃ b1, inG oo 2 3 = b1 := ⟨_, rfl⟩
 obtain ⟨b2, hb2⟩ : ∃ b2, inG ss 0 2 = b2 := ⟨_, rfl⟩
 rw [hb1] at CB1 HMG
 rw [hb2] at CB2 HMG
 clear hoo hss hsb hal hb1 hb2
 cases b1 with
 | false =>
  have HM : Hid (mayG x = false) := by show mayG x = _; rw [HMG.out]; rfl
  clear CB2 HS HMG HAD HAZ
  go_wp2_with fail
  refine CB1.mono ?_
  rintro e w1 ⟨rfl, rfl⟩
  clear CB1
  obtain ⟨h1, h2, h3⟩ := HW0.out
  have HT5 : Hid (BW w ((w1.setCell ⟨B, 5, none⟩ (.int .i64 0)).setCell ⟨B, 6, none⟩ (.int .i64 0)) B { x with of := 0, side := 0 }) := BW.set (z := ({ x with of := 0, side := 0 } : Ng)) (BW.set (z := ({ x with of := 0 } : Ng)) HW0.out HB.out 5 (.int .i64 0) rfl) HB.out 6 (.int .i64 0) rfl
  clear h1 h2 h3
  have HTH : Hid (((w1.setCell ⟨B, 5, none⟩ (.int .i64 0)).setCell ⟨B, 6, none⟩ (.int .i64 0)).there B 7 M.size) := by unfold Hid; rw [← HM2.out]; exact BW.there HT5.out
  go_upto_region 31 with fail
  go_upto_region 32 with (first | refine wpList_bld rfl 41 _ rfl _ (by kernel_rfl) (.agg M) HMB.out ?_ | refine wpList_store_mid rfl 41 (.tmp 73) (.tmp 72) rfl B 7 M rfl rfl HTH.out HMS.out.1 HMS.out.2 ?_)
  have HT7 : BW w (((w1.setCell ⟨B, 5, none⟩ (.int .i64 0)).setCell ⟨B, 6, none⟩ (.int .i64 0)).setCells B 7 M.toList) B { x with of := 0, side := 0, addr := zeros 16 } := by rw [← HM2.out]; exact BW.setA HT5.out HB.out rfl
  generalize ((w1.setCell ⟨B, 5, none⟩ (.int .i64 0)).setCell ⟨B, 6, none⟩ (.int .i64 0)).setCells B 7 M.toList = W7 at *
  clear HTH HMB HMS HM2
  have c0 := HT7.1.kind
  have c23 := HT7.1.bits
  have f23 := VAt.free HT7.1 23
  have HK7 : Hid (x.kind = 14) := HK.out
  rw [show ({ x with of := 0, side := 0, addr := zeros 16 } : Ng).kind = 14 from HK.out] at c0
  have HT8 : Hid (BW w W7 B { x with of := 0, side := 0, addr := zeros 16 }) := HT7
  clear HT5 HT7
  go_upto_region 40 with fail
  have HW := HT8.out
  obtain ⟨Yn, hYn⟩ : ∃ Yn, ({ x with of := 0, side := 0, addr := zeros 16 } : Ng) = Yn := ⟨_, rfl⟩
  have HE : Hid (bareG x = Yn ∧ mayG x = false) := ⟨by rw [← hYn]; unfold bareG; rw [HK.out]; rfl, HM.out⟩
  rw [hYn] at HW
  clear hYn HM HT8
  generalize W7 = Wf at *
  have HY : Hid ((Tryz.prog.info? 43).map (·.size) = some Yn.cells.toArray.size ∧ ngZ.cells.toArray.size = Yn.cells.toArray.size ∧ Yn.cells.toArray.all (·.oneCell') = true) := ⟨ng_size _, rfl, ng_all _⟩
  obtain ⟨Y, hY⟩ : ∃ Y, Yn.cells.toArray = Y := ⟨_, rfl⟩
  have HW1 : Hid (VAt Wf B 43 Y ∧ VAt Wf (B + 1) 43 ngZ.cells.toArray ∧ w.grownBy Wf none) := by
   obtain ⟨g1, g2, g3⟩ := HW
   exact ⟨hY ▸ g1, g2, g3⟩
  have HEB1 : Hid (Ending.returned (.tuple #[.agg (bareG x).cells.toArray, .bool (mayG x)]) = .returned (.tuple #[.agg Y, .bool false])) := by
   show _ = _
   rw [HE.out.1, HE.out.2, hY]
  rw [hY] at HY
  clear HW HE HEB HW0 hY
  go_wp2_with (first | refine wpList_load_row rfl 43 (.tmp 1) rfl B rfl 43 Y (0, 0) _ HW1.out.1 Tryz.underlying43 rfl HY.out.1 ?_ | refine wpList_store_row rfl 43 (.tmp 2) (.tmp 102) rfl (B + 1) Y rfl rfl 43 _ HW1.out.2.1 HY.out.1 HY.out.2.1 HY.out.2.2 ?_)
  refine bodyPost_ret (ret_rowT rfl _ _ (B + 1) Y _ rfl (VAt.setRow HW1.out.2.1 _) Tryz.underlying43 rfl HY.out.1) rfl ?_
  exact ⟨HEB1.out.symm, vgrown_setRow HW1.out.2.2 (B + 1) _ (.inr (by have := HB.out; omega))⟩
 | true =>
  cases b2 with
  | false =>
   have HM : Hid (mayG x = false) := by show mayG x = _; rw [HMG.out]; rfl
   clear HS HMG HAD HAZ
   go_wp2_with fail
   refine CB1.mono ?_
   rintro e w1 ⟨rfl, rfl⟩
   clear CB1
   go_wp2_with fail
   refine CB2.mono ?_
   rintro e w2 ⟨rfl, rfl⟩
   clear CB2
   obtain ⟨h1, h2, h3⟩ := HW0.out
   have HT5 : Hid (BW w ((w2.setCell ⟨B, 5, none⟩ (.int .i64 0)).setCell ⟨B, 6, none⟩ (.int .i64 0)) B { x with of := 0, side := 0 }) := BW.set (z := ({ x with of := 0, side := 0 } : Ng)) (BW.set (z := ({ x with of := 0 } : Ng)) HW0.out HB.out 5 (.int .i64 0) rfl) HB.out 6 (.int .i64 0) rfl
   clear h1 h2 h3
   have HTH : Hid (((w2.setCell ⟨B, 5, none⟩ (.int .i64 0)).setCell ⟨B, 6, none⟩ (.int .i64 0)).there B 7 M.size) := by unfold Hid; rw [← HM2.out]; exact BW.there HT5.out
   go_upto_region 31 with fail
   go_upto_region 32 with (first | refine wpList_bld rfl 41 _ rfl _ (by kernel_rfl) (.agg M) HMB.out ?_ | refine wpList_store_mid rfl 41 (.tmp 73) (.tmp 72) rfl B 7 M rfl rfl HTH.out HMS.out.1 HMS.out.2 ?_)
   have HT7 : BW w (((w2.setCell ⟨B, 5, none⟩ (.int .i64 0)).setCell ⟨B, 6, none⟩ (.int .i64 0)).setCells B 7 M.toList) B { x with of := 0, side := 0, addr := zeros 16 } := by rw [← HM2.out]; exact BW.setA HT5.out HB.out rfl
   generalize ((w2.setCell ⟨B, 5, none⟩ (.int .i64 0)).setCell ⟨B, 6, none⟩ (.int .i64 0)).setCells B 7 M.toList = W7 at *
   clear HTH HMB HMS HM2
   have c0 := HT7.1.kind
   have c23 := HT7.1.bits
   have f23 := VAt.free HT7.1 23
   have HK7 : Hid (x.kind = 14) := HK.out
   rw [show ({ x with of := 0, side := 0, addr := zeros 16 } : Ng).kind = 14 from HK.out] at c0
   have HT8 : Hid (BW w W7 B { x with of := 0, side := 0, addr := zeros 16 }) := HT7
   clear HT5 HT7
   go_upto_region 40 with fail
   have HW := HT8.out
   obtain ⟨Yn, hYn⟩ : ∃ Yn, ({ x with of := 0, side := 0, addr := zeros 16 } : Ng) = Yn := ⟨_, rfl⟩
   have HE : Hid (bareG x = Yn ∧ mayG x = false) := ⟨by rw [← hYn]; unfold bareG; rw [HK.out]; rfl, HM.out⟩
   rw [hYn] at HW
   clear hYn HM HT8
   generalize W7 = Wf at *
   have HY : Hid ((Tryz.prog.info? 43).map (·.size) = some Yn.cells.toArray.size ∧ ngZ.cells.toArray.size = Yn.cells.toArray.size ∧ Yn.cells.toArray.all (·.oneCell') = true) := ⟨ng_size _, rfl, ng_all _⟩
   obtain ⟨Y, hY⟩ : ∃ Y, Yn.cells.toArray = Y := ⟨_, rfl⟩
   have HW1 : Hid (VAt Wf B 43 Y ∧ VAt Wf (B + 1) 43 ngZ.cells.toArray ∧ w.grownBy Wf none) := by
    obtain ⟨g1, g2, g3⟩ := HW
    exact ⟨hY ▸ g1, g2, g3⟩
   have HEB1 : Hid (Ending.returned (.tuple #[.agg (bareG x).cells.toArray, .bool (mayG x)]) = .returned (.tuple #[.agg Y, .bool false])) := by
    show _ = _
    rw [HE.out.1, HE.out.2, hY]
   rw [hY] at HY
   clear HW HE HEB HW0 hY
   go_wp2_with (first | refine wpList_load_row rfl 43 (.tmp 1) rfl B rfl 43 Y (0, 0) _ HW1.out.1 Tryz.underlying43 rfl HY.out.1 ?_ | refine wpList_store_row rfl 43 (.tmp 2) (.tmp 102) rfl (B + 1) Y rfl rfl 43 _ HW1.out.2.1 HY.out.1 HY.out.2.1 HY.out.2.2 ?_)
   refine bodyPost_ret (ret_rowT rfl _ _ (B + 1) Y _ rfl (VAt.setRow HW1.out.2.1 _) Tryz.underlying43 rfl HY.out.1) rfl ?_
   exact ⟨HEB1.out.symm, vgrown_setRow HW1.out.2.2 (B + 1) _ (.inr (by have := HB.out; omega))⟩
  | true =>
   by_cases h3 : oo = 3
   ·have t3 : (oo == 3) = true := by simpa using h3
    have HM : Hid (mayG x = true) := by show mayG x = _; rw [HMG.out, t3]; rfl
    clear HS HMG HAD HAZ h3
    go_wp2_with fail
    refine CB1.mono ?_
    rintro e w1 ⟨rfl, rfl⟩
    clear CB1
    go_wp2_with fail
    refine CB2.mono ?_
    rintro e w2 ⟨rfl, rfl⟩
    clear CB2
    obtain ⟨h1, h2, h3⟩ := HW0.out
    have HT5 : Hid (BW w ((w2.setCell ⟨B, 5, none⟩ (.int .i64 0)).setCell ⟨B, 6, none⟩ (.int .i64 0)) B { x with of := 0, side := 0 }) := BW.set (z := ({ x with of := 0, side := 0 } : Ng)) (BW.set (z := ({ x with of := 0 } : Ng)) HW0.out HB.out 5 (.int .i64 0) rfl) HB.out 6 (.int .i64 0) rfl
    clear h1 h2 h3
    have HTH : Hid (((w2.setCell ⟨B, 5, none⟩ (.int .i64 0)).setCell ⟨B, 6, none⟩ (.int .i64 0)).there B 7 M.size) := by unfold Hid; rw [← HM2.out]; exact BW.there HT5.out
    go_upto_region 31 with fail
    go_upto_region 32 with (first | refine wpList_bld rfl 41 _ rfl _ (by kernel_rfl) (.agg M) HMB.out ?_ | refine wpList_store_mid rfl 41 (.tmp 73) (.tmp 72) rfl B 7 M rfl rfl HTH.out HMS.out.1 HMS.out.2 ?_)
    have HT7 : BW w (((w2.setCell ⟨B, 5, none⟩ (.int .i64 0)).setCell ⟨B, 6, none⟩ (.int .i64 0)).setCells B 7 M.toList) B { x with of := 0, side := 0, addr := zeros 16 } := by rw [← HM2.out]; exact BW.setA HT5.out HB.out rfl
    generalize ((w2.setCell ⟨B, 5, none⟩ (.int .i64 0)).setCell ⟨B, 6, none⟩ (.int .i64 0)).setCells B 7 M.toList = W7 at *
    clear HTH HMB HMS HM2
    have c0 := HT7.1.kind
    have c23 := HT7.1.bits
    have f23 := VAt.free HT7.1 23
    have HK7 : Hid (x.kind = 14) := HK.out
    rw [show ({ x with of := 0, side := 0, addr := zeros 16 } : Ng).kind = 14 from HK.out] at c0
    have HT8 : Hid (BW w W7 B { x with of := 0, side := 0, addr := zeros 16 }) := HT7
    clear HT5 HT7
    go_upto_region 40 with fail
    have HW := HT8.out
    obtain ⟨Yn, hYn⟩ : ∃ Yn, ({ x with of := 0, side := 0, addr := zeros 16 } : Ng) = Yn := ⟨_, rfl⟩
    have HE : Hid (bareG x = Yn ∧ mayG x = true) := ⟨by rw [← hYn]; unfold bareG; rw [HK.out]; rfl, HM.out⟩
    rw [hYn] at HW
    clear hYn HM HT8
    generalize W7 = Wf at *
    have HY : Hid ((Tryz.prog.info? 43).map (·.size) = some Yn.cells.toArray.size ∧ ngZ.cells.toArray.size = Yn.cells.toArray.size ∧ Yn.cells.toArray.all (·.oneCell') = true) := ⟨ng_size _, rfl, ng_all _⟩
    obtain ⟨Y, hY⟩ : ∃ Y, Yn.cells.toArray = Y := ⟨_, rfl⟩
    have HW1 : Hid (VAt Wf B 43 Y ∧ VAt Wf (B + 1) 43 ngZ.cells.toArray ∧ w.grownBy Wf none) := by
     obtain ⟨g1, g2, g3⟩ := HW
     exact ⟨hY ▸ g1, g2, g3⟩
    have HEB1 : Hid (Ending.returned (.tuple #[.agg (bareG x).cells.toArray, .bool (mayG x)]) = .returned (.tuple #[.agg Y, .bool true])) := by
     show _ = _
     rw [HE.out.1, HE.out.2, hY]
    rw [hY] at HY
    clear HW HE HEB HW0 hY
    go_wp2_with (first | refine wpList_load_row rfl 43 (.tmp 1) rfl B rfl 43 Y (0, 0) _ HW1.out.1 Tryz.underlying43 rfl HY.out.1 ?_ | refine wpList_store_row rfl 43 (.tmp 2) (.tmp 102) rfl (B + 1) Y rfl rfl 43 _ HW1.out.2.1 HY.out.1 HY.out.2.1 HY.out.2.2 ?_)
    refine bodyPost_ret (ret_rowT rfl _ _ (B + 1) Y _ rfl (VAt.setRow HW1.out.2.1 _) Tryz.underlying43 rfl HY.out.1) rfl ?_
    exact ⟨HEB1.out.symm, vgrown_setRow HW1.out.2.2 (B + 1) _ (.inr (by have := HB.out; omega))⟩
   ·have t3 : (oo == 3) = false := by simpa using h3
    have HM : Hid (mayG x = sb) := by show mayG x = _; rw [HMG.out, t3]; rfl
    clear HMG h3
    go_wp2_with fail
    refine CB1.mono ?_
    rintro e w1 ⟨rfl, rfl⟩
    clear CB1
    go_wp2_with fail
    refine CB2.mono ?_
    rintro e w2 ⟨rfl, rfl⟩
    clear CB2
    go_wp2_with (refine wpList_load_midG (by rfl) 41 (.tmp 65) rfl B 7 rfl al _ HAD.out Tryz.underlying41 rfl HAZ.out ?_)
    refine HS.out.mono ?_
    rintro e w3 ⟨rfl, K3⟩
    have HW2 : Hid (BW w w3 B x) := BW.kept HW0.out K3
    clear HS HW0 HAD HAZ c0 c1 c2 c3 c4 c5 c6 c23 f1 f2 f3 f4 f5 f6 f23 K3
    have HW0 := HW2
    clear HW2
    obtain ⟨h1, h2, h3⟩ := HW0.out
    have c5 := h1.of
    have c6 := h1.side
    have f5 := VAt.free h1 5
    have f6 := VAt.free h1 6
    clear h1 h2 h3
    obtain ⟨h1, h2, h3⟩ := HW0.out
    have HT5 : Hid (BW w ((w3.setCell ⟨B, 5, none⟩ (.int .i64 0)).setCell ⟨B, 6, none⟩ (.int .i64 0)) B { x with of := 0, side := 0 }) := BW.set (z := ({ x with of := 0, side := 0 } : Ng)) (BW.set (z := ({ x with of := 0 } : Ng)) HW0.out HB.out 5 (.int .i64 0) rfl) HB.out 6 (.int .i64 0) rfl
    clear h1 h2 h3
    have HTH : Hid (((w3.setCell ⟨B, 5, none⟩ (.int .i64 0)).setCell ⟨B, 6, none⟩ (.int .i64 0)).there B 7 M.size) := by unfold Hid; rw [← HM2.out]; exact BW.there HT5.out
    go_upto_region 31 with fail
    go_upto_region 32 with (first | refine wpList_bld rfl 41 _ rfl _ (by kernel_rfl) (.agg M) HMB.out ?_ | refine wpList_store_mid rfl 41 (.tmp 73) (.tmp 72) rfl B 7 M rfl rfl HTH.out HMS.out.1 HMS.out.2 ?_)
    have HT7 : BW w (((w3.setCell ⟨B, 5, none⟩ (.int .i64 0)).setCell ⟨B, 6, none⟩ (.int .i64 0)).setCells B 7 M.toList) B { x with of := 0, side := 0, addr := zeros 16 } := by rw [← HM2.out]; exact BW.setA HT5.out HB.out rfl
    generalize ((w3.setCell ⟨B, 5, none⟩ (.int .i64 0)).setCell ⟨B, 6, none⟩ (.int .i64 0)).setCells B 7 M.toList = W7 at *
    clear HTH HMB HMS HM2
    have c0 := HT7.1.kind
    have c23 := HT7.1.bits
    have f23 := VAt.free HT7.1 23
    have HK7 : Hid (x.kind = 14) := HK.out
    rw [show ({ x with of := 0, side := 0, addr := zeros 16 } : Ng).kind = 14 from HK.out] at c0
    have HT8 : Hid (BW w W7 B { x with of := 0, side := 0, addr := zeros 16 }) := HT7
    clear HT5 HT7
    go_upto_region 40 with fail
    have HW := HT8.out
    obtain ⟨Yn, hYn⟩ : ∃ Yn, ({ x with of := 0, side := 0, addr := zeros 16 } : Ng) = Yn := ⟨_, rfl⟩
    have HE : Hid (bareG x = Yn ∧ mayG x = sb) := ⟨by rw [← hYn]; unfold bareG; rw [HK.out]; rfl, HM.out⟩
    rw [hYn] at HW
    clear hYn HM HT8
    generalize W7 = Wf at *
    have HY : Hid ((Tryz.prog.info? 43).map (·.size) = some Yn.cells.toArray.size ∧ ngZ.cells.toArray.size = Yn.cells.toArray.size ∧ Yn.cells.toArray.all (·.oneCell') = true) := ⟨ng_size _, rfl, ng_all _⟩
    obtain ⟨Y, hY⟩ : ∃ Y, Yn.cells.toArray = Y := ⟨_, rfl⟩
    have HW1 : Hid (VAt Wf B 43 Y ∧ VAt Wf (B + 1) 43 ngZ.cells.toArray ∧ w.grownBy Wf none) := by
     obtain ⟨g1, g2, g3⟩ := HW
     exact ⟨hY ▸ g1, g2, g3⟩
    have HEB1 : Hid (Ending.returned (.tuple #[.agg (bareG x).cells.toArray, .bool (mayG x)]) = .returned (.tuple #[.agg Y, .bool sb])) := by
     show _ = _
     rw [HE.out.1, HE.out.2, hY]
    rw [hY] at HY
    clear HW HE HEB HW0 hY
    go_wp2_with (first | refine wpList_load_row rfl 43 (.tmp 1) rfl B rfl 43 Y (0, 0) _ HW1.out.1 Tryz.underlying43 rfl HY.out.1 ?_ | refine wpList_store_row rfl 43 (.tmp 2) (.tmp 102) rfl (B + 1) Y rfl rfl 43 _ HW1.out.2.1 HY.out.1 HY.out.2.1 HY.out.2.2 ?_)
    refine bodyPost_ret (ret_rowT rfl _ _ (B + 1) Y _ rfl (VAt.setRow HW1.out.2.1 _) Tryz.underlying43 rfl HY.out.1) rfl ?_
    exact ⟨HEB1.out.symm, vgrown_setRow HW1.out.2.2 (B + 1) _ (.inr (by have := HB.out; omega))⟩
set_option maxRecDepth 100000 in
set_option maxHeartbeats 16000000 in
theorem bare_c (x : Ng) (w : World) (hc : x.kind = 15) : Calls Tryz.prog 176 #[.agg x.cells.toArray] w fun e w' => e = .returned (.tuple #[.agg (bareG x).cells.toArray, .bool (mayG x)]) ∧ w.grownBy w' none := by
 have HBX := box_ng x
 obtain ⟨h1, h2, h3⟩ := two_ng w x
 obtain ⟨X, hX⟩ : ∃ X, x.cells.toArray = X := ⟨_, rfl⟩
 rw [hX] at HBX ⊢
 go_enter Tryz.func176, Tryz.ntmps176
 go_upto_region 1 with fail
 rw [← hX] at *
 rw [show #[.int .i64 0, .int .i64 0, .int .u32 0, .int .u32 0, .int .i64 0, .int .i64 0, .int .i64 0, .int .u8 0, .int .u8 0, .int .u8 0, .int .u8 0, .int .u8 0, .int .u8 0, .int .u8 0, .int .u8 0, .int .u8 0, .int .u8 0, .int .u8 0, .int .u8 0, .int .u8 0, .int .u8 0, .int .u8 0, .int .u8 0, .int .i64 0] = ngZ.cells.toArray from rfl]
 generalize (w.alloc (.cells x.cells.toArray 43)).alloc (.cells ngZ.cells.toArray 43) = W at *
 obtain ⟨B, hB⟩ : ∃ B, w.heap.size = B := ⟨_, rfl⟩
 rw [hB] at h1 h2 ⊢
 have HB : Hid (w.heap.size ≤ B) := Nat.le_of_eq hB
 have HW0 : Hid (BW w W B x) := ⟨h1, h2, h3⟩
 have c0 := h1.kind
 have c1 := h1.op
 have c2 := h1.n
 have c3 := h1.m
 have c4 := h1.size
 have c5 := h1.of
 have c6 := h1.side
 have c23 := h1.bits
 have f1 := VAt.free h1 1
 have f2 := VAt.free h1 2
 have f3 := VAt.free h1 3
 have f4 := VAt.free h1 4
 have f5 := VAt.free h1 5
 have f6 := VAt.free h1 6
 have f23 := VAt.free h1 23
 obtain ⟨kk, hkk⟩ : ∃ kk, x.kind = kk := ⟨_, rfl⟩
 have HK : Hid (x.kind = kk) := hkk
 rw [hkk] at c0 hc
 clear HBX hX X h1 h2 h3 hB hkk
 have HEB : Hid (∀ (y : Ng) (bb : Bool), bareG x = y → mayG x = bb → Ending.returned (.tuple #[.agg (bareG x).cells.toArray, .bool (mayG x)]) = .returned (.tuple #[.agg y.cells.toArray, .bool bb])) := fun y bb h h' => by rw [h, h']
 subst hc
 have HMS : Hid ((Tryz.prog.info? 41).map (·.size) = some zA.size ∧ zA.all (·.oneCell') = true) := ⟨zA_size, zA_all⟩
 have HMB : Hid (∀ W : World, (Instr.build 41 #[]).run Tryz.prog W = .ok (.agg zA) W) := fun W => by kernel_rfl
 obtain ⟨M, hM⟩ : ∃ M, zA = M := ⟨_, rfl⟩
 rw [hM] at HMS HMB
 have HM2 : Hid (zA = M) := hM
 clear hM
 have CB1 := between_any x.of 2 3 W
 have CB2 := between_any x.side 0 2 W
 have HS : Hid (Calls Tryz.prog 197 #[.agg ((adgs x).map bv).toArray] W fun e w' => e = .returned (.bool (decide ((adgs x).drop 4 = zeros 12))) ∧ W.grownBy w' none) := short12_any x W
 have HMG : Hid (mayG x = (inG x.of 2 3 && inG x.side 0 2 && (x.of == 3 || decide ((adgs x).drop 4 = zeros 12)))) := by show mayG x = _; unfold mayG; rw [HK.out]; rfl
 have HAD : Hid (W.rangeAt B 7 ((adgs x).map bv)) := NB.addr HW0.out.1
 have HAZ : Hid ((Tryz.prog.info? 41).map (·.size) = some ((adgs x).map bv).length) := size_arr16 x
 obtain ⟨oo, hoo⟩ : ∃ oo, x.of = oo := ⟨_, rfl⟩
 obtain ⟨ss, hss⟩ : ∃ ss, x.side = ss := ⟨_, rfl⟩
 obtain ⟨sb, hsb⟩ : ∃ sb, decide ((adgs x).drop 4 = zeros 12) = sb := ⟨_, rfl⟩
 obtain ⟨al, hal⟩ : ∃ al, (adgs x).map bv = al := ⟨_, rfl⟩
 rw [hoo] at CB1 c5
 rw [hss] at CB2 c6
 rw [hsb, hal] at HS
 rw [hal] at HAD HAZ
 rw [hoo, hss, hsb] at HMG
 obtain ⟨b1, hb1⟩ : ∃ b1, inG oo 2 3 = b1 := ⟨_, rfl⟩
 obtain ⟨b2, hb2⟩ : ∃ b2, inG ss 0 2 = b2 := ⟨_, rfl⟩
 rw [hb1] at CB1 HMG
 rw [hb2] at CB2 HMG
 clear hoo hss hsb hal hb1 hb2
 cases b1 with
 | false =>
  have HM : Hid (mayG x = false) := by show mayG x = _; rw [HMG.out]; rfl
  clear CB2 HS HMG HAD HAZ
  go_wp2_with fail
  refine CB1.mono ?_
  rintro e w1 ⟨rfl, rfl⟩
  clear CB1
  obtain ⟨h1, h2, h3⟩ := HW0.out
  have HT5 : Hid (BW w ((w1.setCell ⟨B, 5, none⟩ (.int .i64 0)).setCell ⟨B, 6, none⟩ (.int .i64 0)) B { x with of := 0, side := 0 }) := BW.set (z := ({ x with of := 0, side := 0 } : Ng)) (BW.set (z := ({ x with of := 0 } : Ng)) HW0.out HB.out 5 (.int .i64 0) rfl) HB.out 6 (.int .i64 0) rfl
  clear h1 h2 h3
  have HTH : Hid (((w1.setCell ⟨B, 5, none⟩ (.int .i64 0)).setCell ⟨B, 6, none⟩ (.int .i64 0)).there B 7 M.size) := by unfold Hid; rw [← HM2.out]; exact BW.there HT5.out
  go_upto_region 31 with fail
  go_upto_region 32 with (first | refine wpList_bld rfl 41 _ rfl _ (by kernel_rfl) (.agg M) HMB.out ?_ | refine wpList_store_mid rfl 41 (.tmp 73) (.tmp 72) rfl B 7 M rfl rfl HTH.out HMS.out.1 HMS.out.2 ?_)
  have HT7 : BW w (((w1.setCell ⟨B, 5, none⟩ (.int .i64 0)).setCell ⟨B, 6, none⟩ (.int .i64 0)).setCells B 7 M.toList) B { x with of := 0, side := 0, addr := zeros 16 } := by rw [← HM2.out]; exact BW.setA HT5.out HB.out rfl
  generalize ((w1.setCell ⟨B, 5, none⟩ (.int .i64 0)).setCell ⟨B, 6, none⟩ (.int .i64 0)).setCells B 7 M.toList = W7 at *
  clear HTH HMB HMS HM2
  have c0 := HT7.1.kind
  have c23 := HT7.1.bits
  have f23 := VAt.free HT7.1 23
  have HK7 : Hid (x.kind = 15) := HK.out
  rw [show ({ x with of := 0, side := 0, addr := zeros 16 } : Ng).kind = 15 from HK.out] at c0
  have HT8 : Hid (BW w W7 B { x with of := 0, side := 0, addr := zeros 16 }) := HT7
  clear HT5 HT7
  go_upto_region 40 with fail
  have HW := BW.set (z := ({ x with of := 0, side := 0, addr := zeros 16, bits := 0 } : Ng)) HT8.out HB.out 23 (.int .i64 0) rfl
  obtain ⟨Yn, hYn⟩ : ∃ Yn, ({ x with of := 0, side := 0, addr := zeros 16, bits := 0 } : Ng) = Yn := ⟨_, rfl⟩
  have HE : Hid (bareG x = Yn ∧ mayG x = false) := ⟨by rw [← hYn]; unfold bareG; rw [HK.out]; rfl, HM.out⟩
  rw [hYn] at HW
  clear hYn HM HT8
  generalize W7.setCell ⟨B, 23, none⟩ (.int .i64 0) = Wf at *
  have HY : Hid ((Tryz.prog.info? 43).map (·.size) = some Yn.cells.toArray.size ∧ ngZ.cells.toArray.size = Yn.cells.toArray.size ∧ Yn.cells.toArray.all (·.oneCell') = true) := ⟨ng_size _, rfl, ng_all _⟩
  obtain ⟨Y, hY⟩ : ∃ Y, Yn.cells.toArray = Y := ⟨_, rfl⟩
  have HW1 : Hid (VAt Wf B 43 Y ∧ VAt Wf (B + 1) 43 ngZ.cells.toArray ∧ w.grownBy Wf none) := by
   obtain ⟨g1, g2, g3⟩ := HW
   exact ⟨hY ▸ g1, g2, g3⟩
  have HEB1 : Hid (Ending.returned (.tuple #[.agg (bareG x).cells.toArray, .bool (mayG x)]) = .returned (.tuple #[.agg Y, .bool false])) := by
   show _ = _
   rw [HE.out.1, HE.out.2, hY]
  rw [hY] at HY
  clear HW HE HEB HW0 hY
  go_wp2_with (first | refine wpList_load_row rfl 43 (.tmp 1) rfl B rfl 43 Y (0, 0) _ HW1.out.1 Tryz.underlying43 rfl HY.out.1 ?_ | refine wpList_store_row rfl 43 (.tmp 2) (.tmp 102) rfl (B + 1) Y rfl rfl 43 _ HW1.out.2.1 HY.out.1 HY.out.2.1 HY.out.2.2 ?_)
  refine bodyPost_ret (ret_rowT rfl _ _ (B + 1) Y _ rfl (VAt.setRow HW1.out.2.1 _) Tryz.underlying43 rfl HY.out.1) rfl ?_
  exact ⟨HEB1.out.symm, vgrown_setRow HW1.out.2.2 (B + 1) _ (.inr (by have := HB.out; omega))⟩
 | true =>
  cases b2 with
  | false =>
   have HM : Hid (mayG x = false) := by show mayG x = _; rw [HMG.out]; rfl
   clear HS HMG HAD HAZ
   go_wp2_with fail
   refine CB1.mono ?_
   rintro e w1 ⟨rfl, rfl⟩
   clear CB1
   go_wp2_with fail
   refine CB2.mono ?_
   rintro e w2 ⟨rfl, rfl⟩
   clear CB2
   obtain ⟨h1, h2, h3⟩ := HW0.out
   have HT5 : Hid (BW w ((w2.setCell ⟨B, 5, none⟩ (.int .i64 0)).setCell ⟨B, 6, none⟩ (.int .i64 0)) B { x with of := 0, side := 0 }) := BW.set (z := ({ x with of := 0, side := 0 } : Ng)) (BW.set (z := ({ x with of := 0 } : Ng)) HW0.out HB.out 5 (.int .i64 0) rfl) HB.out 6 (.int .i64 0) rfl
   clear h1 h2 h3
   have HTH : Hid (((w2.setCell ⟨B, 5, none⟩ (.int .i64 0)).setCell ⟨B, 6, none⟩ (.int .i64 0)).there B 7 M.size) := by unfold Hid; rw [← HM2.out]; exact BW.there HT5.out
   go_upto_region 31 with fail
   go_upto_region 32 with (first | refine wpList_bld rfl 41 _ rfl _ (by kernel_rfl) (.agg M) HMB.out ?_ | refine wpList_store_mid rfl 41 (.tmp 73) (.tmp 72) rfl B 7 M rfl rfl HTH.out HMS.out.1 HMS.out.2 ?_)
   have HT7 : BW w (((w2.setCell ⟨B, 5, none⟩ (.int .i64 0)).setCell ⟨B, 6, none⟩ (.int .i64 0)).setCells B 7 M.toList) B { x with of := 0, side := 0, addr := zeros 16 } := by rw [← HM2.out]; exact BW.setA HT5.out HB.out rfl
   generalize ((w2.setCell ⟨B, 5, none⟩ (.int .i64 0)).setCell ⟨B, 6, none⟩ (.int .i64 0)).setCells B 7 M.toList = W7 at *
   clear HTH HMB HMS HM2
   have c0 := HT7.1.kind
   have c23 := HT7.1.bits
   have f23 := VAt.free HT7.1 23
   have HK7 : Hid (x.kind = 15) := HK.out
   rw [show ({ x with of := 0, side := 0, addr := zeros 16 } : Ng).kind = 15 from HK.out] at c0
   have HT8 : Hid (BW w W7 B { x with of := 0, side := 0, addr := zeros 16 }) := HT7
   clear HT5 HT7
   go_upto_region 40 with fail
   have HW := BW.set (z := ({ x with of := 0, side := 0, addr := zeros 16, bits := 0 } : Ng)) HT8.out HB.out 23 (.int .i64 0) rfl
   obtain ⟨Yn, hYn⟩ : ∃ Yn, ({ x with of := 0, side := 0, addr := zeros 16, bits := 0 } : Ng) = Yn := ⟨_, rfl⟩
   have HE : Hid (bareG x = Yn ∧ mayG x = false) := ⟨by rw [← hYn]; unfold bareG; rw [HK.out]; rfl, HM.out⟩
   rw [hYn] at HW
   clear hYn HM HT8
   generalize W7.setCell ⟨B, 23, none⟩ (.int .i64 0) = Wf at *
   have HY : Hid ((Tryz.prog.info? 43).map (·.size) = some Yn.cells.toArray.size ∧ ngZ.cells.toArray.size = Yn.cells.toArray.size ∧ Yn.cells.toArray.all (·.oneCell') = true) := ⟨ng_size _, rfl, ng_all _⟩
   obtain ⟨Y, hY⟩ : ∃ Y, Yn.cells.toArray = Y := ⟨_, rfl⟩
   have HW1 : Hid (VAt Wf B 43 Y ∧ VAt Wf (B + 1) 43 ngZ.cells.toArray ∧ w.grownBy Wf none) := by
    obtain ⟨g1, g2, g3⟩ := HW
    exact ⟨hY ▸ g1, g2, g3⟩
   have HEB1 : Hid (Ending.returned (.tuple #[.agg (bareG x).cells.toArray, .bool (mayG x)]) = .returned (.tuple #[.agg Y, .bool false])) := by
    show _ = _
    rw [HE.out.1, HE.out.2, hY]
   rw [hY] at HY
   clear HW HE HEB HW0 hY
   go_wp2_with (first | refine wpList_load_row rfl 43 (.tmp 1) rfl B rfl 43 Y (0, 0) _ HW1.out.1 Tryz.underlying43 rfl HY.out.1 ?_ | refine wpList_store_row rfl 43 (.tmp 2) (.tmp 102) rfl (B + 1) Y rfl rfl 43 _ HW1.out.2.1 HY.out.1 HY.out.2.1 HY.out.2.2 ?_)
   refine bodyPost_ret (ret_rowT rfl _ _ (B + 1) Y _ rfl (VAt.setRow HW1.out.2.1 _) Tryz.underlying43 rfl HY.out.1) rfl ?_
   exact ⟨HEB1.out.symm, vgrown_setRow HW1.out.2.2 (B + 1) _ (.inr (by have := HB.out; omega))⟩
  | true =>
   by_cases h3 : oo = 3
   ·have t3 : (oo == 3) = true := by simpa using h3
    have HM : Hid (mayG x = true) := by show mayG x = _; rw [HMG.out, t3]; rfl
    clear HS HMG HAD HAZ h3
    go_wp2_with fail
    refine CB1.mono ?_
    rintro e w1 ⟨rfl, rfl⟩
    clear CB1
    go_wp2_with fail
    refine CB2.mono ?_
    rintro e w2 ⟨rfl, rfl⟩
    clear CB2
    obtain ⟨h1, h2, h3⟩ := HW0.out
    have HT5 : Hid (BW w ((w2.setCell ⟨B, 5, none⟩ (.int .i64 0)).setCell ⟨B, 6, none⟩ (.int .i64 0)) B { x with of := 0, side := 0 }) := BW.set (z := ({ x with of := 0, side := 0 } : Ng)) (BW.set (z := ({ x with of := 0 } : Ng)) HW0.out HB.out 5 (.int .i64 0) rfl) HB.out 6 (.int .i64 0) rfl
    clear h1 h2 h3
    have HTH : Hid (((w2.setCell ⟨B, 5, none⟩ (.int .i64 0)).setCell ⟨B, 6, none⟩ (.int .i64 0)).there B 7 M.size) := by unfold Hid; rw [← HM2.out]; exact BW.there HT5.out
    go_upto_region 31 with fail
    go_upto_region 32 with (first | refine wpList_bld rfl 41 _ rfl _ (by kernel_rfl) (.agg M) HMB.out ?_ | refine wpList_store_mid rfl 41 (.tmp 73) (.tmp 72) rfl B 7 M rfl rfl HTH.out HMS.out.1 HMS.out.2 ?_)
    have HT7 : BW w (((w2.setCell ⟨B, 5, none⟩ (.int .i64 0)).setCell ⟨B, 6, none⟩ (.int .i64 0)).setCells B 7 M.toList) B { x with of := 0, side := 0, addr := zeros 16 } := by rw [← HM2.out]; exact BW.setA HT5.out HB.out rfl
    generalize ((w2.setCell ⟨B, 5, none⟩ (.int .i64 0)).setCell ⟨B, 6, none⟩ (.int .i64 0)).setCells B 7 M.toList = W7 at *
    clear HTH HMB HMS HM2
    have c0 := HT7.1.kind
    have c23 := HT7.1.bits
    have f23 := VAt.free HT7.1 23
    have HK7 : Hid (x.kind = 15) := HK.out
    rw [show ({ x with of := 0, side := 0, addr := zeros 16 } : Ng).kind = 15 from HK.out] at c0
    have HT8 : Hid (BW w W7 B { x with of := 0, side := 0, addr := zeros 16 }) := HT7
    clear HT5 HT7
    go_upto_region 40 with fail
    have HW := BW.set (z := ({ x with of := 0, side := 0, addr := zeros 16, bits := 0 } : Ng)) HT8.out HB.out 23 (.int .i64 0) rfl
    obtain ⟨Yn, hYn⟩ : ∃ Yn, ({ x with of := 0, side := 0, addr := zeros 16, bits := 0 } : Ng) = Yn := ⟨_, rfl⟩
    have HE : Hid (bareG x = Yn ∧ mayG x = true) := ⟨by rw [← hYn]; unfold bareG; rw [HK.out]; rfl, HM.out⟩
    rw [hYn] at HW
    clear hYn HM HT8
    generalize W7.setCell ⟨B, 23, none⟩ (.int .i64 0) = Wf at *
    have HY : Hid ((Tryz.prog.info? 43).map (·.size) = some Yn.cells.toArray.size ∧ ngZ.cells.toArray.size = Yn.cells.toArray.size ∧ Yn.cells.toArray.all (·.oneCell') = true) := ⟨ng_size _, rfl, ng_all _⟩
    obtain ⟨Y, hY⟩ : ∃ Y, Yn.cells.toArray = Y := ⟨_, rfl⟩
    have HW1 : Hid (VAt Wf B 43 Y ∧ VAt Wf (B + 1) 43 ngZ.cells.toArray ∧ w.grownBy Wf none) := by
     obtain ⟨g1, g2, g3⟩ := HW
     exact ⟨hY ▸ g1, g2, g3⟩
    have HEB1 : Hid (Ending.returned (.tuple #[.agg (bareG x).cells.toArray, .bool (mayG x)]) = .returned (.tuple #[.agg Y, .bool true])) := by
     show _ = _
     rw [HE.out.1, HE.out.2, hY]
    rw [hY] at HY
    clear HW HE HEB HW0 hY
    go_wp2_with (first | refine wpList_load_row rfl 43 (.tmp 1) rfl B rfl 43 Y (0, 0) _ HW1.out.1 Tryz.underlying43 rfl HY.out.1 ?_ | refine wpList_store_row rfl 43 (.tmp 2) (.tmp 102) rfl (B + 1) Y rfl rfl 43 _ HW1.out.2.1 HY.out.1 HY.out.2.1 HY.out.2.2 ?_)
    refine bodyPost_ret (ret_rowT rfl _ _ (B + 1) Y _ rfl (VAt.setRow HW1.out.2.1 _) Tryz.underlying43 rfl HY.out.1) rfl ?_
    exact ⟨HEB1.out.symm, vgrown_setRow HW1.out.2.2 (B + 1) _ (.inr (by have := HB.out; omega))⟩
   ·have t3 : (oo == 3) = false := by simpa using h3
    have HM : Hid (mayG x = sb) := by show mayG x = _; rw [HMG.out, t3]; rfl
    clear HMG h3
    go_wp2_with fail
    refine CB1.mono ?_
    rintro e w1 ⟨rfl, rfl⟩
    clear CB1
    go_wp2_with fail
    refine CB2.mono ?_
    rintro e w2 ⟨rfl, rfl⟩
    clear CB2
    go_wp2_with (refine wpList_load_midG (by rfl) 41 (.tmp 65) rfl B 7 rfl al _ HAD.out Tryz.underlying41 rfl HAZ.out ?_)
    refine HS.out.mono ?_
    rintro e w3 ⟨rfl, K3⟩
    have HW2 : Hid (BW w w3 B x) := BW.kept HW0.out K3
    clear HS HW0 HAD HAZ c0 c1 c2 c3 c4 c5 c6 c23 f1 f2 f3 f4 f5 f6 f23 K3
    have HW0 := HW2
    clear HW2
    obtain ⟨h1, h2, h3⟩ := HW0.out
    have c5 := h1.of
    have c6 := h1.side
    have f5 := VAt.free h1 5
    have f6 := VAt.free h1 6
    clear h1 h2 h3
    obtain ⟨h1, h2, h3⟩ := HW0.out
    have HT5 : Hid (BW w ((w3.setCell ⟨B, 5, none⟩ (.int .i64 0)).setCell ⟨B, 6, none⟩ (.int .i64 0)) B { x with of := 0, side := 0 }) := BW.set (z := ({ x with of := 0, side := 0 } : Ng)) (BW.set (z := ({ x with of := 0 } : Ng)) HW0.out HB.out 5 (.int .i64 0) rfl) HB.out 6 (.int .i64 0) rfl
    clear h1 h2 h3
    have HTH : Hid (((w3.setCell ⟨B, 5, none⟩ (.int .i64 0)).setCell ⟨B, 6, none⟩ (.int .i64 0)).there B 7 M.size) := by unfold Hid; rw [← HM2.out]; exact BW.there HT5.out
    go_upto_region 31 with fail
    go_upto_region 32 with (first | refine wpList_bld rfl 41 _ rfl _ (by kernel_rfl) (.agg M) HMB.out ?_ | refine wpList_store_mid rfl 41 (.tmp 73) (.tmp 72) rfl B 7 M rfl rfl HTH.out HMS.out.1 HMS.out.2 ?_)
    have HT7 : BW w (((w3.setCell ⟨B, 5, none⟩ (.int .i64 0)).setCell ⟨B, 6, none⟩ (.int .i64 0)).setCells B 7 M.toList) B { x with of := 0, side := 0, addr := zeros 16 } := by rw [← HM2.out]; exact BW.setA HT5.out HB.out rfl
    generalize ((w3.setCell ⟨B, 5, none⟩ (.int .i64 0)).setCell ⟨B, 6, none⟩ (.int .i64 0)).setCells B 7 M.toList = W7 at *
    clear HTH HMB HMS HM2
    have c0 := HT7.1.kind
    have c23 := HT7.1.bits
    have f23 := VAt.free HT7.1 23
    have HK7 : Hid (x.kind = 15) := HK.out
    rw [show ({ x with of := 0, side := 0, addr := zeros 16 } : Ng).kind = 15 from HK.out] at c0
    have HT8 : Hid (BW w W7 B { x with of := 0, side := 0, addr := zeros 16 }) := HT7
    clear HT5 HT7
    go_upto_region 40 with fail
    have HW := BW.set (z := ({ x with of := 0, side := 0, addr := zeros 16, bits := 0 } : Ng)) HT8.out HB.out 23 (.int .i64 0) rfl
    obtain ⟨Yn, hYn⟩ : ∃ Yn, ({ x with of := 0, side := 0, addr := zeros 16, bits := 0 } : Ng) = Yn := ⟨_, rfl⟩
    have HE : Hid (bareG x = Yn ∧ mayG x = sb) := ⟨by rw [← hYn]; unfold bareG; rw [HK.out]; rfl, HM.out⟩
    rw [hYn] at HW
    clear hYn HM HT8
    generalize W7.setCell ⟨B, 23, none⟩ (.int .i64 0) = Wf at *
    have HY : Hid ((Tryz.prog.info? 43).map (·.size) = some Yn.cells.toArray.size ∧ ngZ.cells.toArray.size = Yn.cells.toArray.size ∧ Yn.cells.toArray.all (·.oneCell') = true) := ⟨ng_size _, rfl, ng_all _⟩
    obtain ⟨Y, hY⟩ : ∃ Y, Yn.cells.toArray = Y := ⟨_, rfl⟩
    have HW1 : Hid (VAt Wf B 43 Y ∧ VAt Wf (B + 1) 43 ngZ.cells.toArray ∧ w.grownBy Wf none) := by
     obtain ⟨g1, g2, g3⟩ := HW
     exact ⟨hY ▸ g1, g2, g3⟩
    have HEB1 : Hid (Ending.returned (.tuple #[.agg (bareG x).cells.toArray, .bool (mayG x)]) = .returned (.tuple #[.agg Y, .bool sb])) := by
     show _ = _
     rw [HE.out.1, HE.out.2, hY]
    rw [hY] at HY
    clear HW HE HEB HW0 hY
    go_wp2_with (first | refine wpList_load_row rfl 43 (.tmp 1) rfl B rfl 43 Y (0, 0) _ HW1.out.1 Tryz.underlying43 rfl HY.out.1 ?_ | refine wpList_store_row rfl 43 (.tmp 2) (.tmp 102) rfl (B + 1) Y rfl rfl 43 _ HW1.out.2.1 HY.out.1 HY.out.2.1 HY.out.2.2 ?_)
    refine bodyPost_ret (ret_rowT rfl _ _ (B + 1) Y _ rfl (VAt.setRow HW1.out.2.1 _) Tryz.underlying43 rfl HY.out.1) rfl ?_
    exact ⟨HEB1.out.symm, vgrown_setRow HW1.out.2.2 (B + 1) _ (.inr (by have := HB.out; omega))⟩
set_option maxRecDepth 100000 in
set_option maxHeartbeats 16000000 in
theorem bare_d (x : Ng) (w : World) (hc : x.kind = 16 ∨ ¬ (x.kind = 1 ∨ x.kind = 3 ∨ x.kind = 4 ∨ x.kind = 6 ∨ (10 ≤ x.kind ∧ x.kind ≤ 16))) : Calls Tryz.prog 176 #[.agg x.cells.toArray] w fun e w' => e = .returned (.tuple #[.agg (bareG x).cells.toArray, .bool (mayG x)]) ∧ w.grownBy w' none := by
 have HBX := box_ng x
 obtain ⟨h1, h2, h3⟩ := two_ng w x
 obtain ⟨X, hX⟩ : ∃ X, x.cells.toArray = X := ⟨_, rfl⟩
 rw [hX] at HBX ⊢
 go_enter Tryz.func176, Tryz.ntmps176
 go_upto_region 1 with fail
 rw [← hX] at *
 rw [show #[.int .i64 0, .int .i64 0, .int .u32 0, .int .u32 0, .int .i64 0, .int .i64 0, .int .i64 0, .int .u8 0, .int .u8 0, .int .u8 0, .int .u8 0, .int .u8 0, .int .u8 0, .int .u8 0, .int .u8 0, .int .u8 0, .int .u8 0, .int .u8 0, .int .u8 0, .int .u8 0, .int .u8 0, .int .u8 0, .int .u8 0, .int .i64 0] = ngZ.cells.toArray from rfl]
 generalize (w.alloc (.cells x.cells.toArray 43)).alloc (.cells ngZ.cells.toArray 43) = W at *
 obtain ⟨B, hB⟩ : ∃ B, w.heap.size = B := ⟨_, rfl⟩
 rw [hB] at h1 h2 ⊢
 have HB : Hid (w.heap.size ≤ B) := Nat.le_of_eq hB
 have HW0 : Hid (BW w W B x) := ⟨h1, h2, h3⟩
 have c0 := h1.kind
 have c1 := h1.op
 have c2 := h1.n
 have c3 := h1.m
 have c4 := h1.size
 have c5 := h1.of
 have c6 := h1.side
 have c23 := h1.bits
 have f1 := VAt.free h1 1
 have f2 := VAt.free h1 2
 have f3 := VAt.free h1 3
 have f4 := VAt.free h1 4
 have f5 := VAt.free h1 5
 have f6 := VAt.free h1 6
 have f23 := VAt.free h1 23
 obtain ⟨kk, hkk⟩ : ∃ kk, x.kind = kk := ⟨_, rfl⟩
 have HK : Hid (x.kind = kk) := hkk
 rw [hkk] at c0 hc
 clear HBX hX X h1 h2 h3 hB hkk
 have HEB : Hid (∀ (y : Ng) (bb : Bool), bareG x = y → mayG x = bb → Ending.returned (.tuple #[.agg (bareG x).cells.toArray, .bool (mayG x)]) = .returned (.tuple #[.agg y.cells.toArray, .bool bb])) := fun y bb h h' => by rw [h, h']
 rcases hc with rfl | hn
 ·have CB2 := between_any x.side 0 2 W
  have HMG : Hid (mayG x = ((x.of == 0 || inG x.of 4 5) && inG x.side 0 2)) := by show mayG x = _; unfold mayG; rw [HK.out]; rfl
  obtain ⟨oo, hoo⟩ : ∃ oo, x.of = oo := ⟨_, rfl⟩
  obtain ⟨ss, hss⟩ : ∃ ss, x.side = ss := ⟨_, rfl⟩
  obtain ⟨nn, hnn⟩ : ∃ nn, x.n = nn := ⟨_, rfl⟩
  rw [hoo] at c5
  rw [hss] at CB2 c6
  rw [hoo, hss] at HMG
  obtain ⟨b2, hb2⟩ : ∃ b2, inG ss 0 2 = b2 := ⟨_, rfl⟩
  rw [hb2] at CB2 HMG
  clear hoo hss hb2 hnn
  have ho4 : oo = 0 ∨ oo = 4 ∨ oo = 5 ∨ ¬ (oo = 0 ∨ oo = 4 ∨ oo = 5) := by omega
  rcases ho4 with rfl | rfl | rfl | hno
  ·have HM : Hid (mayG x = b2) := by show mayG x = _; rw [HMG.out]; cases b2 <;> rfl
   clear HMG
   go_wp2_with fail
   refine CB2.mono ?_
   rintro e w1 ⟨rfl, rfl⟩
   clear CB2
   go_upto_region 40 with fail
   have HW := (BW.set (z := ({ x with of := 0, side := 0, n := 0, m := 0 } : Ng)) (BW.set (z := ({ x with of := 0, side := 0, n := 0 } : Ng)) (BW.set (z := ({ x with of := 0, side := 0 } : Ng)) (BW.set (z := ({ x with of := 0 } : Ng)) HW0.out HB.out 5 (.int .i64 0) rfl) HB.out 6 (.int .i64 0) rfl) HB.out 2 (.int .u32 0) rfl) HB.out 3 (.int .u32 0) rfl)
   obtain ⟨Yn, hYn⟩ : ∃ Yn, ({ x with of := 0, side := 0, n := 0, m := 0 } : Ng) = Yn := ⟨_, rfl⟩
   have HE : Hid (bareG x = Yn ∧ mayG x = b2) := ⟨by rw [← hYn]; unfold bareG; rw [HK.out]; rfl, HM.out⟩
   rw [hYn] at HW
   clear hYn HM
   generalize (((w1.setCell ⟨B, 5, none⟩ (.int .i64 0)).setCell ⟨B, 6, none⟩ (.int .i64 0)).setCell ⟨B, 2, none⟩ (.int .u32 0)).setCell ⟨B, 3, none⟩ (.int .u32 0) = Wf at *
   have HY : Hid ((Tryz.prog.info? 43).map (·.size) = some Yn.cells.toArray.size ∧ ngZ.cells.toArray.size = Yn.cells.toArray.size ∧ Yn.cells.toArray.all (·.oneCell') = true) := ⟨ng_size _, rfl, ng_all _⟩
   obtain ⟨Y, hY⟩ : ∃ Y, Yn.cells.toArray = Y := ⟨_, rfl⟩
   have HW1 : Hid (VAt Wf B 43 Y ∧ VAt Wf (B + 1) 43 ngZ.cells.toArray ∧ w.grownBy Wf none) := by
    obtain ⟨g1, g2, g3⟩ := HW
    exact ⟨hY ▸ g1, g2, g3⟩
   have HEB1 : Hid (Ending.returned (.tuple #[.agg (bareG x).cells.toArray, .bool (mayG x)]) = .returned (.tuple #[.agg Y, .bool b2])) := by
    show _ = _
    rw [HE.out.1, HE.out.2, hY]
   rw [hY] at HY
   clear HW HE HEB HW0 hY
   go_wp2_with (first | refine wpList_load_row rfl 43 (.tmp 1) rfl B rfl 43 Y (0, 0) _ HW1.out.1 Tryz.underlying43 rfl HY.out.1 ?_ | refine wpList_store_row rfl 43 (.tmp 2) (.tmp 102) rfl (B + 1) Y rfl rfl 43 _ HW1.out.2.1 HY.out.1 HY.out.2.1 HY.out.2.2 ?_)
   refine bodyPost_ret (ret_rowT rfl _ _ (B + 1) Y _ rfl (VAt.setRow HW1.out.2.1 _) Tryz.underlying43 rfl HY.out.1) rfl ?_
   exact ⟨HEB1.out.symm, vgrown_setRow HW1.out.2.2 (B + 1) _ (.inr (by have := HB.out; omega))⟩
  ·have HM : Hid (mayG x = b2) := by show mayG x = _; rw [HMG.out]; cases b2 <;> rfl
   clear HMG
   go_wp2_with fail
   refine CB2.mono ?_
   rintro e w1 ⟨rfl, rfl⟩
   clear CB2
   go_upto_region 40 with fail
   have HW := (BW.set (z := ({ x with of := 0, side := 0, n := 0, m := 0 } : Ng)) (BW.set (z := ({ x with of := 0, side := 0, n := 0 } : Ng)) (BW.set (z := ({ x with of := 0, side := 0 } : Ng)) (BW.set (z := ({ x with of := 0 } : Ng)) HW0.out HB.out 5 (.int .i64 0) rfl) HB.out 6 (.int .i64 0) rfl) HB.out 2 (.int .u32 0) rfl) HB.out 3 (.int .u32 0) rfl)
   obtain ⟨Yn, hYn⟩ : ∃ Yn, ({ x with of := 0, side := 0, n := 0, m := 0 } : Ng) = Yn := ⟨_, rfl⟩
   have HE : Hid (bareG x = Yn ∧ mayG x = b2) := ⟨by rw [← hYn]; unfold bareG; rw [HK.out]; rfl, HM.out⟩
   rw [hYn] at HW
   clear hYn HM
   generalize (((w1.setCell ⟨B, 5, none⟩ (.int .i64 0)).setCell ⟨B, 6, none⟩ (.int .i64 0)).setCell ⟨B, 2, none⟩ (.int .u32 0)).setCell ⟨B, 3, none⟩ (.int .u32 0) = Wf at *
   have HY : Hid ((Tryz.prog.info? 43).map (·.size) = some Yn.cells.toArray.size ∧ ngZ.cells.toArray.size = Yn.cells.toArray.size ∧ Yn.cells.toArray.all (·.oneCell') = true) := ⟨ng_size _, rfl, ng_all _⟩
   obtain ⟨Y, hY⟩ : ∃ Y, Yn.cells.toArray = Y := ⟨_, rfl⟩
   have HW1 : Hid (VAt Wf B 43 Y ∧ VAt Wf (B + 1) 43 ngZ.cells.toArray ∧ w.grownBy Wf none) := by
    obtain ⟨g1, g2, g3⟩ := HW
    exact ⟨hY ▸ g1, g2, g3⟩
   have HEB1 : Hid (Ending.returned (.tuple #[.agg (bareG x).cells.toArray, .bool (mayG x)]) = .returned (.tuple #[.agg Y, .bool b2])) := by
    show _ = _
    rw [HE.out.1, HE.out.2, hY]
   rw [hY] at HY
   clear HW HE HEB HW0 hY
   go_wp2_with (first | refine wpList_load_row rfl 43 (.tmp 1) rfl B rfl 43 Y (0, 0) _ HW1.out.1 Tryz.underlying43 rfl HY.out.1 ?_ | refine wpList_store_row rfl 43 (.tmp 2) (.tmp 102) rfl (B + 1) Y rfl rfl 43 _ HW1.out.2.1 HY.out.1 HY.out.2.1 HY.out.2.2 ?_)
   refine bodyPost_ret (ret_rowT rfl _ _ (B + 1) Y _ rfl (VAt.setRow HW1.out.2.1 _) Tryz.underlying43 rfl HY.out.1) rfl ?_
   exact ⟨HEB1.out.symm, vgrown_setRow HW1.out.2.2 (B + 1) _ (.inr (by have := HB.out; omega))⟩
  ·have HM : Hid (mayG x = b2) := by show mayG x = _; rw [HMG.out]; cases b2 <;> rfl
   clear HMG
   go_wp2_with fail
   refine CB2.mono ?_
   rintro e w1 ⟨rfl, rfl⟩
   clear CB2
   go_upto_region 40 with fail
   have HW := (BW.set (z := ({ x with of := 0, side := 0, n := 0, m := 0 } : Ng)) (BW.set (z := ({ x with of := 0, side := 0, n := 0 } : Ng)) (BW.set (z := ({ x with of := 0, side := 0 } : Ng)) (BW.set (z := ({ x with of := 0 } : Ng)) HW0.out HB.out 5 (.int .i64 0) rfl) HB.out 6 (.int .i64 0) rfl) HB.out 2 (.int .u32 0) rfl) HB.out 3 (.int .u32 0) rfl)
   obtain ⟨Yn, hYn⟩ : ∃ Yn, ({ x with of := 0, side := 0, n := 0, m := 0 } : Ng) = Yn := ⟨_, rfl⟩
   have HE : Hid (bareG x = Yn ∧ mayG x = b2) := ⟨by rw [← hYn]; unfold bareG; rw [HK.out]; rfl, HM.out⟩
   rw [hYn] at HW
   clear hYn HM
   generalize (((w1.setCell ⟨B, 5, none⟩ (.int .i64 0)).setCell ⟨B, 6, none⟩ (.int .i64 0)).setCell ⟨B, 2, none⟩ (.int .u32 0)).setCell ⟨B, 3, none⟩ (.int .u32 0) = Wf at *
   have HY : Hid ((Tryz.prog.info? 43).map (·.size) = some Yn.cells.toArray.size ∧ ngZ.cells.toArray.size = Yn.cells.toArray.size ∧ Yn.cells.toArray.all (·.oneCell') = true) := ⟨ng_size _, rfl, ng_all _⟩
   obtain ⟨Y, hY⟩ : ∃ Y, Yn.cells.toArray = Y := ⟨_, rfl⟩
   have HW1 : Hid (VAt Wf B 43 Y ∧ VAt Wf (B + 1) 43 ngZ.cells.toArray ∧ w.grownBy Wf none) := by
    obtain ⟨g1, g2, g3⟩ := HW
    exact ⟨hY ▸ g1, g2, g3⟩
   have HEB1 : Hid (Ending.returned (.tuple #[.agg (bareG x).cells.toArray, .bool (mayG x)]) = .returned (.tuple #[.agg Y, .bool b2])) := by
    show _ = _
    rw [HE.out.1, HE.out.2, hY]
   rw [hY] at HY
   clear HW HE HEB HW0 hY
   go_wp2_with (first | refine wpList_load_row rfl 43 (.tmp 1) rfl B rfl 43 Y (0, 0) _ HW1.out.1 Tryz.underlying43 rfl HY.out.1 ?_ | refine wpList_store_row rfl 43 (.tmp 2) (.tmp 102) rfl (B + 1) Y rfl rfl 43 _ HW1.out.2.1 HY.out.1 HY.out.2.1 HY.out.2.2 ?_)
   refine bodyPost_ret (ret_rowT rfl _ _ (B + 1) Y _ rfl (VAt.setRow HW1.out.2.1 _) Tryz.underlying43 rfl HY.out.1) rfl ?_
   exact ⟨HEB1.out.symm, vgrown_setRow HW1.out.2.2 (B + 1) _ (.inr (by have := HB.out; omega))⟩
  ·have u0 : (oo == 0) = false := by rw [beq_eq_false_iff_ne]; omega
   have u4 : (oo == 4) = false := by rw [beq_eq_false_iff_ne]; omega
   have u5 : (oo == 5) = false := by rw [beq_eq_false_iff_ne]; omega
   have HM : Hid (mayG x = false) := by
    show mayG x = _
    rw [HMG.out, u0, show inG oo 4 5 = false by unfold inG; rw [← Bool.decide_and, decide_eq_false_iff_not]; omega]
    rfl
   clear HMG CB2 hno
   go_upto_region 40 with fail
   have HW := (BW.set (z := ({ x with of := 0, side := 0, n := 0, m := 0 } : Ng)) (BW.set (z := ({ x with of := 0, side := 0, n := 0 } : Ng)) (BW.set (z := ({ x with of := 0, side := 0 } : Ng)) (BW.set (z := ({ x with of := 0 } : Ng)) HW0.out HB.out 5 (.int .i64 0) rfl) HB.out 6 (.int .i64 0) rfl) HB.out 2 (.int .u32 0) rfl) HB.out 3 (.int .u32 0) rfl)
   obtain ⟨Yn, hYn⟩ : ∃ Yn, ({ x with of := 0, side := 0, n := 0, m := 0 } : Ng) = Yn := ⟨_, rfl⟩
   have HE : Hid (bareG x = Yn ∧ mayG x = false) := ⟨by rw [← hYn]; unfold bareG; rw [HK.out]; rfl, HM.out⟩
   rw [hYn] at HW
   clear hYn HM
   generalize (((W.setCell ⟨B, 5, none⟩ (.int .i64 0)).setCell ⟨B, 6, none⟩ (.int .i64 0)).setCell ⟨B, 2, none⟩ (.int .u32 0)).setCell ⟨B, 3, none⟩ (.int .u32 0) = Wf at *
   have HY : Hid ((Tryz.prog.info? 43).map (·.size) = some Yn.cells.toArray.size ∧ ngZ.cells.toArray.size = Yn.cells.toArray.size ∧ Yn.cells.toArray.all (·.oneCell') = true) := ⟨ng_size _, rfl, ng_all _⟩
   obtain ⟨Y, hY⟩ : ∃ Y, Yn.cells.toArray = Y := ⟨_, rfl⟩
   have HW1 : Hid (VAt Wf B 43 Y ∧ VAt Wf (B + 1) 43 ngZ.cells.toArray ∧ w.grownBy Wf none) := by
    obtain ⟨g1, g2, g3⟩ := HW
    exact ⟨hY ▸ g1, g2, g3⟩
   have HEB1 : Hid (Ending.returned (.tuple #[.agg (bareG x).cells.toArray, .bool (mayG x)]) = .returned (.tuple #[.agg Y, .bool false])) := by
    show _ = _
    rw [HE.out.1, HE.out.2, hY]
   rw [hY] at HY
   clear HW HE HEB HW0 hY
   go_wp2_with (first | refine wpList_load_row rfl 43 (.tmp 1) rfl B rfl 43 Y (0, 0) _ HW1.out.1 Tryz.underlying43 rfl HY.out.1 ?_ | refine wpList_store_row rfl 43 (.tmp 2) (.tmp 102) rfl (B + 1) Y rfl rfl 43 _ HW1.out.2.1 HY.out.1 HY.out.2.1 HY.out.2.2 ?_)
   refine bodyPost_ret (ret_rowT rfl _ _ (B + 1) Y _ rfl (VAt.setRow HW1.out.2.1 _) Tryz.underlying43 rfl HY.out.1) rfl ?_
   exact ⟨HEB1.out.symm, vgrown_setRow HW1.out.2.2 (B + 1) _ (.inr (by have := HB.out; omega))⟩
 ·have t1 : (kk == 1) = false := by rw [beq_eq_false_iff_ne]; omega
  have t3 : (kk == 3) = false := by rw [beq_eq_false_iff_ne]; omega
  have t4 : (kk == 4) = false := by rw [beq_eq_false_iff_ne]; omega
  have t6 : (kk == 6) = false := by rw [beq_eq_false_iff_ne]; omega
  have t10 : (kk == 10) = false := by rw [beq_eq_false_iff_ne]; omega
  have t11 : (kk == 11) = false := by rw [beq_eq_false_iff_ne]; omega
  have t12 : (kk == 12) = false := by rw [beq_eq_false_iff_ne]; omega
  have t13 : (kk == 13) = false := by rw [beq_eq_false_iff_ne]; omega
  have t14 : (kk == 14) = false := by rw [beq_eq_false_iff_ne]; omega
  have t15 : (kk == 15) = false := by rw [beq_eq_false_iff_ne]; omega
  have t16 : (kk == 16) = false := by rw [beq_eq_false_iff_ne]; omega
  have HM : Hid (mayG x = true) := by
   show mayG x = _
   unfold mayG
   rw [HK.out]
   repeat rw [if_neg (by omega)]
  have HE : Hid (bareG x = x ∧ mayG x = true) := by
   refine ⟨?_, HM.out⟩
   unfold bareG
   rw [HK.out]
   repeat rw [if_neg (by omega)]
  clear hn HM
  go_upto_region 40 with fail
  have HW := HW0.out
  generalize W = Wf at *
  have HY : Hid ((Tryz.prog.info? 43).map (·.size) = some x.cells.toArray.size ∧ ngZ.cells.toArray.size = x.cells.toArray.size ∧ x.cells.toArray.all (·.oneCell') = true) := ⟨ng_size _, rfl, ng_all _⟩
  obtain ⟨Y, hY⟩ : ∃ Y, x.cells.toArray = Y := ⟨_, rfl⟩
  have HW1 : Hid (VAt Wf B 43 Y ∧ VAt Wf (B + 1) 43 ngZ.cells.toArray ∧ w.grownBy Wf none) := by
   obtain ⟨g1, g2, g3⟩ := HW
   exact ⟨hY ▸ g1, g2, g3⟩
  have HEB1 : Hid (Ending.returned (.tuple #[.agg (bareG x).cells.toArray, .bool (mayG x)]) = .returned (.tuple #[.agg Y, .bool true])) := by
   show _ = _
   rw [HE.out.1, HE.out.2, hY]
  rw [hY] at HY
  clear HW HE HEB HW0 hY
  go_wp2_with (first | refine wpList_load_row rfl 43 (.tmp 1) rfl B rfl 43 Y (0, 0) _ HW1.out.1 Tryz.underlying43 rfl HY.out.1 ?_ | refine wpList_store_row rfl 43 (.tmp 2) (.tmp 102) rfl (B + 1) Y rfl rfl 43 _ HW1.out.2.1 HY.out.1 HY.out.2.1 HY.out.2.2 ?_)
  refine bodyPost_ret (ret_rowT rfl _ _ (B + 1) Y _ rfl (VAt.setRow HW1.out.2.1 _) Tryz.underlying43 rfl HY.out.1) rfl ?_
  exact ⟨HEB1.out.symm, vgrown_setRow HW1.out.2.2 (B + 1) _ (.inr (by have := HB.out; omega))⟩

end Go.Proofs.YtklipelnjgpnjaaGreatDoor
