import Derived.Test.YtlfmddjppejmaaaGreatDoorqRfQ
set_option maxHeartbeats 64000000
set_option maxRecDepth 100000
namespace Go.Proofs.YtlfmddjppejmaaaGreatDoor
open Go.RowKit
theorem a9m (x : List UInt8) (w : World) : Calls Tryz.prog 46 #[str x] w fun e w' => ∃ n : Nd, e = .returned (.tuple #[.agg n.cells.toArray, .bool (l0 4 x).isSome]) ∧ (∀ b, l0 4 x = some b → n = b) ∧ w.grownBy w' none := by
 by_cases h0 : x = [61]
 ·subst h0; exact (a9f w).mono fun _ _ ⟨p, q⟩ => ⟨_, p, fun b hb => by cases hb; rfl, q⟩
 by_cases h1 : x = [61, 61]
 ·subst h1; exact (a9g w).mono fun _ _ ⟨p, q⟩ => ⟨_, p, fun b hb => by cases hb; rfl, q⟩
 by_cases h2 : x = [33, 61]
 ·subst h2; exact (a9h w).mono fun _ _ ⟨p, q⟩ => ⟨_, p, fun b hb => by cases hb; rfl, q⟩
 by_cases h3 : x = [60]
 ·subst h3; exact (a9i w).mono fun _ _ ⟨p, q⟩ => ⟨_, p, fun b hb => by cases hb; rfl, q⟩
 by_cases h4 : x = [60, 61]
 ·subst h4; exact (a9j w).mono fun _ _ ⟨p, q⟩ => ⟨_, p, fun b hb => by cases hb; rfl, q⟩
 by_cases h5 : x = [62]
 ·subst h5; exact (a9k w).mono fun _ _ ⟨p, q⟩ => ⟨_, p, fun b hb => by cases hb; rfl, q⟩
 by_cases h6 : x = [62, 61]
 ·subst h6; exact (a9l w).mono fun _ _ ⟨p, q⟩ => ⟨_, p, fun b hb => by cases hb; rfl, q⟩
 have hn : l0 4 x = none := by
  show (a1Z x).map _ = none
  unfold a1Z
  rw [if_neg (by simp [h0, h1]), if_neg h2, if_neg h3, if_neg h4, if_neg h5, if_neg h6]
  rfl
 rw [hn]
 exact (a9n w x (by simpa using h0) (by simpa using h1) (by simpa using h2) (by simpa using h3) (by simpa using h4) (by simpa using h5) (by simpa using h6)).mono fun _ _ ⟨p, q⟩ => ⟨_, p, fun b hb => (by cases hb), q⟩
theorem a68 (w : World) : Calls Tryz.prog 26 #[.int .i64 5, str [124]] w fun e w' => e = .returned (.tuple #[.agg (opN 4 7).cells.toArray, .bool true]) ∧ w.grownBy w' none := by
 have HN := BN.new w (ndK 4)
 have HB11 := t8 4 (by decide)
 go_enter Tryz.func26, Tryz.ntmps26
 go_upto_region 1 with fail
 rw [show #[.int .i64 0, .int .i64 0, .int .u32 0, .int .u32 0, .int .i64 0, .int .i64 0, .int .i64 0, .int .u8 0, .int .u8 0, .int .u8 0, .int .u8 0, .int .u8 0, .int .u8 0, .int .u8 0, .int .u8 0, .int .u8 0, .int .u8 0, .int .u8 0, .int .u8 0, .int .u8 0, .int .u8 0, .int .u8 0, .int .u8 0, .int .i64 0] = nd0.cells.toArray from rfl]
 have HS : Hid ((Tryz.prog.info? 54).map (·.size) = some (ndK 4).cells.toArray.size) := g8 _
 generalize w.alloc (.cells nd0.cells.toArray 54) = w1 at *
 go_upto_region 2 with (first | refine o6 rfl 54 _ rfl _ (by kernel_rfl) (.agg (ndK 4).cells.toArray) HB11 ?_ | refine wpList_store_row rfl 54 (.tmp 6) (.tmp 7) rfl w1.heap.size (ndK 4).cells.toArray rfl rfl 54 _ (VAt.alloc w1 _ _) HS.out rfl (j3 _) ?_)
 rw [World.setRow_alloc_new]
 generalize w1.alloc (.cells (ndK 4).cells.toArray 54) = W at *
 generalize w1.heap.size = B at *
 obtain ⟨H, hH⟩ : ∃ H, w.heap.size = H := ⟨_, rfl⟩
 have c1 : W.cell? ⟨B, 1, none⟩ = some (.int .i64 0) := VAt.cell HN.1 1
 have f1 := VAt.free HN.1 1
 have HX : Hid (BN w W B (opN 4 0)) := HN
 rw [hH]
 have HH : Hid (w.heap.size = H) := hH
 clear HN hH HS HB11
 go_upto_region 11 with fail
 have HX0 : Hid (BN w (W.setCell ⟨B, 1, none⟩ (.int .i64 7)) B (opN 4 7)) := HX.out.set (z := opN 4 7) 1 (.int .i64 7) rfl
 generalize W.setCell ⟨B, 1, none⟩ (.int .i64 7) = W0 at *
 clear c1 f1
 obtain ⟨Y, hY⟩ : ∃ Y, (opN 4 7).cells.toArray = Y := ⟨_, rfl⟩
 obtain ⟨Z, hZ⟩ : ∃ Z, nd0.cells.toArray = Z := ⟨_, rfl⟩
 have HY : Hid ((Tryz.prog.info? 54).map (·.size) = some Y.size ∧ Z.size = Y.size ∧ Y.all (·.oneCell') = true) := by rw [← hY, ← hZ]; exact ⟨g8 _, rfl, j3 _⟩
 have HV : Hid (VAt W0 B 54 Y ∧ VAt W0 H 54 Z ∧ w.grownBy W0 none) := by rw [← hY, ← hZ, ← HH.out]; exact ⟨HX0.out.1, HX0.out.2.1, HX0.out.2.2.1⟩
 have HYE : Hid ((opN 4 7).cells.toArray = Y) := hY
 have HE : Hid (w.heap.size ≤ H ∧ H ≠ B) := by
  have h1 := HH.out
  have h2 := HX0.out.2.2.2
  exact ⟨by omega, by omega⟩
 clear hY hZ HX HX0 HH
 go_wp2_with (first | refine wpList_load_row rfl 54 (.tmp 6) rfl B rfl 54 Y (0, 0) _ HV.out.1 Tryz.underlying54 rfl HY.out.1 ?_ | refine wpList_store_row rfl 54 (.tmp 4) (.tmp 36) rfl H Y rfl rfl 54 Z HV.out.2.1 HY.out.1 HY.out.2.1 HY.out.2.2 ?_)
 refine bodyPost_ret (l8 rfl _ _ H Y _ rfl (VAt.setRow HV.out.2.1 _) Tryz.underlying54 rfl HY.out.1) rfl ?_
 exact ⟨by rw [HYE.out]; rfl, j7 HV.out.2.2 H _ (.inr HE.out.1)⟩
theorem a69 (w : World) (x : List UInt8) (e0 : (x == [124]) = false) : Calls Tryz.prog 26 #[.int .i64 5, str x] w fun e w' => e = .returned (.tuple #[.agg (opN 4 7).cells.toArray, .bool false]) ∧ w.grownBy w' none := by
 have HN := BN.new w (ndK 4)
 have HB11 := t8 4 (by decide)
 go_enter Tryz.func26, Tryz.ntmps26
 go_upto_region 1 with fail
 rw [show #[.int .i64 0, .int .i64 0, .int .u32 0, .int .u32 0, .int .i64 0, .int .i64 0, .int .i64 0, .int .u8 0, .int .u8 0, .int .u8 0, .int .u8 0, .int .u8 0, .int .u8 0, .int .u8 0, .int .u8 0, .int .u8 0, .int .u8 0, .int .u8 0, .int .u8 0, .int .u8 0, .int .u8 0, .int .u8 0, .int .u8 0, .int .i64 0] = nd0.cells.toArray from rfl]
 have HS : Hid ((Tryz.prog.info? 54).map (·.size) = some (ndK 4).cells.toArray.size) := g8 _
 generalize w.alloc (.cells nd0.cells.toArray 54) = w1 at *
 go_upto_region 2 with (first | refine o6 rfl 54 _ rfl _ (by kernel_rfl) (.agg (ndK 4).cells.toArray) HB11 ?_ | refine wpList_store_row rfl 54 (.tmp 6) (.tmp 7) rfl w1.heap.size (ndK 4).cells.toArray rfl rfl 54 _ (VAt.alloc w1 _ _) HS.out rfl (j3 _) ?_)
 rw [World.setRow_alloc_new]
 generalize w1.alloc (.cells (ndK 4).cells.toArray 54) = W at *
 generalize w1.heap.size = B at *
 obtain ⟨H, hH⟩ : ∃ H, w.heap.size = H := ⟨_, rfl⟩
 have c1 : W.cell? ⟨B, 1, none⟩ = some (.int .i64 0) := VAt.cell HN.1 1
 have f1 := VAt.free HN.1 1
 have HX : Hid (BN w W B (opN 4 0)) := HN
 rw [hH]
 have HH : Hid (w.heap.size = H) := hH
 clear HN hH HS HB11
 go_upto_region 11 with fail
 have HX0 : Hid (BN w (W.setCell ⟨B, 1, none⟩ (.int .i64 7)) B (opN 4 7)) := HX.out.set (z := opN 4 7) 1 (.int .i64 7) rfl
 generalize W.setCell ⟨B, 1, none⟩ (.int .i64 7) = W0 at *
 clear c1 f1
 obtain ⟨Y, hY⟩ : ∃ Y, (opN 4 7).cells.toArray = Y := ⟨_, rfl⟩
 obtain ⟨Z, hZ⟩ : ∃ Z, nd0.cells.toArray = Z := ⟨_, rfl⟩
 have HY : Hid ((Tryz.prog.info? 54).map (·.size) = some Y.size ∧ Z.size = Y.size ∧ Y.all (·.oneCell') = true) := by rw [← hY, ← hZ]; exact ⟨g8 _, rfl, j3 _⟩
 have HV : Hid (VAt W0 B 54 Y ∧ VAt W0 H 54 Z ∧ w.grownBy W0 none) := by rw [← hY, ← hZ, ← HH.out]; exact ⟨HX0.out.1, HX0.out.2.1, HX0.out.2.2.1⟩
 have HYE : Hid ((opN 4 7).cells.toArray = Y) := hY
 have HE : Hid (w.heap.size ≤ H ∧ H ≠ B) := by
  have h1 := HH.out
  have h2 := HX0.out.2.2.2
  exact ⟨by omega, by omega⟩
 clear hY hZ HX HX0 HH
 go_wp2_with (first | refine wpList_load_row rfl 54 (.tmp 6) rfl B rfl 54 Y (0, 0) _ HV.out.1 Tryz.underlying54 rfl HY.out.1 ?_ | refine wpList_store_row rfl 54 (.tmp 4) (.tmp 36) rfl H Y rfl rfl 54 Z HV.out.2.1 HY.out.1 HY.out.2.1 HY.out.2.2 ?_)
 refine bodyPost_ret (l8 rfl _ _ H Y _ rfl (VAt.setRow HV.out.2.1 _) Tryz.underlying54 rfl HY.out.1) rfl ?_
 exact ⟨by rw [HYE.out]; rfl, j7 HV.out.2.2 H _ (.inr HE.out.1)⟩
theorem a6b (w : World) : Calls Tryz.prog 26 #[.int .i64 6, str [94]] w fun e w' => e = .returned (.tuple #[.agg (opN 4 8).cells.toArray, .bool true]) ∧ w.grownBy w' none := by
 have HN := BN.new w (ndK 4)
 have HB11 := t8 4 (by decide)
 go_enter Tryz.func26, Tryz.ntmps26
 go_upto_region 1 with fail
 rw [show #[.int .i64 0, .int .i64 0, .int .u32 0, .int .u32 0, .int .i64 0, .int .i64 0, .int .i64 0, .int .u8 0, .int .u8 0, .int .u8 0, .int .u8 0, .int .u8 0, .int .u8 0, .int .u8 0, .int .u8 0, .int .u8 0, .int .u8 0, .int .u8 0, .int .u8 0, .int .u8 0, .int .u8 0, .int .u8 0, .int .u8 0, .int .i64 0] = nd0.cells.toArray from rfl]
 have HS : Hid ((Tryz.prog.info? 54).map (·.size) = some (ndK 4).cells.toArray.size) := g8 _
 generalize w.alloc (.cells nd0.cells.toArray 54) = w1 at *
 go_upto_region 2 with (first | refine o6 rfl 54 _ rfl _ (by kernel_rfl) (.agg (ndK 4).cells.toArray) HB11 ?_ | refine wpList_store_row rfl 54 (.tmp 6) (.tmp 7) rfl w1.heap.size (ndK 4).cells.toArray rfl rfl 54 _ (VAt.alloc w1 _ _) HS.out rfl (j3 _) ?_)
 rw [World.setRow_alloc_new]
 generalize w1.alloc (.cells (ndK 4).cells.toArray 54) = W at *
 generalize w1.heap.size = B at *
 obtain ⟨H, hH⟩ : ∃ H, w.heap.size = H := ⟨_, rfl⟩
 have c1 : W.cell? ⟨B, 1, none⟩ = some (.int .i64 0) := VAt.cell HN.1 1
 have f1 := VAt.free HN.1 1
 have HX : Hid (BN w W B (opN 4 0)) := HN
 rw [hH]
 have HH : Hid (w.heap.size = H) := hH
 clear HN hH HS HB11
 go_upto_region 14 with fail
 have HX0 : Hid (BN w (W.setCell ⟨B, 1, none⟩ (.int .i64 8)) B (opN 4 8)) := HX.out.set (z := opN 4 8) 1 (.int .i64 8) rfl
 generalize W.setCell ⟨B, 1, none⟩ (.int .i64 8) = W0 at *
 clear c1 f1
 obtain ⟨Y, hY⟩ : ∃ Y, (opN 4 8).cells.toArray = Y := ⟨_, rfl⟩
 obtain ⟨Z, hZ⟩ : ∃ Z, nd0.cells.toArray = Z := ⟨_, rfl⟩
 have HY : Hid ((Tryz.prog.info? 54).map (·.size) = some Y.size ∧ Z.size = Y.size ∧ Y.all (·.oneCell') = true) := by rw [← hY, ← hZ]; exact ⟨g8 _, rfl, j3 _⟩
 have HV : Hid (VAt W0 B 54 Y ∧ VAt W0 H 54 Z ∧ w.grownBy W0 none) := by rw [← hY, ← hZ, ← HH.out]; exact ⟨HX0.out.1, HX0.out.2.1, HX0.out.2.2.1⟩
 have HYE : Hid ((opN 4 8).cells.toArray = Y) := hY
 have HE : Hid (w.heap.size ≤ H ∧ H ≠ B) := by
  have h1 := HH.out
  have h2 := HX0.out.2.2.2
  exact ⟨by omega, by omega⟩
 clear hY hZ HX HX0 HH
 go_wp2_with (first | refine wpList_load_row rfl 54 (.tmp 6) rfl B rfl 54 Y (0, 0) _ HV.out.1 Tryz.underlying54 rfl HY.out.1 ?_ | refine wpList_store_row rfl 54 (.tmp 4) (.tmp 42) rfl H Y rfl rfl 54 Z HV.out.2.1 HY.out.1 HY.out.2.1 HY.out.2.2 ?_)
 refine bodyPost_ret (l8 rfl _ _ H Y _ rfl (VAt.setRow HV.out.2.1 _) Tryz.underlying54 rfl HY.out.1) rfl ?_
 exact ⟨by rw [HYE.out]; rfl, j7 HV.out.2.2 H _ (.inr HE.out.1)⟩
theorem a6c (w : World) (x : List UInt8) (e0 : (x == [94]) = false) : Calls Tryz.prog 26 #[.int .i64 6, str x] w fun e w' => e = .returned (.tuple #[.agg (opN 4 8).cells.toArray, .bool false]) ∧ w.grownBy w' none := by
 have HN := BN.new w (ndK 4)
 have HB11 := t8 4 (by decide)
 go_enter Tryz.func26, Tryz.ntmps26
 go_upto_region 1 with fail
 rw [show #[.int .i64 0, .int .i64 0, .int .u32 0, .int .u32 0, .int .i64 0, .int .i64 0, .int .i64 0, .int .u8 0, .int .u8 0, .int .u8 0, .int .u8 0, .int .u8 0, .int .u8 0, .int .u8 0, .int .u8 0, .int .u8 0, .int .u8 0, .int .u8 0, .int .u8 0, .int .u8 0, .int .u8 0, .int .u8 0, .int .u8 0, .int .i64 0] = nd0.cells.toArray from rfl]
 have HS : Hid ((Tryz.prog.info? 54).map (·.size) = some (ndK 4).cells.toArray.size) := g8 _
 generalize w.alloc (.cells nd0.cells.toArray 54) = w1 at *
 go_upto_region 2 with (first | refine o6 rfl 54 _ rfl _ (by kernel_rfl) (.agg (ndK 4).cells.toArray) HB11 ?_ | refine wpList_store_row rfl 54 (.tmp 6) (.tmp 7) rfl w1.heap.size (ndK 4).cells.toArray rfl rfl 54 _ (VAt.alloc w1 _ _) HS.out rfl (j3 _) ?_)
 rw [World.setRow_alloc_new]
 generalize w1.alloc (.cells (ndK 4).cells.toArray 54) = W at *
 generalize w1.heap.size = B at *
 obtain ⟨H, hH⟩ : ∃ H, w.heap.size = H := ⟨_, rfl⟩
 have c1 : W.cell? ⟨B, 1, none⟩ = some (.int .i64 0) := VAt.cell HN.1 1
 have f1 := VAt.free HN.1 1
 have HX : Hid (BN w W B (opN 4 0)) := HN
 rw [hH]
 have HH : Hid (w.heap.size = H) := hH
 clear HN hH HS HB11
 go_upto_region 14 with fail
 have HX0 : Hid (BN w (W.setCell ⟨B, 1, none⟩ (.int .i64 8)) B (opN 4 8)) := HX.out.set (z := opN 4 8) 1 (.int .i64 8) rfl
 generalize W.setCell ⟨B, 1, none⟩ (.int .i64 8) = W0 at *
 clear c1 f1
 obtain ⟨Y, hY⟩ : ∃ Y, (opN 4 8).cells.toArray = Y := ⟨_, rfl⟩
 obtain ⟨Z, hZ⟩ : ∃ Z, nd0.cells.toArray = Z := ⟨_, rfl⟩
 have HY : Hid ((Tryz.prog.info? 54).map (·.size) = some Y.size ∧ Z.size = Y.size ∧ Y.all (·.oneCell') = true) := by rw [← hY, ← hZ]; exact ⟨g8 _, rfl, j3 _⟩
 have HV : Hid (VAt W0 B 54 Y ∧ VAt W0 H 54 Z ∧ w.grownBy W0 none) := by rw [← hY, ← hZ, ← HH.out]; exact ⟨HX0.out.1, HX0.out.2.1, HX0.out.2.2.1⟩
 have HYE : Hid ((opN 4 8).cells.toArray = Y) := hY
 have HE : Hid (w.heap.size ≤ H ∧ H ≠ B) := by
  have h1 := HH.out
  have h2 := HX0.out.2.2.2
  exact ⟨by omega, by omega⟩
 clear hY hZ HX HX0 HH
 go_wp2_with (first | refine wpList_load_row rfl 54 (.tmp 6) rfl B rfl 54 Y (0, 0) _ HV.out.1 Tryz.underlying54 rfl HY.out.1 ?_ | refine wpList_store_row rfl 54 (.tmp 4) (.tmp 42) rfl H Y rfl rfl 54 Z HV.out.2.1 HY.out.1 HY.out.2.1 HY.out.2.2 ?_)
 refine bodyPost_ret (l8 rfl _ _ H Y _ rfl (VAt.setRow HV.out.2.1 _) Tryz.underlying54 rfl HY.out.1) rfl ?_
 exact ⟨by rw [HYE.out]; rfl, j7 HV.out.2.2 H _ (.inr HE.out.1)⟩
theorem a6e (w : World) : Calls Tryz.prog 26 #[.int .i64 7, str [38]] w fun e w' => e = .returned (.tuple #[.agg (opN 4 6).cells.toArray, .bool true]) ∧ w.grownBy w' none := by
 have HN := BN.new w (ndK 4)
 have HB11 := t8 4 (by decide)
 go_enter Tryz.func26, Tryz.ntmps26
 go_upto_region 1 with fail
 rw [show #[.int .i64 0, .int .i64 0, .int .u32 0, .int .u32 0, .int .i64 0, .int .i64 0, .int .i64 0, .int .u8 0, .int .u8 0, .int .u8 0, .int .u8 0, .int .u8 0, .int .u8 0, .int .u8 0, .int .u8 0, .int .u8 0, .int .u8 0, .int .u8 0, .int .u8 0, .int .u8 0, .int .u8 0, .int .u8 0, .int .u8 0, .int .i64 0] = nd0.cells.toArray from rfl]
 have HS : Hid ((Tryz.prog.info? 54).map (·.size) = some (ndK 4).cells.toArray.size) := g8 _
 generalize w.alloc (.cells nd0.cells.toArray 54) = w1 at *
 go_upto_region 2 with (first | refine o6 rfl 54 _ rfl _ (by kernel_rfl) (.agg (ndK 4).cells.toArray) HB11 ?_ | refine wpList_store_row rfl 54 (.tmp 6) (.tmp 7) rfl w1.heap.size (ndK 4).cells.toArray rfl rfl 54 _ (VAt.alloc w1 _ _) HS.out rfl (j3 _) ?_)
 rw [World.setRow_alloc_new]
 generalize w1.alloc (.cells (ndK 4).cells.toArray 54) = W at *
 generalize w1.heap.size = B at *
 obtain ⟨H, hH⟩ : ∃ H, w.heap.size = H := ⟨_, rfl⟩
 have c1 : W.cell? ⟨B, 1, none⟩ = some (.int .i64 0) := VAt.cell HN.1 1
 have f1 := VAt.free HN.1 1
 have HX : Hid (BN w W B (opN 4 0)) := HN
 rw [hH]
 have HH : Hid (w.heap.size = H) := hH
 clear HN hH HS HB11
 go_upto_region 17 with fail
 have HX0 : Hid (BN w (W.setCell ⟨B, 1, none⟩ (.int .i64 6)) B (opN 4 6)) := HX.out.set (z := opN 4 6) 1 (.int .i64 6) rfl
 generalize W.setCell ⟨B, 1, none⟩ (.int .i64 6) = W0 at *
 clear c1 f1
 obtain ⟨Y, hY⟩ : ∃ Y, (opN 4 6).cells.toArray = Y := ⟨_, rfl⟩
 obtain ⟨Z, hZ⟩ : ∃ Z, nd0.cells.toArray = Z := ⟨_, rfl⟩
 have HY : Hid ((Tryz.prog.info? 54).map (·.size) = some Y.size ∧ Z.size = Y.size ∧ Y.all (·.oneCell') = true) := by rw [← hY, ← hZ]; exact ⟨g8 _, rfl, j3 _⟩
 have HV : Hid (VAt W0 B 54 Y ∧ VAt W0 H 54 Z ∧ w.grownBy W0 none) := by rw [← hY, ← hZ, ← HH.out]; exact ⟨HX0.out.1, HX0.out.2.1, HX0.out.2.2.1⟩
 have HYE : Hid ((opN 4 6).cells.toArray = Y) := hY
 have HE : Hid (w.heap.size ≤ H ∧ H ≠ B) := by
  have h1 := HH.out
  have h2 := HX0.out.2.2.2
  exact ⟨by omega, by omega⟩
 clear hY hZ HX HX0 HH
 go_wp2_with (first | refine wpList_load_row rfl 54 (.tmp 6) rfl B rfl 54 Y (0, 0) _ HV.out.1 Tryz.underlying54 rfl HY.out.1 ?_ | refine wpList_store_row rfl 54 (.tmp 4) (.tmp 48) rfl H Y rfl rfl 54 Z HV.out.2.1 HY.out.1 HY.out.2.1 HY.out.2.2 ?_)
 refine bodyPost_ret (l8 rfl _ _ H Y _ rfl (VAt.setRow HV.out.2.1 _) Tryz.underlying54 rfl HY.out.1) rfl ?_
 exact ⟨by rw [HYE.out]; rfl, j7 HV.out.2.2 H _ (.inr HE.out.1)⟩
theorem a6f (w : World) (x : List UInt8) (e0 : (x == [38]) = false) : Calls Tryz.prog 26 #[.int .i64 7, str x] w fun e w' => e = .returned (.tuple #[.agg (opN 4 6).cells.toArray, .bool false]) ∧ w.grownBy w' none := by
 have HN := BN.new w (ndK 4)
 have HB11 := t8 4 (by decide)
 go_enter Tryz.func26, Tryz.ntmps26
 go_upto_region 1 with fail
 rw [show #[.int .i64 0, .int .i64 0, .int .u32 0, .int .u32 0, .int .i64 0, .int .i64 0, .int .i64 0, .int .u8 0, .int .u8 0, .int .u8 0, .int .u8 0, .int .u8 0, .int .u8 0, .int .u8 0, .int .u8 0, .int .u8 0, .int .u8 0, .int .u8 0, .int .u8 0, .int .u8 0, .int .u8 0, .int .u8 0, .int .u8 0, .int .i64 0] = nd0.cells.toArray from rfl]
 have HS : Hid ((Tryz.prog.info? 54).map (·.size) = some (ndK 4).cells.toArray.size) := g8 _
 generalize w.alloc (.cells nd0.cells.toArray 54) = w1 at *
 go_upto_region 2 with (first | refine o6 rfl 54 _ rfl _ (by kernel_rfl) (.agg (ndK 4).cells.toArray) HB11 ?_ | refine wpList_store_row rfl 54 (.tmp 6) (.tmp 7) rfl w1.heap.size (ndK 4).cells.toArray rfl rfl 54 _ (VAt.alloc w1 _ _) HS.out rfl (j3 _) ?_)
 rw [World.setRow_alloc_new]
 generalize w1.alloc (.cells (ndK 4).cells.toArray 54) = W at *
 generalize w1.heap.size = B at *
 obtain ⟨H, hH⟩ : ∃ H, w.heap.size = H := ⟨_, rfl⟩
 have c1 : W.cell? ⟨B, 1, none⟩ = some (.int .i64 0) := VAt.cell HN.1 1
 have f1 := VAt.free HN.1 1
 have HX : Hid (BN w W B (opN 4 0)) := HN
 rw [hH]
 have HH : Hid (w.heap.size = H) := hH
 clear HN hH HS HB11
 go_upto_region 17 with fail
 have HX0 : Hid (BN w (W.setCell ⟨B, 1, none⟩ (.int .i64 6)) B (opN 4 6)) := HX.out.set (z := opN 4 6) 1 (.int .i64 6) rfl
 generalize W.setCell ⟨B, 1, none⟩ (.int .i64 6) = W0 at *
 clear c1 f1
 obtain ⟨Y, hY⟩ : ∃ Y, (opN 4 6).cells.toArray = Y := ⟨_, rfl⟩
 obtain ⟨Z, hZ⟩ : ∃ Z, nd0.cells.toArray = Z := ⟨_, rfl⟩
 have HY : Hid ((Tryz.prog.info? 54).map (·.size) = some Y.size ∧ Z.size = Y.size ∧ Y.all (·.oneCell') = true) := by rw [← hY, ← hZ]; exact ⟨g8 _, rfl, j3 _⟩
 have HV : Hid (VAt W0 B 54 Y ∧ VAt W0 H 54 Z ∧ w.grownBy W0 none) := by rw [← hY, ← hZ, ← HH.out]; exact ⟨HX0.out.1, HX0.out.2.1, HX0.out.2.2.1⟩
 have HYE : Hid ((opN 4 6).cells.toArray = Y) := hY
 have HE : Hid (w.heap.size ≤ H ∧ H ≠ B) := by
  have h1 := HH.out
  have h2 := HX0.out.2.2.2
  exact ⟨by omega, by omega⟩
 clear hY hZ HX HX0 HH
 go_wp2_with (first | refine wpList_load_row rfl 54 (.tmp 6) rfl B rfl 54 Y (0, 0) _ HV.out.1 Tryz.underlying54 rfl HY.out.1 ?_ | refine wpList_store_row rfl 54 (.tmp 4) (.tmp 48) rfl H Y rfl rfl 54 Z HV.out.2.1 HY.out.1 HY.out.2.1 HY.out.2.2 ?_)
 refine bodyPost_ret (l8 rfl _ _ H Y _ rfl (VAt.setRow HV.out.2.1 _) Tryz.underlying54 rfl HY.out.1) rfl ?_
 exact ⟨by rw [HYE.out]; rfl, j7 HV.out.2.2 H _ (.inr HE.out.1)⟩
theorem a6h (w : World) : Calls Tryz.prog 26 #[.int .i64 8, str [60, 60]] w fun e w' => e = .returned (.tuple #[.agg (opN 4 9).cells.toArray, .bool true]) ∧ w.grownBy w' none := by
 have HN := BN.new w (ndK 4)
 have HB11 := t8 4 (by decide)
 go_enter Tryz.func26, Tryz.ntmps26
 go_upto_region 1 with fail
 rw [show #[.int .i64 0, .int .i64 0, .int .u32 0, .int .u32 0, .int .i64 0, .int .i64 0, .int .i64 0, .int .u8 0, .int .u8 0, .int .u8 0, .int .u8 0, .int .u8 0, .int .u8 0, .int .u8 0, .int .u8 0, .int .u8 0, .int .u8 0, .int .u8 0, .int .u8 0, .int .u8 0, .int .u8 0, .int .u8 0, .int .u8 0, .int .i64 0] = nd0.cells.toArray from rfl]
 have HS : Hid ((Tryz.prog.info? 54).map (·.size) = some (ndK 4).cells.toArray.size) := g8 _
 generalize w.alloc (.cells nd0.cells.toArray 54) = w1 at *
 go_upto_region 2 with (first | refine o6 rfl 54 _ rfl _ (by kernel_rfl) (.agg (ndK 4).cells.toArray) HB11 ?_ | refine wpList_store_row rfl 54 (.tmp 6) (.tmp 7) rfl w1.heap.size (ndK 4).cells.toArray rfl rfl 54 _ (VAt.alloc w1 _ _) HS.out rfl (j3 _) ?_)
 rw [World.setRow_alloc_new]
 generalize w1.alloc (.cells (ndK 4).cells.toArray 54) = W at *
 generalize w1.heap.size = B at *
 obtain ⟨H, hH⟩ : ∃ H, w.heap.size = H := ⟨_, rfl⟩
 have c1 : W.cell? ⟨B, 1, none⟩ = some (.int .i64 0) := VAt.cell HN.1 1
 have f1 := VAt.free HN.1 1
 have HX : Hid (BN w W B (opN 4 0)) := HN
 rw [hH]
 have HH : Hid (w.heap.size = H) := hH
 clear HN hH HS HB11
 go_upto_region 22 with fail
 have HX0 : Hid (BN w (W.setCell ⟨B, 1, none⟩ (.int .i64 9)) B (opN 4 9)) := HX.out.set (z := opN 4 9) 1 (.int .i64 9) rfl
 generalize W.setCell ⟨B, 1, none⟩ (.int .i64 9) = W0 at *
 clear c1 f1
 obtain ⟨Y, hY⟩ : ∃ Y, (opN 4 9).cells.toArray = Y := ⟨_, rfl⟩
 obtain ⟨Z, hZ⟩ : ∃ Z, nd0.cells.toArray = Z := ⟨_, rfl⟩
 have HY : Hid ((Tryz.prog.info? 54).map (·.size) = some Y.size ∧ Z.size = Y.size ∧ Y.all (·.oneCell') = true) := by rw [← hY, ← hZ]; exact ⟨g8 _, rfl, j3 _⟩
 have HV : Hid (VAt W0 B 54 Y ∧ VAt W0 H 54 Z ∧ w.grownBy W0 none) := by rw [← hY, ← hZ, ← HH.out]; exact ⟨HX0.out.1, HX0.out.2.1, HX0.out.2.2.1⟩
 have HYE : Hid ((opN 4 9).cells.toArray = Y) := hY
 have HE : Hid (w.heap.size ≤ H ∧ H ≠ B) := by
  have h1 := HH.out
  have h2 := HX0.out.2.2.2
  exact ⟨by omega, by omega⟩
 clear hY hZ HX HX0 HH
 go_wp2_with (first | refine wpList_load_row rfl 54 (.tmp 6) rfl B rfl 54 Y (0, 0) _ HV.out.1 Tryz.underlying54 rfl HY.out.1 ?_ | refine wpList_store_row rfl 54 (.tmp 4) (.tmp 57) rfl H Y rfl rfl 54 Z HV.out.2.1 HY.out.1 HY.out.2.1 HY.out.2.2 ?_)
 refine bodyPost_ret (l8 rfl _ _ H Y _ rfl (VAt.setRow HV.out.2.1 _) Tryz.underlying54 rfl HY.out.1) rfl ?_
 exact ⟨by rw [HYE.out]; rfl, j7 HV.out.2.2 H _ (.inr HE.out.1)⟩
theorem a6i (w : World) : Calls Tryz.prog 26 #[.int .i64 8, str [62, 62]] w fun e w' => e = .returned (.tuple #[.agg (opN 4 10).cells.toArray, .bool true]) ∧ w.grownBy w' none := by
 have HN := BN.new w (ndK 4)
 have HB11 := t8 4 (by decide)
 go_enter Tryz.func26, Tryz.ntmps26
 go_upto_region 1 with fail
 rw [show #[.int .i64 0, .int .i64 0, .int .u32 0, .int .u32 0, .int .i64 0, .int .i64 0, .int .i64 0, .int .u8 0, .int .u8 0, .int .u8 0, .int .u8 0, .int .u8 0, .int .u8 0, .int .u8 0, .int .u8 0, .int .u8 0, .int .u8 0, .int .u8 0, .int .u8 0, .int .u8 0, .int .u8 0, .int .u8 0, .int .u8 0, .int .i64 0] = nd0.cells.toArray from rfl]
 have HS : Hid ((Tryz.prog.info? 54).map (·.size) = some (ndK 4).cells.toArray.size) := g8 _
 generalize w.alloc (.cells nd0.cells.toArray 54) = w1 at *
 go_upto_region 2 with (first | refine o6 rfl 54 _ rfl _ (by kernel_rfl) (.agg (ndK 4).cells.toArray) HB11 ?_ | refine wpList_store_row rfl 54 (.tmp 6) (.tmp 7) rfl w1.heap.size (ndK 4).cells.toArray rfl rfl 54 _ (VAt.alloc w1 _ _) HS.out rfl (j3 _) ?_)
 rw [World.setRow_alloc_new]
 generalize w1.alloc (.cells (ndK 4).cells.toArray 54) = W at *
 generalize w1.heap.size = B at *
 obtain ⟨H, hH⟩ : ∃ H, w.heap.size = H := ⟨_, rfl⟩
 have c1 : W.cell? ⟨B, 1, none⟩ = some (.int .i64 0) := VAt.cell HN.1 1
 have f1 := VAt.free HN.1 1
 have HX : Hid (BN w W B (opN 4 0)) := HN
 rw [hH]
 have HH : Hid (w.heap.size = H) := hH
 clear HN hH HS HB11
 go_upto_region 20 with fail
 have HX0 : Hid (BN w (W.setCell ⟨B, 1, none⟩ (.int .i64 9)) B (opN 4 9)) := HX.out.set (z := opN 4 9) 1 (.int .i64 9) rfl
 generalize W.setCell ⟨B, 1, none⟩ (.int .i64 9) = W0 at *
 clear c1 f1
 have c1 : W0.cell? ⟨B, 1, none⟩ = some (.int .i64 9) := VAt.cell HX0.out.1 1
 have f1 := VAt.free HX0.out.1 1
 go_upto_region 22 with fail
 have HX1 : Hid (BN w (W0.setCell ⟨B, 1, none⟩ (.int .i64 10)) B (opN 4 10)) := HX0.out.set (z := opN 4 10) 1 (.int .i64 10) rfl
 generalize W0.setCell ⟨B, 1, none⟩ (.int .i64 10) = W1 at *
 clear c1 f1
 obtain ⟨Y, hY⟩ : ∃ Y, (opN 4 10).cells.toArray = Y := ⟨_, rfl⟩
 obtain ⟨Z, hZ⟩ : ∃ Z, nd0.cells.toArray = Z := ⟨_, rfl⟩
 have HY : Hid ((Tryz.prog.info? 54).map (·.size) = some Y.size ∧ Z.size = Y.size ∧ Y.all (·.oneCell') = true) := by rw [← hY, ← hZ]; exact ⟨g8 _, rfl, j3 _⟩
 have HV : Hid (VAt W1 B 54 Y ∧ VAt W1 H 54 Z ∧ w.grownBy W1 none) := by rw [← hY, ← hZ, ← HH.out]; exact ⟨HX1.out.1, HX1.out.2.1, HX1.out.2.2.1⟩
 have HYE : Hid ((opN 4 10).cells.toArray = Y) := hY
 have HE : Hid (w.heap.size ≤ H ∧ H ≠ B) := by
  have h1 := HH.out
  have h2 := HX1.out.2.2.2
  exact ⟨by omega, by omega⟩
 clear hY hZ HX HX0 HX1 HH
 go_wp2_with (first | refine wpList_load_row rfl 54 (.tmp 6) rfl B rfl 54 Y (0, 0) _ HV.out.1 Tryz.underlying54 rfl HY.out.1 ?_ | refine wpList_store_row rfl 54 (.tmp 4) (.tmp 57) rfl H Y rfl rfl 54 Z HV.out.2.1 HY.out.1 HY.out.2.1 HY.out.2.2 ?_)
 refine bodyPost_ret (l8 rfl _ _ H Y _ rfl (VAt.setRow HV.out.2.1 _) Tryz.underlying54 rfl HY.out.1) rfl ?_
 exact ⟨by rw [HYE.out]; rfl, j7 HV.out.2.2 H _ (.inr HE.out.1)⟩
theorem a6j (w : World) (x : List UInt8) (e0 : (x == [60, 60]) = false) (e1 : (x == [62, 62]) = false) : Calls Tryz.prog 26 #[.int .i64 8, str x] w fun e w' => e = .returned (.tuple #[.agg (opN 4 9).cells.toArray, .bool false]) ∧ w.grownBy w' none := by
 have HN := BN.new w (ndK 4)
 have HB11 := t8 4 (by decide)
 go_enter Tryz.func26, Tryz.ntmps26
 go_upto_region 1 with fail
 rw [show #[.int .i64 0, .int .i64 0, .int .u32 0, .int .u32 0, .int .i64 0, .int .i64 0, .int .i64 0, .int .u8 0, .int .u8 0, .int .u8 0, .int .u8 0, .int .u8 0, .int .u8 0, .int .u8 0, .int .u8 0, .int .u8 0, .int .u8 0, .int .u8 0, .int .u8 0, .int .u8 0, .int .u8 0, .int .u8 0, .int .u8 0, .int .i64 0] = nd0.cells.toArray from rfl]
 have HS : Hid ((Tryz.prog.info? 54).map (·.size) = some (ndK 4).cells.toArray.size) := g8 _
 generalize w.alloc (.cells nd0.cells.toArray 54) = w1 at *
 go_upto_region 2 with (first | refine o6 rfl 54 _ rfl _ (by kernel_rfl) (.agg (ndK 4).cells.toArray) HB11 ?_ | refine wpList_store_row rfl 54 (.tmp 6) (.tmp 7) rfl w1.heap.size (ndK 4).cells.toArray rfl rfl 54 _ (VAt.alloc w1 _ _) HS.out rfl (j3 _) ?_)
 rw [World.setRow_alloc_new]
 generalize w1.alloc (.cells (ndK 4).cells.toArray 54) = W at *
 generalize w1.heap.size = B at *
 obtain ⟨H, hH⟩ : ∃ H, w.heap.size = H := ⟨_, rfl⟩
 have c1 : W.cell? ⟨B, 1, none⟩ = some (.int .i64 0) := VAt.cell HN.1 1
 have f1 := VAt.free HN.1 1
 have HX : Hid (BN w W B (opN 4 0)) := HN
 rw [hH]
 have HH : Hid (w.heap.size = H) := hH
 clear HN hH HS HB11
 go_upto_region 22 with fail
 have HX0 : Hid (BN w (W.setCell ⟨B, 1, none⟩ (.int .i64 9)) B (opN 4 9)) := HX.out.set (z := opN 4 9) 1 (.int .i64 9) rfl
 generalize W.setCell ⟨B, 1, none⟩ (.int .i64 9) = W0 at *
 clear c1 f1
 obtain ⟨Y, hY⟩ : ∃ Y, (opN 4 9).cells.toArray = Y := ⟨_, rfl⟩
 obtain ⟨Z, hZ⟩ : ∃ Z, nd0.cells.toArray = Z := ⟨_, rfl⟩
 have HY : Hid ((Tryz.prog.info? 54).map (·.size) = some Y.size ∧ Z.size = Y.size ∧ Y.all (·.oneCell') = true) := by rw [← hY, ← hZ]; exact ⟨g8 _, rfl, j3 _⟩
 have HV : Hid (VAt W0 B 54 Y ∧ VAt W0 H 54 Z ∧ w.grownBy W0 none) := by rw [← hY, ← hZ, ← HH.out]; exact ⟨HX0.out.1, HX0.out.2.1, HX0.out.2.2.1⟩
 have HYE : Hid ((opN 4 9).cells.toArray = Y) := hY
 have HE : Hid (w.heap.size ≤ H ∧ H ≠ B) := by
  have h1 := HH.out
  have h2 := HX0.out.2.2.2
  exact ⟨by omega, by omega⟩
 clear hY hZ HX HX0 HH
 go_wp2_with (first | refine wpList_load_row rfl 54 (.tmp 6) rfl B rfl 54 Y (0, 0) _ HV.out.1 Tryz.underlying54 rfl HY.out.1 ?_ | refine wpList_store_row rfl 54 (.tmp 4) (.tmp 57) rfl H Y rfl rfl 54 Z HV.out.2.1 HY.out.1 HY.out.2.1 HY.out.2.2 ?_)
 refine bodyPost_ret (l8 rfl _ _ H Y _ rfl (VAt.setRow HV.out.2.1 _) Tryz.underlying54 rfl HY.out.1) rfl ?_
 exact ⟨by rw [HYE.out]; rfl, j7 HV.out.2.2 H _ (.inr HE.out.1)⟩
theorem a6l (w : World) : Calls Tryz.prog 26 #[.int .i64 9, str [43]] w fun e w' => e = .returned (.tuple #[.agg (opN 4 1).cells.toArray, .bool true]) ∧ w.grownBy w' none := by
 have HN := BN.new w (ndK 4)
 have HB11 := t8 4 (by decide)
 go_enter Tryz.func26, Tryz.ntmps26
 go_upto_region 1 with fail
 rw [show #[.int .i64 0, .int .i64 0, .int .u32 0, .int .u32 0, .int .i64 0, .int .i64 0, .int .i64 0, .int .u8 0, .int .u8 0, .int .u8 0, .int .u8 0, .int .u8 0, .int .u8 0, .int .u8 0, .int .u8 0, .int .u8 0, .int .u8 0, .int .u8 0, .int .u8 0, .int .u8 0, .int .u8 0, .int .u8 0, .int .u8 0, .int .i64 0] = nd0.cells.toArray from rfl]
 have HS : Hid ((Tryz.prog.info? 54).map (·.size) = some (ndK 4).cells.toArray.size) := g8 _
 generalize w.alloc (.cells nd0.cells.toArray 54) = w1 at *
 go_upto_region 2 with (first | refine o6 rfl 54 _ rfl _ (by kernel_rfl) (.agg (ndK 4).cells.toArray) HB11 ?_ | refine wpList_store_row rfl 54 (.tmp 6) (.tmp 7) rfl w1.heap.size (ndK 4).cells.toArray rfl rfl 54 _ (VAt.alloc w1 _ _) HS.out rfl (j3 _) ?_)
 rw [World.setRow_alloc_new]
 generalize w1.alloc (.cells (ndK 4).cells.toArray 54) = W at *
 generalize w1.heap.size = B at *
 obtain ⟨H, hH⟩ : ∃ H, w.heap.size = H := ⟨_, rfl⟩
 have c1 : W.cell? ⟨B, 1, none⟩ = some (.int .i64 0) := VAt.cell HN.1 1
 have f1 := VAt.free HN.1 1
 have HX : Hid (BN w W B (opN 4 0)) := HN
 rw [hH]
 have HH : Hid (w.heap.size = H) := hH
 clear HN hH HS HB11
 go_upto_region 27 with fail
 have HX0 : Hid (BN w (W.setCell ⟨B, 1, none⟩ (.int .i64 1)) B (opN 4 1)) := HX.out.set (z := opN 4 1) 1 (.int .i64 1) rfl
 generalize W.setCell ⟨B, 1, none⟩ (.int .i64 1) = W0 at *
 clear c1 f1
 obtain ⟨Y, hY⟩ : ∃ Y, (opN 4 1).cells.toArray = Y := ⟨_, rfl⟩
 obtain ⟨Z, hZ⟩ : ∃ Z, nd0.cells.toArray = Z := ⟨_, rfl⟩
 have HY : Hid ((Tryz.prog.info? 54).map (·.size) = some Y.size ∧ Z.size = Y.size ∧ Y.all (·.oneCell') = true) := by rw [← hY, ← hZ]; exact ⟨g8 _, rfl, j3 _⟩
 have HV : Hid (VAt W0 B 54 Y ∧ VAt W0 H 54 Z ∧ w.grownBy W0 none) := by rw [← hY, ← hZ, ← HH.out]; exact ⟨HX0.out.1, HX0.out.2.1, HX0.out.2.2.1⟩
 have HYE : Hid ((opN 4 1).cells.toArray = Y) := hY
 have HE : Hid (w.heap.size ≤ H ∧ H ≠ B) := by
  have h1 := HH.out
  have h2 := HX0.out.2.2.2
  exact ⟨by omega, by omega⟩
 clear hY hZ HX HX0 HH
 go_wp2_with (first | refine wpList_load_row rfl 54 (.tmp 6) rfl B rfl 54 Y (0, 0) _ HV.out.1 Tryz.underlying54 rfl HY.out.1 ?_ | refine wpList_store_row rfl 54 (.tmp 4) (.tmp 70) rfl H Y rfl rfl 54 Z HV.out.2.1 HY.out.1 HY.out.2.1 HY.out.2.2 ?_)
 refine bodyPost_ret (l8 rfl _ _ H Y _ rfl (VAt.setRow HV.out.2.1 _) Tryz.underlying54 rfl HY.out.1) rfl ?_
 exact ⟨by rw [HYE.out]; rfl, j7 HV.out.2.2 H _ (.inr HE.out.1)⟩
theorem a6m (w : World) : Calls Tryz.prog 26 #[.int .i64 9, str [45]] w fun e w' => e = .returned (.tuple #[.agg (opN 4 2).cells.toArray, .bool true]) ∧ w.grownBy w' none := by
 have HN := BN.new w (ndK 4)
 have HB11 := t8 4 (by decide)
 go_enter Tryz.func26, Tryz.ntmps26
 go_upto_region 1 with fail
 rw [show #[.int .i64 0, .int .i64 0, .int .u32 0, .int .u32 0, .int .i64 0, .int .i64 0, .int .i64 0, .int .u8 0, .int .u8 0, .int .u8 0, .int .u8 0, .int .u8 0, .int .u8 0, .int .u8 0, .int .u8 0, .int .u8 0, .int .u8 0, .int .u8 0, .int .u8 0, .int .u8 0, .int .u8 0, .int .u8 0, .int .u8 0, .int .i64 0] = nd0.cells.toArray from rfl]
 have HS : Hid ((Tryz.prog.info? 54).map (·.size) = some (ndK 4).cells.toArray.size) := g8 _
 generalize w.alloc (.cells nd0.cells.toArray 54) = w1 at *
 go_upto_region 2 with (first | refine o6 rfl 54 _ rfl _ (by kernel_rfl) (.agg (ndK 4).cells.toArray) HB11 ?_ | refine wpList_store_row rfl 54 (.tmp 6) (.tmp 7) rfl w1.heap.size (ndK 4).cells.toArray rfl rfl 54 _ (VAt.alloc w1 _ _) HS.out rfl (j3 _) ?_)
 rw [World.setRow_alloc_new]
 generalize w1.alloc (.cells (ndK 4).cells.toArray 54) = W at *
 generalize w1.heap.size = B at *
 obtain ⟨H, hH⟩ : ∃ H, w.heap.size = H := ⟨_, rfl⟩
 have c1 : W.cell? ⟨B, 1, none⟩ = some (.int .i64 0) := VAt.cell HN.1 1
 have f1 := VAt.free HN.1 1
 have HX : Hid (BN w W B (opN 4 0)) := HN
 rw [hH]
 have HH : Hid (w.heap.size = H) := hH
 clear HN hH HS HB11
 go_upto_region 25 with fail
 have HX0 : Hid (BN w (W.setCell ⟨B, 1, none⟩ (.int .i64 1)) B (opN 4 1)) := HX.out.set (z := opN 4 1) 1 (.int .i64 1) rfl
 generalize W.setCell ⟨B, 1, none⟩ (.int .i64 1) = W0 at *
 clear c1 f1
 have c1 : W0.cell? ⟨B, 1, none⟩ = some (.int .i64 1) := VAt.cell HX0.out.1 1
 have f1 := VAt.free HX0.out.1 1
 go_upto_region 27 with fail
 have HX1 : Hid (BN w (W0.setCell ⟨B, 1, none⟩ (.int .i64 2)) B (opN 4 2)) := HX0.out.set (z := opN 4 2) 1 (.int .i64 2) rfl
 generalize W0.setCell ⟨B, 1, none⟩ (.int .i64 2) = W1 at *
 clear c1 f1
 obtain ⟨Y, hY⟩ : ∃ Y, (opN 4 2).cells.toArray = Y := ⟨_, rfl⟩
 obtain ⟨Z, hZ⟩ : ∃ Z, nd0.cells.toArray = Z := ⟨_, rfl⟩
 have HY : Hid ((Tryz.prog.info? 54).map (·.size) = some Y.size ∧ Z.size = Y.size ∧ Y.all (·.oneCell') = true) := by rw [← hY, ← hZ]; exact ⟨g8 _, rfl, j3 _⟩
 have HV : Hid (VAt W1 B 54 Y ∧ VAt W1 H 54 Z ∧ w.grownBy W1 none) := by rw [← hY, ← hZ, ← HH.out]; exact ⟨HX1.out.1, HX1.out.2.1, HX1.out.2.2.1⟩
 have HYE : Hid ((opN 4 2).cells.toArray = Y) := hY
 have HE : Hid (w.heap.size ≤ H ∧ H ≠ B) := by
  have h1 := HH.out
  have h2 := HX1.out.2.2.2
  exact ⟨by omega, by omega⟩
 clear hY hZ HX HX0 HX1 HH
 go_wp2_with (first | refine wpList_load_row rfl 54 (.tmp 6) rfl B rfl 54 Y (0, 0) _ HV.out.1 Tryz.underlying54 rfl HY.out.1 ?_ | refine wpList_store_row rfl 54 (.tmp 4) (.tmp 70) rfl H Y rfl rfl 54 Z HV.out.2.1 HY.out.1 HY.out.2.1 HY.out.2.2 ?_)
 refine bodyPost_ret (l8 rfl _ _ H Y _ rfl (VAt.setRow HV.out.2.1 _) Tryz.underlying54 rfl HY.out.1) rfl ?_
 exact ⟨by rw [HYE.out]; rfl, j7 HV.out.2.2 H _ (.inr HE.out.1)⟩
theorem a6n (w : World) (x : List UInt8) (e0 : (x == [43]) = false) (e1 : (x == [45]) = false) : Calls Tryz.prog 26 #[.int .i64 9, str x] w fun e w' => e = .returned (.tuple #[.agg (opN 4 1).cells.toArray, .bool false]) ∧ w.grownBy w' none := by
 have HN := BN.new w (ndK 4)
 have HB11 := t8 4 (by decide)
 go_enter Tryz.func26, Tryz.ntmps26
 go_upto_region 1 with fail
 rw [show #[.int .i64 0, .int .i64 0, .int .u32 0, .int .u32 0, .int .i64 0, .int .i64 0, .int .i64 0, .int .u8 0, .int .u8 0, .int .u8 0, .int .u8 0, .int .u8 0, .int .u8 0, .int .u8 0, .int .u8 0, .int .u8 0, .int .u8 0, .int .u8 0, .int .u8 0, .int .u8 0, .int .u8 0, .int .u8 0, .int .u8 0, .int .i64 0] = nd0.cells.toArray from rfl]
 have HS : Hid ((Tryz.prog.info? 54).map (·.size) = some (ndK 4).cells.toArray.size) := g8 _
 generalize w.alloc (.cells nd0.cells.toArray 54) = w1 at *
 go_upto_region 2 with (first | refine o6 rfl 54 _ rfl _ (by kernel_rfl) (.agg (ndK 4).cells.toArray) HB11 ?_ | refine wpList_store_row rfl 54 (.tmp 6) (.tmp 7) rfl w1.heap.size (ndK 4).cells.toArray rfl rfl 54 _ (VAt.alloc w1 _ _) HS.out rfl (j3 _) ?_)
 rw [World.setRow_alloc_new]
 generalize w1.alloc (.cells (ndK 4).cells.toArray 54) = W at *
 generalize w1.heap.size = B at *
 obtain ⟨H, hH⟩ : ∃ H, w.heap.size = H := ⟨_, rfl⟩
 have c1 : W.cell? ⟨B, 1, none⟩ = some (.int .i64 0) := VAt.cell HN.1 1
 have f1 := VAt.free HN.1 1
 have HX : Hid (BN w W B (opN 4 0)) := HN
 rw [hH]
 have HH : Hid (w.heap.size = H) := hH
 clear HN hH HS HB11
 go_upto_region 27 with fail
 have HX0 : Hid (BN w (W.setCell ⟨B, 1, none⟩ (.int .i64 1)) B (opN 4 1)) := HX.out.set (z := opN 4 1) 1 (.int .i64 1) rfl
 generalize W.setCell ⟨B, 1, none⟩ (.int .i64 1) = W0 at *
 clear c1 f1
 obtain ⟨Y, hY⟩ : ∃ Y, (opN 4 1).cells.toArray = Y := ⟨_, rfl⟩
 obtain ⟨Z, hZ⟩ : ∃ Z, nd0.cells.toArray = Z := ⟨_, rfl⟩
 have HY : Hid ((Tryz.prog.info? 54).map (·.size) = some Y.size ∧ Z.size = Y.size ∧ Y.all (·.oneCell') = true) := by rw [← hY, ← hZ]; exact ⟨g8 _, rfl, j3 _⟩
 have HV : Hid (VAt W0 B 54 Y ∧ VAt W0 H 54 Z ∧ w.grownBy W0 none) := by rw [← hY, ← hZ, ← HH.out]; exact ⟨HX0.out.1, HX0.out.2.1, HX0.out.2.2.1⟩
 have HYE : Hid ((opN 4 1).cells.toArray = Y) := hY
 have HE : Hid (w.heap.size ≤ H ∧ H ≠ B) := by
  have h1 := HH.out
  have h2 := HX0.out.2.2.2
  exact ⟨by omega, by omega⟩
 clear hY hZ HX HX0 HH
 go_wp2_with (first | refine wpList_load_row rfl 54 (.tmp 6) rfl B rfl 54 Y (0, 0) _ HV.out.1 Tryz.underlying54 rfl HY.out.1 ?_ | refine wpList_store_row rfl 54 (.tmp 4) (.tmp 70) rfl H Y rfl rfl 54 Z HV.out.2.1 HY.out.1 HY.out.2.1 HY.out.2.2 ?_)
 refine bodyPost_ret (l8 rfl _ _ H Y _ rfl (VAt.setRow HV.out.2.1 _) Tryz.underlying54 rfl HY.out.1) rfl ?_
 exact ⟨by rw [HYE.out]; rfl, j7 HV.out.2.2 H _ (.inr HE.out.1)⟩
theorem a5U (w : World) : Calls Tryz.prog 26 #[.int .i64 10, str [42]] w fun e w' => e = .returned (.tuple #[.agg (opN 4 3).cells.toArray, .bool true]) ∧ w.grownBy w' none := by
 have HN := BN.new w (ndK 4)
 have HB11 := t8 4 (by decide)
 go_enter Tryz.func26, Tryz.ntmps26
 go_upto_region 1 with fail
 rw [show #[.int .i64 0, .int .i64 0, .int .u32 0, .int .u32 0, .int .i64 0, .int .i64 0, .int .i64 0, .int .u8 0, .int .u8 0, .int .u8 0, .int .u8 0, .int .u8 0, .int .u8 0, .int .u8 0, .int .u8 0, .int .u8 0, .int .u8 0, .int .u8 0, .int .u8 0, .int .u8 0, .int .u8 0, .int .u8 0, .int .u8 0, .int .i64 0] = nd0.cells.toArray from rfl]
 have HS : Hid ((Tryz.prog.info? 54).map (·.size) = some (ndK 4).cells.toArray.size) := g8 _
 generalize w.alloc (.cells nd0.cells.toArray 54) = w1 at *
 go_upto_region 2 with (first | refine o6 rfl 54 _ rfl _ (by kernel_rfl) (.agg (ndK 4).cells.toArray) HB11 ?_ | refine wpList_store_row rfl 54 (.tmp 6) (.tmp 7) rfl w1.heap.size (ndK 4).cells.toArray rfl rfl 54 _ (VAt.alloc w1 _ _) HS.out rfl (j3 _) ?_)
 rw [World.setRow_alloc_new]
 generalize w1.alloc (.cells (ndK 4).cells.toArray 54) = W at *
 generalize w1.heap.size = B at *
 obtain ⟨H, hH⟩ : ∃ H, w.heap.size = H := ⟨_, rfl⟩
 have c1 : W.cell? ⟨B, 1, none⟩ = some (.int .i64 0) := VAt.cell HN.1 1
 have f1 := VAt.free HN.1 1
 have HX : Hid (BN w W B (opN 4 0)) := HN
 rw [hH]
 have HH : Hid (w.heap.size = H) := hH
 clear HN hH HS HB11
 go_upto_region 34 with fail
 have HX0 : Hid (BN w (W.setCell ⟨B, 1, none⟩ (.int .i64 3)) B (opN 4 3)) := HX.out.set (z := opN 4 3) 1 (.int .i64 3) rfl
 generalize W.setCell ⟨B, 1, none⟩ (.int .i64 3) = W0 at *
 clear c1 f1
 obtain ⟨Y, hY⟩ : ∃ Y, (opN 4 3).cells.toArray = Y := ⟨_, rfl⟩
 obtain ⟨Z, hZ⟩ : ∃ Z, nd0.cells.toArray = Z := ⟨_, rfl⟩
 have HY : Hid ((Tryz.prog.info? 54).map (·.size) = some Y.size ∧ Z.size = Y.size ∧ Y.all (·.oneCell') = true) := by rw [← hY, ← hZ]; exact ⟨g8 _, rfl, j3 _⟩
 have HV : Hid (VAt W0 B 54 Y ∧ VAt W0 H 54 Z ∧ w.grownBy W0 none) := by rw [← hY, ← hZ, ← HH.out]; exact ⟨HX0.out.1, HX0.out.2.1, HX0.out.2.2.1⟩
 have HYE : Hid ((opN 4 3).cells.toArray = Y) := hY
 have HE : Hid (w.heap.size ≤ H ∧ H ≠ B) := by
  have h1 := HH.out
  have h2 := HX0.out.2.2.2
  exact ⟨by omega, by omega⟩
 clear hY hZ HX HX0 HH
 go_wp2_with (first | refine wpList_load_row rfl 54 (.tmp 6) rfl B rfl 54 Y (0, 0) _ HV.out.1 Tryz.underlying54 rfl HY.out.1 ?_ | refine wpList_store_row rfl 54 (.tmp 4) (.tmp 85) rfl H Y rfl rfl 54 Z HV.out.2.1 HY.out.1 HY.out.2.1 HY.out.2.2 ?_)
 refine bodyPost_ret (l8 rfl _ _ H Y _ rfl (VAt.setRow HV.out.2.1 _) Tryz.underlying54 rfl HY.out.1) rfl ?_
 exact ⟨by rw [HYE.out]; rfl, j7 HV.out.2.2 H _ (.inr HE.out.1)⟩
theorem a5V (w : World) : Calls Tryz.prog 26 #[.int .i64 10, str [47]] w fun e w' => e = .returned (.tuple #[.agg (opN 4 4).cells.toArray, .bool true]) ∧ w.grownBy w' none := by
 have HN := BN.new w (ndK 4)
 have HB11 := t8 4 (by decide)
 go_enter Tryz.func26, Tryz.ntmps26
 go_upto_region 1 with fail
 rw [show #[.int .i64 0, .int .i64 0, .int .u32 0, .int .u32 0, .int .i64 0, .int .i64 0, .int .i64 0, .int .u8 0, .int .u8 0, .int .u8 0, .int .u8 0, .int .u8 0, .int .u8 0, .int .u8 0, .int .u8 0, .int .u8 0, .int .u8 0, .int .u8 0, .int .u8 0, .int .u8 0, .int .u8 0, .int .u8 0, .int .u8 0, .int .i64 0] = nd0.cells.toArray from rfl]
 have HS : Hid ((Tryz.prog.info? 54).map (·.size) = some (ndK 4).cells.toArray.size) := g8 _
 generalize w.alloc (.cells nd0.cells.toArray 54) = w1 at *
 go_upto_region 2 with (first | refine o6 rfl 54 _ rfl _ (by kernel_rfl) (.agg (ndK 4).cells.toArray) HB11 ?_ | refine wpList_store_row rfl 54 (.tmp 6) (.tmp 7) rfl w1.heap.size (ndK 4).cells.toArray rfl rfl 54 _ (VAt.alloc w1 _ _) HS.out rfl (j3 _) ?_)
 rw [World.setRow_alloc_new]
 generalize w1.alloc (.cells (ndK 4).cells.toArray 54) = W at *
 generalize w1.heap.size = B at *
 obtain ⟨H, hH⟩ : ∃ H, w.heap.size = H := ⟨_, rfl⟩
 have c1 : W.cell? ⟨B, 1, none⟩ = some (.int .i64 0) := VAt.cell HN.1 1
 have f1 := VAt.free HN.1 1
 have HX : Hid (BN w W B (opN 4 0)) := HN
 rw [hH]
 have HH : Hid (w.heap.size = H) := hH
 clear HN hH HS HB11
 go_upto_region 29 with fail
 have HX0 : Hid (BN w (W.setCell ⟨B, 1, none⟩ (.int .i64 3)) B (opN 4 3)) := HX.out.set (z := opN 4 3) 1 (.int .i64 3) rfl
 generalize W.setCell ⟨B, 1, none⟩ (.int .i64 3) = W0 at *
 clear c1 f1
 have c1 : W0.cell? ⟨B, 1, none⟩ = some (.int .i64 3) := VAt.cell HX0.out.1 1
 have f1 := VAt.free HX0.out.1 1
 go_upto_region 34 with fail
 have HX1 : Hid (BN w (W0.setCell ⟨B, 1, none⟩ (.int .i64 4)) B (opN 4 4)) := HX0.out.set (z := opN 4 4) 1 (.int .i64 4) rfl
 generalize W0.setCell ⟨B, 1, none⟩ (.int .i64 4) = W1 at *
 clear c1 f1
 obtain ⟨Y, hY⟩ : ∃ Y, (opN 4 4).cells.toArray = Y := ⟨_, rfl⟩
 obtain ⟨Z, hZ⟩ : ∃ Z, nd0.cells.toArray = Z := ⟨_, rfl⟩
 have HY : Hid ((Tryz.prog.info? 54).map (·.size) = some Y.size ∧ Z.size = Y.size ∧ Y.all (·.oneCell') = true) := by rw [← hY, ← hZ]; exact ⟨g8 _, rfl, j3 _⟩
 have HV : Hid (VAt W1 B 54 Y ∧ VAt W1 H 54 Z ∧ w.grownBy W1 none) := by rw [← hY, ← hZ, ← HH.out]; exact ⟨HX1.out.1, HX1.out.2.1, HX1.out.2.2.1⟩
 have HYE : Hid ((opN 4 4).cells.toArray = Y) := hY
 have HE : Hid (w.heap.size ≤ H ∧ H ≠ B) := by
  have h1 := HH.out
  have h2 := HX1.out.2.2.2
  exact ⟨by omega, by omega⟩
 clear hY hZ HX HX0 HX1 HH
 go_wp2_with (first | refine wpList_load_row rfl 54 (.tmp 6) rfl B rfl 54 Y (0, 0) _ HV.out.1 Tryz.underlying54 rfl HY.out.1 ?_ | refine wpList_store_row rfl 54 (.tmp 4) (.tmp 85) rfl H Y rfl rfl 54 Z HV.out.2.1 HY.out.1 HY.out.2.1 HY.out.2.2 ?_)
 refine bodyPost_ret (l8 rfl _ _ H Y _ rfl (VAt.setRow HV.out.2.1 _) Tryz.underlying54 rfl HY.out.1) rfl ?_
 exact ⟨by rw [HYE.out]; rfl, j7 HV.out.2.2 H _ (.inr HE.out.1)⟩
theorem a5W (w : World) : Calls Tryz.prog 26 #[.int .i64 10, str [37]] w fun e w' => e = .returned (.tuple #[.agg (opN 4 5).cells.toArray, .bool true]) ∧ w.grownBy w' none := by
 have HN := BN.new w (ndK 4)
 have HB11 := t8 4 (by decide)
 go_enter Tryz.func26, Tryz.ntmps26
 go_upto_region 1 with fail
 rw [show #[.int .i64 0, .int .i64 0, .int .u32 0, .int .u32 0, .int .i64 0, .int .i64 0, .int .i64 0, .int .u8 0, .int .u8 0, .int .u8 0, .int .u8 0, .int .u8 0, .int .u8 0, .int .u8 0, .int .u8 0, .int .u8 0, .int .u8 0, .int .u8 0, .int .u8 0, .int .u8 0, .int .u8 0, .int .u8 0, .int .u8 0, .int .i64 0] = nd0.cells.toArray from rfl]
 have HS : Hid ((Tryz.prog.info? 54).map (·.size) = some (ndK 4).cells.toArray.size) := g8 _
 generalize w.alloc (.cells nd0.cells.toArray 54) = w1 at *
 go_upto_region 2 with (first | refine o6 rfl 54 _ rfl _ (by kernel_rfl) (.agg (ndK 4).cells.toArray) HB11 ?_ | refine wpList_store_row rfl 54 (.tmp 6) (.tmp 7) rfl w1.heap.size (ndK 4).cells.toArray rfl rfl 54 _ (VAt.alloc w1 _ _) HS.out rfl (j3 _) ?_)
 rw [World.setRow_alloc_new]
 generalize w1.alloc (.cells (ndK 4).cells.toArray 54) = W at *
 generalize w1.heap.size = B at *
 obtain ⟨H, hH⟩ : ∃ H, w.heap.size = H := ⟨_, rfl⟩
 have c1 : W.cell? ⟨B, 1, none⟩ = some (.int .i64 0) := VAt.cell HN.1 1
 have f1 := VAt.free HN.1 1
 have HX : Hid (BN w W B (opN 4 0)) := HN
 rw [hH]
 have HH : Hid (w.heap.size = H) := hH
 clear HN hH HS HB11
 go_upto_region 29 with fail
 have HX0 : Hid (BN w (W.setCell ⟨B, 1, none⟩ (.int .i64 3)) B (opN 4 3)) := HX.out.set (z := opN 4 3) 1 (.int .i64 3) rfl
 generalize W.setCell ⟨B, 1, none⟩ (.int .i64 3) = W0 at *
 clear c1 f1
 have c1 : W0.cell? ⟨B, 1, none⟩ = some (.int .i64 3) := VAt.cell HX0.out.1 1
 have f1 := VAt.free HX0.out.1 1
 go_upto_region 34 with fail
 have HX1 : Hid (BN w (W0.setCell ⟨B, 1, none⟩ (.int .i64 5)) B (opN 4 5)) := HX0.out.set (z := opN 4 5) 1 (.int .i64 5) rfl
 generalize W0.setCell ⟨B, 1, none⟩ (.int .i64 5) = W1 at *
 clear c1 f1
 obtain ⟨Y, hY⟩ : ∃ Y, (opN 4 5).cells.toArray = Y := ⟨_, rfl⟩
 obtain ⟨Z, hZ⟩ : ∃ Z, nd0.cells.toArray = Z := ⟨_, rfl⟩
 have HY : Hid ((Tryz.prog.info? 54).map (·.size) = some Y.size ∧ Z.size = Y.size ∧ Y.all (·.oneCell') = true) := by rw [← hY, ← hZ]; exact ⟨g8 _, rfl, j3 _⟩
 have HV : Hid (VAt W1 B 54 Y ∧ VAt W1 H 54 Z ∧ w.grownBy W1 none) := by rw [← hY, ← hZ, ← HH.out]; exact ⟨HX1.out.1, HX1.out.2.1, HX1.out.2.2.1⟩
 have HYE : Hid ((opN 4 5).cells.toArray = Y) := hY
 have HE : Hid (w.heap.size ≤ H ∧ H ≠ B) := by
  have h1 := HH.out
  have h2 := HX1.out.2.2.2
  exact ⟨by omega, by omega⟩
 clear hY hZ HX HX0 HX1 HH
 go_wp2_with (first | refine wpList_load_row rfl 54 (.tmp 6) rfl B rfl 54 Y (0, 0) _ HV.out.1 Tryz.underlying54 rfl HY.out.1 ?_ | refine wpList_store_row rfl 54 (.tmp 4) (.tmp 85) rfl H Y rfl rfl 54 Z HV.out.2.1 HY.out.1 HY.out.2.1 HY.out.2.2 ?_)
 refine bodyPost_ret (l8 rfl _ _ H Y _ rfl (VAt.setRow HV.out.2.1 _) Tryz.underlying54 rfl HY.out.1) rfl ?_
 exact ⟨by rw [HYE.out]; rfl, j7 HV.out.2.2 H _ (.inr HE.out.1)⟩
theorem a5X (w : World) (x : List UInt8) (e0 : (x == [42]) = false) (e1 : (x == [47]) = false) (e2 : (x == [37]) = false) : Calls Tryz.prog 26 #[.int .i64 10, str x] w fun e w' => e = .returned (.tuple #[.agg (opN 4 3).cells.toArray, .bool false]) ∧ w.grownBy w' none := by
 have HN := BN.new w (ndK 4)
 have HB11 := t8 4 (by decide)
 go_enter Tryz.func26, Tryz.ntmps26
 go_upto_region 1 with fail
 rw [show #[.int .i64 0, .int .i64 0, .int .u32 0, .int .u32 0, .int .i64 0, .int .i64 0, .int .i64 0, .int .u8 0, .int .u8 0, .int .u8 0, .int .u8 0, .int .u8 0, .int .u8 0, .int .u8 0, .int .u8 0, .int .u8 0, .int .u8 0, .int .u8 0, .int .u8 0, .int .u8 0, .int .u8 0, .int .u8 0, .int .u8 0, .int .i64 0] = nd0.cells.toArray from rfl]
 have HS : Hid ((Tryz.prog.info? 54).map (·.size) = some (ndK 4).cells.toArray.size) := g8 _
 generalize w.alloc (.cells nd0.cells.toArray 54) = w1 at *
 go_upto_region 2 with (first | refine o6 rfl 54 _ rfl _ (by kernel_rfl) (.agg (ndK 4).cells.toArray) HB11 ?_ | refine wpList_store_row rfl 54 (.tmp 6) (.tmp 7) rfl w1.heap.size (ndK 4).cells.toArray rfl rfl 54 _ (VAt.alloc w1 _ _) HS.out rfl (j3 _) ?_)
 rw [World.setRow_alloc_new]
 generalize w1.alloc (.cells (ndK 4).cells.toArray 54) = W at *
 generalize w1.heap.size = B at *
 obtain ⟨H, hH⟩ : ∃ H, w.heap.size = H := ⟨_, rfl⟩
 have c1 : W.cell? ⟨B, 1, none⟩ = some (.int .i64 0) := VAt.cell HN.1 1
 have f1 := VAt.free HN.1 1
 have HX : Hid (BN w W B (opN 4 0)) := HN
 rw [hH]
 have HH : Hid (w.heap.size = H) := hH
 clear HN hH HS HB11
 go_upto_region 34 with fail
 have HX0 : Hid (BN w (W.setCell ⟨B, 1, none⟩ (.int .i64 3)) B (opN 4 3)) := HX.out.set (z := opN 4 3) 1 (.int .i64 3) rfl
 generalize W.setCell ⟨B, 1, none⟩ (.int .i64 3) = W0 at *
 clear c1 f1
 obtain ⟨Y, hY⟩ : ∃ Y, (opN 4 3).cells.toArray = Y := ⟨_, rfl⟩
 obtain ⟨Z, hZ⟩ : ∃ Z, nd0.cells.toArray = Z := ⟨_, rfl⟩
 have HY : Hid ((Tryz.prog.info? 54).map (·.size) = some Y.size ∧ Z.size = Y.size ∧ Y.all (·.oneCell') = true) := by rw [← hY, ← hZ]; exact ⟨g8 _, rfl, j3 _⟩
 have HV : Hid (VAt W0 B 54 Y ∧ VAt W0 H 54 Z ∧ w.grownBy W0 none) := by rw [← hY, ← hZ, ← HH.out]; exact ⟨HX0.out.1, HX0.out.2.1, HX0.out.2.2.1⟩
 have HYE : Hid ((opN 4 3).cells.toArray = Y) := hY
 have HE : Hid (w.heap.size ≤ H ∧ H ≠ B) := by
  have h1 := HH.out
  have h2 := HX0.out.2.2.2
  exact ⟨by omega, by omega⟩
 clear hY hZ HX HX0 HH
 go_wp2_with (first | refine wpList_load_row rfl 54 (.tmp 6) rfl B rfl 54 Y (0, 0) _ HV.out.1 Tryz.underlying54 rfl HY.out.1 ?_ | refine wpList_store_row rfl 54 (.tmp 4) (.tmp 85) rfl H Y rfl rfl 54 Z HV.out.2.1 HY.out.1 HY.out.2.1 HY.out.2.2 ?_)
 refine bodyPost_ret (l8 rfl _ _ H Y _ rfl (VAt.setRow HV.out.2.1 _) Tryz.underlying54 rfl HY.out.1) rfl ?_
 exact ⟨by rw [HYE.out]; rfl, j7 HV.out.2.2 H _ (.inr HE.out.1)⟩
theorem a5Y (w : World) : Calls Tryz.prog 26 #[.int .i64 1, str [111, 114]] w fun e w' => e = .returned (.tuple #[.agg (opN 8 0).cells.toArray, .bool true]) ∧ w.grownBy w' none := by
 have HN := BN.new w (ndK 4)
 have HB11 := t8 4 (by decide)
 go_enter Tryz.func26, Tryz.ntmps26
 go_upto_region 1 with fail
 rw [show #[.int .i64 0, .int .i64 0, .int .u32 0, .int .u32 0, .int .i64 0, .int .i64 0, .int .i64 0, .int .u8 0, .int .u8 0, .int .u8 0, .int .u8 0, .int .u8 0, .int .u8 0, .int .u8 0, .int .u8 0, .int .u8 0, .int .u8 0, .int .u8 0, .int .u8 0, .int .u8 0, .int .u8 0, .int .u8 0, .int .u8 0, .int .i64 0] = nd0.cells.toArray from rfl]
 have HS : Hid ((Tryz.prog.info? 54).map (·.size) = some (ndK 4).cells.toArray.size) := g8 _
 generalize w.alloc (.cells nd0.cells.toArray 54) = w1 at *
 go_upto_region 2 with (first | refine o6 rfl 54 _ rfl _ (by kernel_rfl) (.agg (ndK 4).cells.toArray) HB11 ?_ | refine wpList_store_row rfl 54 (.tmp 6) (.tmp 7) rfl w1.heap.size (ndK 4).cells.toArray rfl rfl 54 _ (VAt.alloc w1 _ _) HS.out rfl (j3 _) ?_)
 rw [World.setRow_alloc_new]
 generalize w1.alloc (.cells (ndK 4).cells.toArray 54) = W at *
 generalize w1.heap.size = B at *
 obtain ⟨H, hH⟩ : ∃ H, w.heap.size = H := ⟨_, rfl⟩
 have c1 : W.cell? ⟨B, 1, none⟩ = some (.int .i64 0) := VAt.cell HN.1 1
 have f1 := VAt.free HN.1 1
 have HX : Hid (BN w W B (opN 4 0)) := HN
 rw [hH]
 have HH : Hid (w.heap.size = H) := hH
 clear HN hH HS HB11
 have HBK : Hid (∀ W : World, (Instr.build 54 #[(0, .int .i64 8)]).run Tryz.prog W = .ok (.agg (opN 8 0).cells.toArray) W) := t8 8 (by decide)
 obtain ⟨Y, hY⟩ : ∃ Y, (opN 8 0).cells.toArray = Y := ⟨_, rfl⟩
 obtain ⟨Z, hZ⟩ : ∃ Z, nd0.cells.toArray = Z := ⟨_, rfl⟩
 have HY : Hid ((Tryz.prog.info? 54).map (·.size) = some Y.size ∧ Z.size = Y.size ∧ Y.all (·.oneCell') = true) := by rw [← hY, ← hZ]; exact ⟨g8 _, rfl, j3 _⟩
 have HV : Hid (VAt W H 54 Z ∧ w.grownBy W none) := by rw [← hZ, ← HH.out]; exact ⟨HX.out.2.1, HX.out.2.2.1⟩
 have HYE : Hid ((opN 8 0).cells.toArray = Y) := hY
 rw [hY] at HBK
 have HE : Hid (w.heap.size ≤ H) := Nat.le_of_eq HH.out
 clear hY hZ HX HH c1 f1
 go_wp2_with (first | refine o6 rfl 54 _ rfl _ (by kernel_rfl) (.agg Y) HBK.out ?_ | refine wpList_store_row rfl 54 (.tmp 4) (.tmp 11) rfl H Y rfl rfl 54 Z HV.out.1 HY.out.1 HY.out.2.1 HY.out.2.2 ?_)
 refine bodyPost_ret (l8 rfl _ _ H Y _ rfl (VAt.setRow HV.out.1 _) Tryz.underlying54 rfl HY.out.1) rfl ?_
 exact ⟨by rw [HYE.out]; rfl, j7 HV.out.2 H _ (.inr HE.out)⟩
theorem a5Z (w : World) : Calls Tryz.prog 26 #[.int .i64 1, str [124, 124]] w fun e w' => e = .returned (.tuple #[.agg (opN 8 0).cells.toArray, .bool true]) ∧ w.grownBy w' none := by
 have HN := BN.new w (ndK 4)
 have HB11 := t8 4 (by decide)
 go_enter Tryz.func26, Tryz.ntmps26
 go_upto_region 1 with fail
 rw [show #[.int .i64 0, .int .i64 0, .int .u32 0, .int .u32 0, .int .i64 0, .int .i64 0, .int .i64 0, .int .u8 0, .int .u8 0, .int .u8 0, .int .u8 0, .int .u8 0, .int .u8 0, .int .u8 0, .int .u8 0, .int .u8 0, .int .u8 0, .int .u8 0, .int .u8 0, .int .u8 0, .int .u8 0, .int .u8 0, .int .u8 0, .int .i64 0] = nd0.cells.toArray from rfl]
 have HS : Hid ((Tryz.prog.info? 54).map (·.size) = some (ndK 4).cells.toArray.size) := g8 _
 generalize w.alloc (.cells nd0.cells.toArray 54) = w1 at *
 go_upto_region 2 with (first | refine o6 rfl 54 _ rfl _ (by kernel_rfl) (.agg (ndK 4).cells.toArray) HB11 ?_ | refine wpList_store_row rfl 54 (.tmp 6) (.tmp 7) rfl w1.heap.size (ndK 4).cells.toArray rfl rfl 54 _ (VAt.alloc w1 _ _) HS.out rfl (j3 _) ?_)
 rw [World.setRow_alloc_new]
 generalize w1.alloc (.cells (ndK 4).cells.toArray 54) = W at *
 generalize w1.heap.size = B at *
 obtain ⟨H, hH⟩ : ∃ H, w.heap.size = H := ⟨_, rfl⟩
 have c1 : W.cell? ⟨B, 1, none⟩ = some (.int .i64 0) := VAt.cell HN.1 1
 have f1 := VAt.free HN.1 1
 have HX : Hid (BN w W B (opN 4 0)) := HN
 rw [hH]
 have HH : Hid (w.heap.size = H) := hH
 clear HN hH HS HB11
 have HBK : Hid (∀ W : World, (Instr.build 54 #[(0, .int .i64 8)]).run Tryz.prog W = .ok (.agg (opN 8 0).cells.toArray) W) := t8 8 (by decide)
 obtain ⟨Y, hY⟩ : ∃ Y, (opN 8 0).cells.toArray = Y := ⟨_, rfl⟩
 obtain ⟨Z, hZ⟩ : ∃ Z, nd0.cells.toArray = Z := ⟨_, rfl⟩
 have HY : Hid ((Tryz.prog.info? 54).map (·.size) = some Y.size ∧ Z.size = Y.size ∧ Y.all (·.oneCell') = true) := by rw [← hY, ← hZ]; exact ⟨g8 _, rfl, j3 _⟩
 have HV : Hid (VAt W H 54 Z ∧ w.grownBy W none) := by rw [← hZ, ← HH.out]; exact ⟨HX.out.2.1, HX.out.2.2.1⟩
 have HYE : Hid ((opN 8 0).cells.toArray = Y) := hY
 rw [hY] at HBK
 have HE : Hid (w.heap.size ≤ H) := Nat.le_of_eq HH.out
 clear hY hZ HX HH c1 f1
 go_wp2_with (first | refine o6 rfl 54 _ rfl _ (by kernel_rfl) (.agg Y) HBK.out ?_ | refine wpList_store_row rfl 54 (.tmp 4) (.tmp 11) rfl H Y rfl rfl 54 Z HV.out.1 HY.out.1 HY.out.2.1 HY.out.2.2 ?_)
 refine bodyPost_ret (l8 rfl _ _ H Y _ rfl (VAt.setRow HV.out.1 _) Tryz.underlying54 rfl HY.out.1) rfl ?_
 exact ⟨by rw [HYE.out]; rfl, j7 HV.out.2 H _ (.inr HE.out)⟩
theorem a60 (w : World) (x : List UInt8) (e0 : (x == [111, 114]) = false) (e1 : (x == [124, 124]) = false) : Calls Tryz.prog 26 #[.int .i64 1, str x] w fun e w' => e = .returned (.tuple #[.agg (opN 8 0).cells.toArray, .bool false]) ∧ w.grownBy w' none := by
 have HN := BN.new w (ndK 4)
 have HB11 := t8 4 (by decide)
 go_enter Tryz.func26, Tryz.ntmps26
 go_upto_region 1 with fail
 rw [show #[.int .i64 0, .int .i64 0, .int .u32 0, .int .u32 0, .int .i64 0, .int .i64 0, .int .i64 0, .int .u8 0, .int .u8 0, .int .u8 0, .int .u8 0, .int .u8 0, .int .u8 0, .int .u8 0, .int .u8 0, .int .u8 0, .int .u8 0, .int .u8 0, .int .u8 0, .int .u8 0, .int .u8 0, .int .u8 0, .int .u8 0, .int .i64 0] = nd0.cells.toArray from rfl]
 have HS : Hid ((Tryz.prog.info? 54).map (·.size) = some (ndK 4).cells.toArray.size) := g8 _
 generalize w.alloc (.cells nd0.cells.toArray 54) = w1 at *
 go_upto_region 2 with (first | refine o6 rfl 54 _ rfl _ (by kernel_rfl) (.agg (ndK 4).cells.toArray) HB11 ?_ | refine wpList_store_row rfl 54 (.tmp 6) (.tmp 7) rfl w1.heap.size (ndK 4).cells.toArray rfl rfl 54 _ (VAt.alloc w1 _ _) HS.out rfl (j3 _) ?_)
 rw [World.setRow_alloc_new]
 generalize w1.alloc (.cells (ndK 4).cells.toArray 54) = W at *
 generalize w1.heap.size = B at *
 obtain ⟨H, hH⟩ : ∃ H, w.heap.size = H := ⟨_, rfl⟩
 have c1 : W.cell? ⟨B, 1, none⟩ = some (.int .i64 0) := VAt.cell HN.1 1
 have f1 := VAt.free HN.1 1
 have HX : Hid (BN w W B (opN 4 0)) := HN
 rw [hH]
 have HH : Hid (w.heap.size = H) := hH
 clear HN hH HS HB11
 have HBK : Hid (∀ W : World, (Instr.build 54 #[(0, .int .i64 8)]).run Tryz.prog W = .ok (.agg (opN 8 0).cells.toArray) W) := t8 8 (by decide)
 obtain ⟨Y, hY⟩ : ∃ Y, (opN 8 0).cells.toArray = Y := ⟨_, rfl⟩
 obtain ⟨Z, hZ⟩ : ∃ Z, nd0.cells.toArray = Z := ⟨_, rfl⟩
 have HY : Hid ((Tryz.prog.info? 54).map (·.size) = some Y.size ∧ Z.size = Y.size ∧ Y.all (·.oneCell') = true) := by rw [← hY, ← hZ]; exact ⟨g8 _, rfl, j3 _⟩
 have HV : Hid (VAt W H 54 Z ∧ w.grownBy W none) := by rw [← hZ, ← HH.out]; exact ⟨HX.out.2.1, HX.out.2.2.1⟩
 have HYE : Hid ((opN 8 0).cells.toArray = Y) := hY
 rw [hY] at HBK
 have HE : Hid (w.heap.size ≤ H) := Nat.le_of_eq HH.out
 clear hY hZ HX HH c1 f1
 go_wp2_with (first | refine o6 rfl 54 _ rfl _ (by kernel_rfl) (.agg Y) HBK.out ?_ | refine wpList_store_row rfl 54 (.tmp 4) (.tmp 11) rfl H Y rfl rfl 54 Z HV.out.1 HY.out.1 HY.out.2.1 HY.out.2.2 ?_)
 refine bodyPost_ret (l8 rfl _ _ H Y _ rfl (VAt.setRow HV.out.1 _) Tryz.underlying54 rfl HY.out.1) rfl ?_
 exact ⟨by rw [HYE.out]; rfl, j7 HV.out.2 H _ (.inr HE.out)⟩
theorem a62 (w : World) : Calls Tryz.prog 26 #[.int .i64 2, str [97, 110, 100]] w fun e w' => e = .returned (.tuple #[.agg (opN 7 0).cells.toArray, .bool true]) ∧ w.grownBy w' none := by
 have HN := BN.new w (ndK 4)
 have HB11 := t8 4 (by decide)
 go_enter Tryz.func26, Tryz.ntmps26
 go_upto_region 1 with fail
 rw [show #[.int .i64 0, .int .i64 0, .int .u32 0, .int .u32 0, .int .i64 0, .int .i64 0, .int .i64 0, .int .u8 0, .int .u8 0, .int .u8 0, .int .u8 0, .int .u8 0, .int .u8 0, .int .u8 0, .int .u8 0, .int .u8 0, .int .u8 0, .int .u8 0, .int .u8 0, .int .u8 0, .int .u8 0, .int .u8 0, .int .u8 0, .int .i64 0] = nd0.cells.toArray from rfl]
 have HS : Hid ((Tryz.prog.info? 54).map (·.size) = some (ndK 4).cells.toArray.size) := g8 _
 generalize w.alloc (.cells nd0.cells.toArray 54) = w1 at *
 go_upto_region 2 with (first | refine o6 rfl 54 _ rfl _ (by kernel_rfl) (.agg (ndK 4).cells.toArray) HB11 ?_ | refine wpList_store_row rfl 54 (.tmp 6) (.tmp 7) rfl w1.heap.size (ndK 4).cells.toArray rfl rfl 54 _ (VAt.alloc w1 _ _) HS.out rfl (j3 _) ?_)
 rw [World.setRow_alloc_new]
 generalize w1.alloc (.cells (ndK 4).cells.toArray 54) = W at *
 generalize w1.heap.size = B at *
 obtain ⟨H, hH⟩ : ∃ H, w.heap.size = H := ⟨_, rfl⟩
 have c1 : W.cell? ⟨B, 1, none⟩ = some (.int .i64 0) := VAt.cell HN.1 1
 have f1 := VAt.free HN.1 1
 have HX : Hid (BN w W B (opN 4 0)) := HN
 rw [hH]
 have HH : Hid (w.heap.size = H) := hH
 clear HN hH HS HB11
 have HBK : Hid (∀ W : World, (Instr.build 54 #[(0, .int .i64 7)]).run Tryz.prog W = .ok (.agg (opN 7 0).cells.toArray) W) := t8 7 (by decide)
 obtain ⟨Y, hY⟩ : ∃ Y, (opN 7 0).cells.toArray = Y := ⟨_, rfl⟩
 obtain ⟨Z, hZ⟩ : ∃ Z, nd0.cells.toArray = Z := ⟨_, rfl⟩
 have HY : Hid ((Tryz.prog.info? 54).map (·.size) = some Y.size ∧ Z.size = Y.size ∧ Y.all (·.oneCell') = true) := by rw [← hY, ← hZ]; exact ⟨g8 _, rfl, j3 _⟩
 have HV : Hid (VAt W H 54 Z ∧ w.grownBy W none) := by rw [← hZ, ← HH.out]; exact ⟨HX.out.2.1, HX.out.2.2.1⟩
 have HYE : Hid ((opN 7 0).cells.toArray = Y) := hY
 rw [hY] at HBK
 have HE : Hid (w.heap.size ≤ H) := Nat.le_of_eq HH.out
 clear hY hZ HX HH c1 f1
 go_wp2_with (first | refine o6 rfl 54 _ rfl _ (by kernel_rfl) (.agg Y) HBK.out ?_ | refine wpList_store_row rfl 54 (.tmp 4) (.tmp 20) rfl H Y rfl rfl 54 Z HV.out.1 HY.out.1 HY.out.2.1 HY.out.2.2 ?_)
 refine bodyPost_ret (l8 rfl _ _ H Y _ rfl (VAt.setRow HV.out.1 _) Tryz.underlying54 rfl HY.out.1) rfl ?_
 exact ⟨by rw [HYE.out]; rfl, j7 HV.out.2 H _ (.inr HE.out)⟩
theorem a63 (w : World) : Calls Tryz.prog 26 #[.int .i64 2, str [38, 38]] w fun e w' => e = .returned (.tuple #[.agg (opN 7 0).cells.toArray, .bool true]) ∧ w.grownBy w' none := by
 have HN := BN.new w (ndK 4)
 have HB11 := t8 4 (by decide)
 go_enter Tryz.func26, Tryz.ntmps26
 go_upto_region 1 with fail
 rw [show #[.int .i64 0, .int .i64 0, .int .u32 0, .int .u32 0, .int .i64 0, .int .i64 0, .int .i64 0, .int .u8 0, .int .u8 0, .int .u8 0, .int .u8 0, .int .u8 0, .int .u8 0, .int .u8 0, .int .u8 0, .int .u8 0, .int .u8 0, .int .u8 0, .int .u8 0, .int .u8 0, .int .u8 0, .int .u8 0, .int .u8 0, .int .i64 0] = nd0.cells.toArray from rfl]
 have HS : Hid ((Tryz.prog.info? 54).map (·.size) = some (ndK 4).cells.toArray.size) := g8 _
 generalize w.alloc (.cells nd0.cells.toArray 54) = w1 at *
 go_upto_region 2 with (first | refine o6 rfl 54 _ rfl _ (by kernel_rfl) (.agg (ndK 4).cells.toArray) HB11 ?_ | refine wpList_store_row rfl 54 (.tmp 6) (.tmp 7) rfl w1.heap.size (ndK 4).cells.toArray rfl rfl 54 _ (VAt.alloc w1 _ _) HS.out rfl (j3 _) ?_)
 rw [World.setRow_alloc_new]
 generalize w1.alloc (.cells (ndK 4).cells.toArray 54) = W at *
 generalize w1.heap.size = B at *
 obtain ⟨H, hH⟩ : ∃ H, w.heap.size = H := ⟨_, rfl⟩
 have c1 : W.cell? ⟨B, 1, none⟩ = some (.int .i64 0) := VAt.cell HN.1 1
 have f1 := VAt.free HN.1 1
 have HX : Hid (BN w W B (opN 4 0)) := HN
 rw [hH]
 have HH : Hid (w.heap.size = H) := hH
 clear HN hH HS HB11
 have HBK : Hid (∀ W : World, (Instr.build 54 #[(0, .int .i64 7)]).run Tryz.prog W = .ok (.agg (opN 7 0).cells.toArray) W) := t8 7 (by decide)
 obtain ⟨Y, hY⟩ : ∃ Y, (opN 7 0).cells.toArray = Y := ⟨_, rfl⟩
 obtain ⟨Z, hZ⟩ : ∃ Z, nd0.cells.toArray = Z := ⟨_, rfl⟩
 have HY : Hid ((Tryz.prog.info? 54).map (·.size) = some Y.size ∧ Z.size = Y.size ∧ Y.all (·.oneCell') = true) := by rw [← hY, ← hZ]; exact ⟨g8 _, rfl, j3 _⟩
 have HV : Hid (VAt W H 54 Z ∧ w.grownBy W none) := by rw [← hZ, ← HH.out]; exact ⟨HX.out.2.1, HX.out.2.2.1⟩
 have HYE : Hid ((opN 7 0).cells.toArray = Y) := hY
 rw [hY] at HBK
 have HE : Hid (w.heap.size ≤ H) := Nat.le_of_eq HH.out
 clear hY hZ HX HH c1 f1
 go_wp2_with (first | refine o6 rfl 54 _ rfl _ (by kernel_rfl) (.agg Y) HBK.out ?_ | refine wpList_store_row rfl 54 (.tmp 4) (.tmp 20) rfl H Y rfl rfl 54 Z HV.out.1 HY.out.1 HY.out.2.1 HY.out.2.2 ?_)
 refine bodyPost_ret (l8 rfl _ _ H Y _ rfl (VAt.setRow HV.out.1 _) Tryz.underlying54 rfl HY.out.1) rfl ?_
 exact ⟨by rw [HYE.out]; rfl, j7 HV.out.2 H _ (.inr HE.out)⟩
theorem a64 (w : World) (x : List UInt8) (e0 : (x == [97, 110, 100]) = false) (e1 : (x == [38, 38]) = false) : Calls Tryz.prog 26 #[.int .i64 2, str x] w fun e w' => e = .returned (.tuple #[.agg (opN 7 0).cells.toArray, .bool false]) ∧ w.grownBy w' none := by
 have HN := BN.new w (ndK 4)
 have HB11 := t8 4 (by decide)
 go_enter Tryz.func26, Tryz.ntmps26
 go_upto_region 1 with fail
 rw [show #[.int .i64 0, .int .i64 0, .int .u32 0, .int .u32 0, .int .i64 0, .int .i64 0, .int .i64 0, .int .u8 0, .int .u8 0, .int .u8 0, .int .u8 0, .int .u8 0, .int .u8 0, .int .u8 0, .int .u8 0, .int .u8 0, .int .u8 0, .int .u8 0, .int .u8 0, .int .u8 0, .int .u8 0, .int .u8 0, .int .u8 0, .int .i64 0] = nd0.cells.toArray from rfl]
 have HS : Hid ((Tryz.prog.info? 54).map (·.size) = some (ndK 4).cells.toArray.size) := g8 _
 generalize w.alloc (.cells nd0.cells.toArray 54) = w1 at *
 go_upto_region 2 with (first | refine o6 rfl 54 _ rfl _ (by kernel_rfl) (.agg (ndK 4).cells.toArray) HB11 ?_ | refine wpList_store_row rfl 54 (.tmp 6) (.tmp 7) rfl w1.heap.size (ndK 4).cells.toArray rfl rfl 54 _ (VAt.alloc w1 _ _) HS.out rfl (j3 _) ?_)
 rw [World.setRow_alloc_new]
 generalize w1.alloc (.cells (ndK 4).cells.toArray 54) = W at *
 generalize w1.heap.size = B at *
 obtain ⟨H, hH⟩ : ∃ H, w.heap.size = H := ⟨_, rfl⟩
 have c1 : W.cell? ⟨B, 1, none⟩ = some (.int .i64 0) := VAt.cell HN.1 1
 have f1 := VAt.free HN.1 1
 have HX : Hid (BN w W B (opN 4 0)) := HN
 rw [hH]
 have HH : Hid (w.heap.size = H) := hH
 clear HN hH HS HB11
 have HBK : Hid (∀ W : World, (Instr.build 54 #[(0, .int .i64 7)]).run Tryz.prog W = .ok (.agg (opN 7 0).cells.toArray) W) := t8 7 (by decide)
 obtain ⟨Y, hY⟩ : ∃ Y, (opN 7 0).cells.toArray = Y := ⟨_, rfl⟩
 obtain ⟨Z, hZ⟩ : ∃ Z, nd0.cells.toArray = Z := ⟨_, rfl⟩
 have HY : Hid ((Tryz.prog.info? 54).map (·.size) = some Y.size ∧ Z.size = Y.size ∧ Y.all (·.oneCell') = true) := by rw [← hY, ← hZ]; exact ⟨g8 _, rfl, j3 _⟩
 have HV : Hid (VAt W H 54 Z ∧ w.grownBy W none) := by rw [← hZ, ← HH.out]; exact ⟨HX.out.2.1, HX.out.2.2.1⟩
 have HYE : Hid ((opN 7 0).cells.toArray = Y) := hY
 rw [hY] at HBK
 have HE : Hid (w.heap.size ≤ H) := Nat.le_of_eq HH.out
 clear hY hZ HX HH c1 f1
 go_wp2_with (first | refine o6 rfl 54 _ rfl _ (by kernel_rfl) (.agg Y) HBK.out ?_ | refine wpList_store_row rfl 54 (.tmp 4) (.tmp 20) rfl H Y rfl rfl 54 Z HV.out.1 HY.out.1 HY.out.2.1 HY.out.2.2 ?_)
 refine bodyPost_ret (l8 rfl _ _ H Y _ rfl (VAt.setRow HV.out.1 _) Tryz.underlying54 rfl HY.out.1) rfl ?_
 exact ⟨by rw [HYE.out]; rfl, j7 HV.out.2 H _ (.inr HE.out)⟩
theorem a66 (w : World) (x : List UInt8) : Calls Tryz.prog 26 #[.int .i64 4, str x] w fun e w' => ∃ n : Nd, e = .returned (.tuple #[.agg n.cells.toArray, .bool (l0 4 x).isSome]) ∧ (∀ b, l0 4 x = some b → n = b) ∧ w.grownBy w' none := by
 have CR : Hid (∀ W : World, Calls Tryz.prog 46 #[str x] W fun e w' => ∃ n : Nd, e = .returned (.tuple #[.agg n.cells.toArray, .bool (l0 4 x).isSome]) ∧ (∀ b, l0 4 x = some b → n = b) ∧ W.grownBy w' none) := fun W => a9m x W
 obtain ⟨ans, hans⟩ : ∃ ans, l0 4 x = ans := ⟨_, rfl⟩
 rw [hans] at CR
 simp only [hans]
 have HN := BN.new w (ndK 4)
 have HB11 := t8 4 (by decide)
 go_enter Tryz.func26, Tryz.ntmps26
 go_upto_region 1 with fail
 rw [show #[.int .i64 0, .int .i64 0, .int .u32 0, .int .u32 0, .int .i64 0, .int .i64 0, .int .i64 0, .int .u8 0, .int .u8 0, .int .u8 0, .int .u8 0, .int .u8 0, .int .u8 0, .int .u8 0, .int .u8 0, .int .u8 0, .int .u8 0, .int .u8 0, .int .u8 0, .int .u8 0, .int .u8 0, .int .u8 0, .int .u8 0, .int .i64 0] = nd0.cells.toArray from rfl]
 have HS : Hid ((Tryz.prog.info? 54).map (·.size) = some (ndK 4).cells.toArray.size) := g8 _
 generalize w.alloc (.cells nd0.cells.toArray 54) = w1 at *
 go_upto_region 2 with (first | refine o6 rfl 54 _ rfl _ (by kernel_rfl) (.agg (ndK 4).cells.toArray) HB11 ?_ | refine wpList_store_row rfl 54 (.tmp 6) (.tmp 7) rfl w1.heap.size (ndK 4).cells.toArray rfl rfl 54 _ (VAt.alloc w1 _ _) HS.out rfl (j3 _) ?_)
 rw [World.setRow_alloc_new]
 generalize w1.alloc (.cells (ndK 4).cells.toArray 54) = W at *
 generalize w1.heap.size = B at *
 obtain ⟨H, hH⟩ : ∃ H, w.heap.size = H := ⟨_, rfl⟩
 have c1 : W.cell? ⟨B, 1, none⟩ = some (.int .i64 0) := VAt.cell HN.1 1
 have f1 := VAt.free HN.1 1
 have HX : Hid (BN w W B (opN 4 0)) := HN
 rw [hH]
 have HH : Hid (w.heap.size = H) := hH
 clear HN hH HS HB11
 have HW : Hid (VAt W H 54 nd0.cells.toArray ∧ w.grownBy W none) := by rw [← HH.out]; exact ⟨HX.out.2.1, HX.out.2.2.1⟩
 have HE : Hid (w.heap.size ≤ H) := Nat.le_of_eq HH.out
 have CX := CR.out W
 clear HX HH c1 f1 CR hans
 go_wp2_with fail
 refine CX.mono ?_
 rintro e w2 ⟨n, rfl, hn, G⟩
 obtain ⟨Y, hY⟩ : ∃ Y, n.cells.toArray = Y := ⟨_, rfl⟩
 obtain ⟨Z, hZ⟩ : ∃ Z, nd0.cells.toArray = Z := ⟨_, rfl⟩
 have HY : Hid ((Tryz.prog.info? 54).map (·.size) = some Y.size ∧ Z.size = Y.size ∧ Y.all (·.oneCell') = true) := by rw [← hY, ← hZ]; exact ⟨g8 _, rfl, j3 _⟩
 have HV : Hid (VAt w2 H 54 Z ∧ w.grownBy w2 none) := by rw [← hZ]; exact ⟨HW.out.1.kept G, d5 HW.out.2 G⟩
 have HN : Hid (n.cells.toArray = Y ∧ ∀ b, ans = some b → n = b) := ⟨hY, hn⟩
 rw [hY]
 clear hY hZ HW CX hn G
 obtain ⟨bb, hbb⟩ : ∃ bb, ans.isSome = bb := ⟨_, rfl⟩
 have HBB : Hid (ans.isSome = bb) := hbb
 rw [hbb]
 clear hbb
 go_wp2_with (refine wpList_store_row rfl 54 (.tmp 4) (.tmp 31) rfl H Y rfl rfl 54 Z HV.out.1 HY.out.1 HY.out.2.1 HY.out.2.2 ?_)
 refine bodyPost_ret (l8 rfl _ _ H Y _ rfl (VAt.setRow HV.out.1 _) Tryz.underlying54 rfl HY.out.1) rfl ?_
 exact ⟨n, by rw [HN.out.1, HBB.out]; rfl, HN.out.2, j7 HV.out.2 H _ (.inr HE.out)⟩
def a1v (k : Nat) : Prop := k = 1 ∨ k = 2 ∨ k = 4 ∨ k = 5 ∨ k = 6 ∨ k = 7 ∨ k = 8 ∨ k = 9 ∨ k = 10
theorem a93 (k : Nat) (hk : a1v k) (x : List UInt8) (w : World) : Calls Tryz.prog 26 #[.int .i64 (k : Int), str x] w fun e w' => ∃ n : Nd, e = .returned (.tuple #[.agg n.cells.toArray, .bool (l0 k x).isSome]) ∧ (∀ b, l0 k x = some b → n = b) ∧ w.grownBy w' none := by
 rcases hk with rfl | rfl | rfl | rfl | rfl | rfl | rfl | rfl | rfl
 ·by_cases h0 : x = [111, 114]
  ·subst h0; exact (a5Y w).mono fun _ _ ⟨p, q⟩ => ⟨_, p, fun b hb => by cases hb; rfl, q⟩
  by_cases h1 : x = [124, 124]
  ·subst h1; exact (a5Z w).mono fun _ _ ⟨p, q⟩ => ⟨_, p, fun b hb => by cases hb; rfl, q⟩
  have hn : l0 1 x = none := by simp [l0, wOr, h0, h1]
  rw [hn]
  exact (a60 w x (by simpa using h0) (by simpa using h1)).mono fun _ _ ⟨p, q⟩ => ⟨_, p, fun b hb => (by cases hb), q⟩
 ·by_cases h0 : x = [97, 110, 100]
  ·subst h0; exact (a62 w).mono fun _ _ ⟨p, q⟩ => ⟨_, p, fun b hb => by cases hb; rfl, q⟩
  by_cases h1 : x = [38, 38]
  ·subst h1; exact (a63 w).mono fun _ _ ⟨p, q⟩ => ⟨_, p, fun b hb => by cases hb; rfl, q⟩
  have hn : l0 2 x = none := by simp [l0, a29, h0, h1]
  rw [hn]
  exact (a64 w x (by simpa using h0) (by simpa using h1)).mono fun _ _ ⟨p, q⟩ => ⟨_, p, fun b hb => (by cases hb), q⟩
 ·exact a66 w x
 ·by_cases h0 : x = [124]
  ·subst h0; exact (a68 w).mono fun _ _ ⟨p, q⟩ => ⟨_, p, fun b hb => by cases hb; rfl, q⟩
  have hn : l0 5 x = none := by simp [l0, h0]
  rw [hn]
  exact (a69 w x (by simpa using h0)).mono fun _ _ ⟨p, q⟩ => ⟨_, p, fun b hb => (by cases hb), q⟩
 ·by_cases h0 : x = [94]
  ·subst h0; exact (a6b w).mono fun _ _ ⟨p, q⟩ => ⟨_, p, fun b hb => by cases hb; rfl, q⟩
  have hn : l0 6 x = none := by simp [l0, h0]
  rw [hn]
  exact (a6c w x (by simpa using h0)).mono fun _ _ ⟨p, q⟩ => ⟨_, p, fun b hb => (by cases hb), q⟩
 ·by_cases h0 : x = [38]
  ·subst h0; exact (a6e w).mono fun _ _ ⟨p, q⟩ => ⟨_, p, fun b hb => by cases hb; rfl, q⟩
  have hn : l0 7 x = none := by simp [l0, h0]
  rw [hn]
  exact (a6f w x (by simpa using h0)).mono fun _ _ ⟨p, q⟩ => ⟨_, p, fun b hb => (by cases hb), q⟩
 ·by_cases h0 : x = [60, 60]
  ·subst h0; exact (a6h w).mono fun _ _ ⟨p, q⟩ => ⟨_, p, fun b hb => by cases hb; rfl, q⟩
  by_cases h1 : x = [62, 62]
  ·subst h1; exact (a6i w).mono fun _ _ ⟨p, q⟩ => ⟨_, p, fun b hb => by cases hb; rfl, q⟩
  have hn : l0 8 x = none := by simp [l0, h0, h1]
  rw [hn]
  exact (a6j w x (by simpa using h0) (by simpa using h1)).mono fun _ _ ⟨p, q⟩ => ⟨_, p, fun b hb => (by cases hb), q⟩
 ·by_cases h0 : x = [43]
  ·subst h0; exact (a6l w).mono fun _ _ ⟨p, q⟩ => ⟨_, p, fun b hb => by cases hb; rfl, q⟩
  by_cases h1 : x = [45]
  ·subst h1; exact (a6m w).mono fun _ _ ⟨p, q⟩ => ⟨_, p, fun b hb => by cases hb; rfl, q⟩
  have hn : l0 9 x = none := by simp [l0, h0, h1]
  rw [hn]
  exact (a6n w x (by simpa using h0) (by simpa using h1)).mono fun _ _ ⟨p, q⟩ => ⟨_, p, fun b hb => (by cases hb), q⟩
 ·by_cases h0 : x = [42]
  ·subst h0; exact (a5U w).mono fun _ _ ⟨p, q⟩ => ⟨_, p, fun b hb => by cases hb; rfl, q⟩
  by_cases h1 : x = [47]
  ·subst h1; exact (a5V w).mono fun _ _ ⟨p, q⟩ => ⟨_, p, fun b hb => by cases hb; rfl, q⟩
  by_cases h2 : x = [37]
  ·subst h2; exact (a5W w).mono fun _ _ ⟨p, q⟩ => ⟨_, p, fun b hb => by cases hb; rfl, q⟩
  have hn : l0 10 x = none := by simp [l0, h0, h1, h2]
  rw [hn]
  exact (a5X w x (by simpa using h0) (by simpa using h1) (by simpa using h2)).mono fun _ _ ⟨p, q⟩ => ⟨_, p, fun b hb => (by cases hb), q⟩

end Go.Proofs.YtlfmddjppejmaaaGreatDoor
