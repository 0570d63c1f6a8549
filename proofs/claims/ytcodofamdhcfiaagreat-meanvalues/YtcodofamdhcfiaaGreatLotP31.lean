import Derived.Test.YtcodofamdhcfiaaGreatRmB
namespace Go.Proofs.YtcodofamdhcfiaaGreat
open Go.RowKit
set_option maxRecDepth 100000
theorem four14 (w : World) (n : Ng) (x y : Rp) : Hid (VAt ((((w.alloc (.cells n.cells.toArray 52)).alloc (.cells (rpA x) 46)).alloc (.cells (rpA y) 46)).alloc (.cells #[.int .u32 0, .bool false, .bool false, .int .i64 0] 46)) w.heap.size 52 n.cells.toArray ∧ VAt ((((w.alloc (.cells n.cells.toArray 52)).alloc (.cells (rpA x) 46)).alloc (.cells (rpA y) 46)).alloc (.cells #[.int .u32 0, .bool false, .bool false, .int .i64 0] 46)) (w.heap.size + 1) 46 (rpA x) ∧ VAt ((((w.alloc (.cells n.cells.toArray 52)).alloc (.cells (rpA x) 46)).alloc (.cells (rpA y) 46)).alloc (.cells #[.int .u32 0, .bool false, .bool false, .int .i64 0] 46)) (w.heap.size + 2) 46 (rpA y) ∧ VAt ((((w.alloc (.cells n.cells.toArray 52)).alloc (.cells (rpA x) 46)).alloc (.cells (rpA y) 46)).alloc (.cells #[.int .u32 0, .bool false, .bool false, .int .i64 0] 46)) (w.heap.size + 3) 46 #[.int .u32 0, .bool false, .bool false, .int .i64 0] ∧ w.grownBy ((((w.alloc (.cells n.cells.toArray 52)).alloc (.cells (rpA x) 46)).alloc (.cells (rpA y) 46)).alloc (.cells #[.int .u32 0, .bool false, .bool false, .int .i64 0] 46)) none) := blk4 w _ _ _ _ _ _ _ _
theorem rp_cells {w : World} {B : Nat} {x : Rp} (h : VAt w B 46 (rpA x)) : w.cell? ⟨B, 0, none⟩ = some (.int .u32 (x.v : Int)) ∧ w.cell? ⟨B, 1, none⟩ = some (.bool x.ab) ∧ w.cell? ⟨B, 2, none⟩ = some (.bool x.fl) ∧ w.cell? ⟨B, 3, none⟩ = some (.int .i64 x.sd) := ⟨h.cell 0, h.cell 1, h.cell 2, h.cell 3⟩
set_option maxHeartbeats 16000000 in
theorem refarith14_any (n : Ng) (x y : Rp) (hx : x.v ≤ 4294967295) (hy : y.v ≤ 4294967295) (ho : 1 ≤ n.op ∧ n.op ≤ 10) (w : World) : Calls Tryz.prog 49 #[.agg n.cells.toArray, .agg (rpA x), .agg (rpA y)] w fun e w' => e = .returned (.agg (rpA (arithR n.op x y))) ∧ w.grownBy w' none := by
 have HB1 := box_ng n
 have HB2 := box_rp x
 have HB3 := box_rp y
 have HV := four14 w n x y
 obtain ⟨NA, hNA⟩ : ∃ A, n.cells.toArray = A := ⟨_, rfl⟩
 obtain ⟨XA, hXA⟩ : ∃ A, rpA x = A := ⟨_, rfl⟩
 obtain ⟨YA, hYA⟩ : ∃ A, rpA y = A := ⟨_, rfl⟩
 have HNX : Hid (n.cells.toArray = NA ∧ rpA x = XA ∧ rpA y = YA) := ⟨hNA, hXA, hYA⟩
 rw [hNA, hXA, hYA] at HV
 rw [hNA] at HB1
 rw [hXA] at HB2
 rw [hYA] at HB3
 rw [hNA, hXA, hYA]
 clear hNA hXA hYA
 have HAR : Hid (∀ W, (¬ (divG n.op = true ∧ y.v = 0) → Calls Tryz.prog 72 #[.int .i64 n.op, .int .u32 (x.v : Int), .int .u32 (y.v : Int)] W fun e w' => e = .returned (.tuple #[.int .u32 (arithG n.op x.v y.v : Int), .bool true]) ∧ W = w') ∧ ((divG n.op = true ∧ y.v = 0) → Calls Tryz.prog 72 #[.int .i64 n.op, .int .u32 (x.v : Int), .int .u32 (y.v : Int)] W fun e w' => e = .returned (.tuple #[.int .u32 ((0 : Nat) : Int), .bool false]) ∧ W = w')) := fun W => ⟨fun h => refarith_any n.op x.v y.v hx hy ho (fun hd h0 => h ⟨hd, h0⟩) W, fun h => by
  rw [h.2]
  exact refarith_zero n.op x.v hx h.1 W⟩
 obtain ⟨R, hR⟩ : ∃ R, arithR n.op x y = R := ⟨_, rfl⟩
 rw [hR]
 have HR : Hid (R = arithR n.op x y) := hR.symm
 clear hR hx hy ho
 have HSZ : Hid (∀ q, (Tryz.prog.info? 46).map (·.size) = some (rpA q).size ∧ 4 = (rpA q).size ∧ (rpA q).all (·.oneCell') = true) := fun q => ⟨rp_size q, rfl, rp_all q⟩
 go_enter Tryz.func49, Tryz.ntmps49
 go_upto_region 1 with fail
 generalize (((w.alloc (.cells NA 52)).alloc (.cells XA 46)).alloc (.cells YA 46)).alloc (.cells #[.int .u32 0, .bool false, .bool false, .int .i64 0] 46) = w1 at *
 obtain ⟨B, hB, HB⟩ : ∃ B, w.heap.size = B ∧ Hid (w.heap.size ≤ B + 3) := ⟨_, rfl, Nat.le_add_right _ _⟩
 rw [hB] at HV ⊢
 clear HB1 HB2 HB3 hB
 obtain ⟨v1, v2, v3, v4, K1⟩ := HV.out
 rw [← HNX.out.1] at v1
 rw [← HNX.out.2.1] at v2
 rw [← HNX.out.2.2] at v3
 have n1 : w1.cell? ⟨B, 1, none⟩ = some (.int .i64 n.op) := v1.cell 1
 obtain ⟨x0, x1, x2, -⟩ := rp_cells v2
 obtain ⟨y0, y1, y2, -⟩ := rp_cells v3
 have HV4 : Hid (VAt w1 (B + 3) 46 #[.int .u32 0, .bool false, .bool false, .int .i64 0] ∧ w.grownBy w1 none) := ⟨v4, K1⟩
 have hlt := v4.lt
 have HLT : Hid (B + 3 < w1.heap.size) := hlt
 clear HV v1 v2 v3 v4 K1 HNX hlt
 obtain ⟨xv, xa, xf, xs⟩ := x
 obtain ⟨yv, ya, yf, ys⟩ := y
 simp only at x0 x1 x2 y0 y1 y2 HAR
 generalize n.op = op at *
 cases xa with
 | true =>
  cases ya with
  | true =>
   cases xf with
   | true =>
    cases yf with
    | true =>
     go_upto_region 2 with (first
      | (refine wpList_bld rfl 46 _ rfl #[(1, .bool true), (2, .bool true)] (by kernel_rfl) (.agg (rpA ⟨0, true, true, 0⟩)) (bld_rpaf _ _) ?_)
      | (refine wpList_store_row rfl 46 (.tmp 7) (.tmp 22) rfl w1.heap.size (rpA ⟨0, true, true, 0⟩) rfl rfl 46 _ (heap_alloc_new w1 _) (HSZ.out _).1 (HSZ.out _).2.1 (HSZ.out _).2.2 ?_))
     rw [World.setRow_alloc_new]
     have V7 := VAt.alloc w1 46 (rpA ⟨0, true, true, 0⟩)
     have K7 := World.grownBy_alloc w1 (.cells (rpA ⟨0, true, true, 0⟩) 46) none
     have HV7 : Hid (VAt _ (B + 3) 46 #[.int .u32 0, .bool false, .bool false, .int .i64 0] ∧ w.grownBy _ none) := ⟨HV4.out.1.kept K7, grown_trans HV4.out.2 K7⟩
     have n1 := K7.cell n1 (by simp)
     have x0 := K7.cell x0 (by simp)
     have y0 := K7.cell y0 (by simp)
     generalize w1.alloc (.cells (rpA ⟨0, true, true, 0⟩) 46) = w2 at *
     generalize w1.heap.size = T at *
     obtain ⟨-, t1, t2, -⟩ := rp_cells V7
     have HV8 : Hid (VAt w2 T 46 (rpA ⟨0, true, true, 0⟩)) := V7
     clear V7 K7 x1 x2 y1 y2
     have HF : Hid (R = ⟨0, true, true, 0⟩) := HR.out
     clear HR
     go_wp2_with (first
      | (refine wpList_load_row rfl 46 (.tmp 7) rfl T rfl 46 (rpA ⟨0, true, true, 0⟩) (0, 0) _ HV8.out Tryz.underlying46 rfl (HSZ.out _).1 ?_)
      | (refine wpList_store_row rfl 46 (.tmp 6) (.tmp 29) rfl (B + 3) (rpA ⟨0, true, true, 0⟩) rfl rfl 46 _ HV7.out.1 (HSZ.out _).1 (HSZ.out _).2.1 (HSZ.out _).2.2 ?_))
     refine bodyPost_ret (results_cell_row rfl _ _ (B + 3) _ (rpA ⟨0, true, true, 0⟩) (0, 0) _ rfl (HV7.out.1.setRow _) Tryz.underlying46 rfl (HSZ.out _).1) rfl ?_
     exact ⟨by rw [HF.out], vgrown_setRow HV7.out.2 _ _ (.inr HB.out)⟩
    | false =>
     go_upto_region 2 with (first
      | (refine wpList_bld rfl 46 _ rfl #[(1, .bool true), (2, .bool true)] (by kernel_rfl) (.agg (rpA ⟨0, true, true, 0⟩)) (bld_rpaf _ _) ?_)
      | (refine wpList_store_row rfl 46 (.tmp 7) (.tmp 22) rfl w1.heap.size (rpA ⟨0, true, true, 0⟩) rfl rfl 46 _ (heap_alloc_new w1 _) (HSZ.out _).1 (HSZ.out _).2.1 (HSZ.out _).2.2 ?_))
     rw [World.setRow_alloc_new]
     have V7 := VAt.alloc w1 46 (rpA ⟨0, true, true, 0⟩)
     have K7 := World.grownBy_alloc w1 (.cells (rpA ⟨0, true, true, 0⟩) 46) none
     have HV7 : Hid (VAt _ (B + 3) 46 #[.int .u32 0, .bool false, .bool false, .int .i64 0] ∧ w.grownBy _ none) := ⟨HV4.out.1.kept K7, grown_trans HV4.out.2 K7⟩
     have n1 := K7.cell n1 (by simp)
     have x0 := K7.cell x0 (by simp)
     have y0 := K7.cell y0 (by simp)
     generalize w1.alloc (.cells (rpA ⟨0, true, true, 0⟩) 46) = w2 at *
     generalize w1.heap.size = T at *
     obtain ⟨-, t1, t2, -⟩ := rp_cells V7
     have HV8 : Hid (VAt w2 T 46 (rpA ⟨0, true, true, 0⟩)) := V7
     clear V7 K7 x1 x2 y1 y2
     have HF : Hid (R = ⟨0, true, true, 0⟩) := HR.out
     clear HR
     go_wp2_with (first
      | (refine wpList_load_row rfl 46 (.tmp 7) rfl T rfl 46 (rpA ⟨0, true, true, 0⟩) (0, 0) _ HV8.out Tryz.underlying46 rfl (HSZ.out _).1 ?_)
      | (refine wpList_store_row rfl 46 (.tmp 6) (.tmp 29) rfl (B + 3) (rpA ⟨0, true, true, 0⟩) rfl rfl 46 _ HV7.out.1 (HSZ.out _).1 (HSZ.out _).2.1 (HSZ.out _).2.2 ?_))
     refine bodyPost_ret (results_cell_row rfl _ _ (B + 3) _ (rpA ⟨0, true, true, 0⟩) (0, 0) _ rfl (HV7.out.1.setRow _) Tryz.underlying46 rfl (HSZ.out _).1) rfl ?_
     exact ⟨by rw [HF.out], vgrown_setRow HV7.out.2 _ _ (.inr HB.out)⟩
   | false =>
    cases yf with
    | true =>
     go_upto_region 2 with (first
      | (refine wpList_bld rfl 46 _ rfl #[(1, .bool true), (2, .bool true)] (by kernel_rfl) (.agg (rpA ⟨0, true, true, 0⟩)) (bld_rpaf _ _) ?_)
      | (refine wpList_store_row rfl 46 (.tmp 7) (.tmp 22) rfl w1.heap.size (rpA ⟨0, true, true, 0⟩) rfl rfl 46 _ (heap_alloc_new w1 _) (HSZ.out _).1 (HSZ.out _).2.1 (HSZ.out _).2.2 ?_))
     rw [World.setRow_alloc_new]
     have V7 := VAt.alloc w1 46 (rpA ⟨0, true, true, 0⟩)
     have K7 := World.grownBy_alloc w1 (.cells (rpA ⟨0, true, true, 0⟩) 46) none
     have HV7 : Hid (VAt _ (B + 3) 46 #[.int .u32 0, .bool false, .bool false, .int .i64 0] ∧ w.grownBy _ none) := ⟨HV4.out.1.kept K7, grown_trans HV4.out.2 K7⟩
     have n1 := K7.cell n1 (by simp)
     have x0 := K7.cell x0 (by simp)
     have y0 := K7.cell y0 (by simp)
     generalize w1.alloc (.cells (rpA ⟨0, true, true, 0⟩) 46) = w2 at *
     generalize w1.heap.size = T at *
     obtain ⟨-, t1, t2, -⟩ := rp_cells V7
     have HV8 : Hid (VAt w2 T 46 (rpA ⟨0, true, true, 0⟩)) := V7
     clear V7 K7 x1 x2 y1 y2
     have HF : Hid (R = ⟨0, true, true, 0⟩) := HR.out
     clear HR
     go_wp2_with (first
      | (refine wpList_load_row rfl 46 (.tmp 7) rfl T rfl 46 (rpA ⟨0, true, true, 0⟩) (0, 0) _ HV8.out Tryz.underlying46 rfl (HSZ.out _).1 ?_)
      | (refine wpList_store_row rfl 46 (.tmp 6) (.tmp 29) rfl (B + 3) (rpA ⟨0, true, true, 0⟩) rfl rfl 46 _ HV7.out.1 (HSZ.out _).1 (HSZ.out _).2.1 (HSZ.out _).2.2 ?_))
     refine bodyPost_ret (results_cell_row rfl _ _ (B + 3) _ (rpA ⟨0, true, true, 0⟩) (0, 0) _ rfl (HV7.out.1.setRow _) Tryz.underlying46 rfl (HSZ.out _).1) rfl ?_
     exact ⟨by rw [HF.out], vgrown_setRow HV7.out.2 _ _ (.inr HB.out)⟩
    | false =>
     go_upto_region 2 with (first
      | (refine wpList_bld rfl 46 _ rfl #[(1, .bool true), (2, .bool false)] (by kernel_rfl) (.agg (rpA ⟨0, true, false, 0⟩)) (bld_rpaf _ _) ?_)
      | (refine wpList_store_row rfl 46 (.tmp 7) (.tmp 22) rfl w1.heap.size (rpA ⟨0, true, false, 0⟩) rfl rfl 46 _ (heap_alloc_new w1 _) (HSZ.out _).1 (HSZ.out _).2.1 (HSZ.out _).2.2 ?_))
     rw [World.setRow_alloc_new]
     have V7 := VAt.alloc w1 46 (rpA ⟨0, true, false, 0⟩)
     have K7 := World.grownBy_alloc w1 (.cells (rpA ⟨0, true, false, 0⟩) 46) none
     have HV7 : Hid (VAt _ (B + 3) 46 #[.int .u32 0, .bool false, .bool false, .int .i64 0] ∧ w.grownBy _ none) := ⟨HV4.out.1.kept K7, grown_trans HV4.out.2 K7⟩
     have n1 := K7.cell n1 (by simp)
     have x0 := K7.cell x0 (by simp)
     have y0 := K7.cell y0 (by simp)
     generalize w1.alloc (.cells (rpA ⟨0, true, false, 0⟩) 46) = w2 at *
     generalize w1.heap.size = T at *
     obtain ⟨-, t1, t2, -⟩ := rp_cells V7
     have HV8 : Hid (VAt w2 T 46 (rpA ⟨0, true, false, 0⟩)) := V7
     clear V7 K7 x1 x2 y1 y2
     have HF : Hid (R = ⟨0, true, false, 0⟩) := HR.out
     clear HR
     go_wp2_with (first
      | (refine wpList_load_row rfl 46 (.tmp 7) rfl T rfl 46 (rpA ⟨0, true, false, 0⟩) (0, 0) _ HV8.out Tryz.underlying46 rfl (HSZ.out _).1 ?_)
      | (refine wpList_store_row rfl 46 (.tmp 6) (.tmp 29) rfl (B + 3) (rpA ⟨0, true, false, 0⟩) rfl rfl 46 _ HV7.out.1 (HSZ.out _).1 (HSZ.out _).2.1 (HSZ.out _).2.2 ?_))
     refine bodyPost_ret (results_cell_row rfl _ _ (B + 3) _ (rpA ⟨0, true, false, 0⟩) (0, 0) _ rfl (HV7.out.1.setRow _) Tryz.underlying46 rfl (HSZ.out _).1) rfl ?_
     exact ⟨by rw [HF.out], vgrown_setRow HV7.out.2 _ _ (.inr HB.out)⟩
  | false =>
   cases xf with
   | true =>
    cases yf with
    | true =>
     go_upto_region 2 with (first
      | (refine wpList_bld rfl 46 _ rfl #[(1, .bool true), (2, .bool true)] (by kernel_rfl) (.agg (rpA ⟨0, true, true, 0⟩)) (bld_rpaf _ _) ?_)
      | (refine wpList_store_row rfl 46 (.tmp 7) (.tmp 22) rfl w1.heap.size (rpA ⟨0, true, true, 0⟩) rfl rfl 46 _ (heap_alloc_new w1 _) (HSZ.out _).1 (HSZ.out _).2.1 (HSZ.out _).2.2 ?_))
     rw [World.setRow_alloc_new]
     have V7 := VAt.alloc w1 46 (rpA ⟨0, true, true, 0⟩)
     have K7 := World.grownBy_alloc w1 (.cells (rpA ⟨0, true, true, 0⟩) 46) none
     have HV7 : Hid (VAt _ (B + 3) 46 #[.int .u32 0, .bool false, .bool false, .int .i64 0] ∧ w.grownBy _ none) := ⟨HV4.out.1.kept K7, grown_trans HV4.out.2 K7⟩
     have n1 := K7.cell n1 (by simp)
     have x0 := K7.cell x0 (by simp)
     have y0 := K7.cell y0 (by simp)
     generalize w1.alloc (.cells (rpA ⟨0, true, true, 0⟩) 46) = w2 at *
     generalize w1.heap.size = T at *
     obtain ⟨-, t1, t2, -⟩ := rp_cells V7
     have HV8 : Hid (VAt w2 T 46 (rpA ⟨0, true, true, 0⟩)) := V7
     clear V7 K7 x1 x2 y1 y2
     have HF : Hid (R = ⟨0, true, true, 0⟩) := HR.out
     clear HR
     go_wp2_with (first
      | (refine wpList_load_row rfl 46 (.tmp 7) rfl T rfl 46 (rpA ⟨0, true, true, 0⟩) (0, 0) _ HV8.out Tryz.underlying46 rfl (HSZ.out _).1 ?_)
      | (refine wpList_store_row rfl 46 (.tmp 6) (.tmp 29) rfl (B + 3) (rpA ⟨0, true, true, 0⟩) rfl rfl 46 _ HV7.out.1 (HSZ.out _).1 (HSZ.out _).2.1 (HSZ.out _).2.2 ?_))
     refine bodyPost_ret (results_cell_row rfl _ _ (B + 3) _ (rpA ⟨0, true, true, 0⟩) (0, 0) _ rfl (HV7.out.1.setRow _) Tryz.underlying46 rfl (HSZ.out _).1) rfl ?_
     exact ⟨by rw [HF.out], vgrown_setRow HV7.out.2 _ _ (.inr HB.out)⟩
    | false =>
     go_upto_region 2 with (first
      | (refine wpList_bld rfl 46 _ rfl #[(1, .bool true), (2, .bool true)] (by kernel_rfl) (.agg (rpA ⟨0, true, true, 0⟩)) (bld_rpaf _ _) ?_)
      | (refine wpList_store_row rfl 46 (.tmp 7) (.tmp 22) rfl w1.heap.size (rpA ⟨0, true, true, 0⟩) rfl rfl 46 _ (heap_alloc_new w1 _) (HSZ.out _).1 (HSZ.out _).2.1 (HSZ.out _).2.2 ?_))
     rw [World.setRow_alloc_new]
     have V7 := VAt.alloc w1 46 (rpA ⟨0, true, true, 0⟩)
     have K7 := World.grownBy_alloc w1 (.cells (rpA ⟨0, true, true, 0⟩) 46) none
     have HV7 : Hid (VAt _ (B + 3) 46 #[.int .u32 0, .bool false, .bool false, .int .i64 0] ∧ w.grownBy _ none) := ⟨HV4.out.1.kept K7, grown_trans HV4.out.2 K7⟩
     have n1 := K7.cell n1 (by simp)
     have x0 := K7.cell x0 (by simp)
     have y0 := K7.cell y0 (by simp)
     generalize w1.alloc (.cells (rpA ⟨0, true, true, 0⟩) 46) = w2 at *
     generalize w1.heap.size = T at *
     obtain ⟨-, t1, t2, -⟩ := rp_cells V7
     have HV8 : Hid (VAt w2 T 46 (rpA ⟨0, true, true, 0⟩)) := V7
     clear V7 K7 x1 x2 y1 y2
     have HF : Hid (R = ⟨0, true, true, 0⟩) := HR.out
     clear HR
     go_wp2_with (first
      | (refine wpList_load_row rfl 46 (.tmp 7) rfl T rfl 46 (rpA ⟨0, true, true, 0⟩) (0, 0) _ HV8.out Tryz.underlying46 rfl (HSZ.out _).1 ?_)
      | (refine wpList_store_row rfl 46 (.tmp 6) (.tmp 29) rfl (B + 3) (rpA ⟨0, true, true, 0⟩) rfl rfl 46 _ HV7.out.1 (HSZ.out _).1 (HSZ.out _).2.1 (HSZ.out _).2.2 ?_))
     refine bodyPost_ret (results_cell_row rfl _ _ (B + 3) _ (rpA ⟨0, true, true, 0⟩) (0, 0) _ rfl (HV7.out.1.setRow _) Tryz.underlying46 rfl (HSZ.out _).1) rfl ?_
     exact ⟨by rw [HF.out], vgrown_setRow HV7.out.2 _ _ (.inr HB.out)⟩
   | false =>
    cases yf with
    | true =>
     go_upto_region 2 with (first
      | (refine wpList_bld rfl 46 _ rfl #[(1, .bool true), (2, .bool true)] (by kernel_rfl) (.agg (rpA ⟨0, true, true, 0⟩)) (bld_rpaf _ _) ?_)
      | (refine wpList_store_row rfl 46 (.tmp 7) (.tmp 22) rfl w1.heap.size (rpA ⟨0, true, true, 0⟩) rfl rfl 46 _ (heap_alloc_new w1 _) (HSZ.out _).1 (HSZ.out _).2.1 (HSZ.out _).2.2 ?_))
     rw [World.setRow_alloc_new]
     have V7 := VAt.alloc w1 46 (rpA ⟨0, true, true, 0⟩)
     have K7 := World.grownBy_alloc w1 (.cells (rpA ⟨0, true, true, 0⟩) 46) none
     have HV7 : Hid (VAt _ (B + 3) 46 #[.int .u32 0, .bool false, .bool false, .int .i64 0] ∧ w.grownBy _ none) := ⟨HV4.out.1.kept K7, grown_trans HV4.out.2 K7⟩
     have n1 := K7.cell n1 (by simp)
     have x0 := K7.cell x0 (by simp)
     have y0 := K7.cell y0 (by simp)
     generalize w1.alloc (.cells (rpA ⟨0, true, true, 0⟩) 46) = w2 at *
     generalize w1.heap.size = T at *
     obtain ⟨-, t1, t2, -⟩ := rp_cells V7
     have HV8 : Hid (VAt w2 T 46 (rpA ⟨0, true, true, 0⟩)) := V7
     clear V7 K7 x1 x2 y1 y2
     have HF : Hid (R = ⟨0, true, true, 0⟩) := HR.out
     clear HR
     go_wp2_with (first
      | (refine wpList_load_row rfl 46 (.tmp 7) rfl T rfl 46 (rpA ⟨0, true, true, 0⟩) (0, 0) _ HV8.out Tryz.underlying46 rfl (HSZ.out _).1 ?_)
      | (refine wpList_store_row rfl 46 (.tmp 6) (.tmp 29) rfl (B + 3) (rpA ⟨0, true, true, 0⟩) rfl rfl 46 _ HV7.out.1 (HSZ.out _).1 (HSZ.out _).2.1 (HSZ.out _).2.2 ?_))
     refine bodyPost_ret (results_cell_row rfl _ _ (B + 3) _ (rpA ⟨0, true, true, 0⟩) (0, 0) _ rfl (HV7.out.1.setRow _) Tryz.underlying46 rfl (HSZ.out _).1) rfl ?_
     exact ⟨by rw [HF.out], vgrown_setRow HV7.out.2 _ _ (.inr HB.out)⟩
    | false =>
     go_upto_region 2 with (first
      | (refine wpList_bld rfl 46 _ rfl #[(1, .bool true), (2, .bool false)] (by kernel_rfl) (.agg (rpA ⟨0, true, false, 0⟩)) (bld_rpaf _ _) ?_)
      | (refine wpList_store_row rfl 46 (.tmp 7) (.tmp 22) rfl w1.heap.size (rpA ⟨0, true, false, 0⟩) rfl rfl 46 _ (heap_alloc_new w1 _) (HSZ.out _).1 (HSZ.out _).2.1 (HSZ.out _).2.2 ?_))
     rw [World.setRow_alloc_new]
     have V7 := VAt.alloc w1 46 (rpA ⟨0, true, false, 0⟩)
     have K7 := World.grownBy_alloc w1 (.cells (rpA ⟨0, true, false, 0⟩) 46) none
     have HV7 : Hid (VAt _ (B + 3) 46 #[.int .u32 0, .bool false, .bool false, .int .i64 0] ∧ w.grownBy _ none) := ⟨HV4.out.1.kept K7, grown_trans HV4.out.2 K7⟩
     have n1 := K7.cell n1 (by simp)
     have x0 := K7.cell x0 (by simp)
     have y0 := K7.cell y0 (by simp)
     generalize w1.alloc (.cells (rpA ⟨0, true, false, 0⟩) 46) = w2 at *
     generalize w1.heap.size = T at *
     obtain ⟨-, t1, t2, -⟩ := rp_cells V7
     have HV8 : Hid (VAt w2 T 46 (rpA ⟨0, true, false, 0⟩)) := V7
     clear V7 K7 x1 x2 y1 y2
     have HF : Hid (R = ⟨0, true, false, 0⟩) := HR.out
     clear HR
     go_wp2_with (first
      | (refine wpList_load_row rfl 46 (.tmp 7) rfl T rfl 46 (rpA ⟨0, true, false, 0⟩) (0, 0) _ HV8.out Tryz.underlying46 rfl (HSZ.out _).1 ?_)
      | (refine wpList_store_row rfl 46 (.tmp 6) (.tmp 29) rfl (B + 3) (rpA ⟨0, true, false, 0⟩) rfl rfl 46 _ HV7.out.1 (HSZ.out _).1 (HSZ.out _).2.1 (HSZ.out _).2.2 ?_))
     refine bodyPost_ret (results_cell_row rfl _ _ (B + 3) _ (rpA ⟨0, true, false, 0⟩) (0, 0) _ rfl (HV7.out.1.setRow _) Tryz.underlying46 rfl (HSZ.out _).1) rfl ?_
     exact ⟨by rw [HF.out], vgrown_setRow HV7.out.2 _ _ (.inr HB.out)⟩
 | false =>
  cases ya with
  | true =>
   cases xf with
   | true =>
    cases yf with
    | true =>
     go_upto_region 2 with (first
      | (refine wpList_bld rfl 46 _ rfl #[(1, .bool true), (2, .bool true)] (by kernel_rfl) (.agg (rpA ⟨0, true, true, 0⟩)) (bld_rpaf _ _) ?_)
      | (refine wpList_store_row rfl 46 (.tmp 7) (.tmp 22) rfl w1.heap.size (rpA ⟨0, true, true, 0⟩) rfl rfl 46 _ (heap_alloc_new w1 _) (HSZ.out _).1 (HSZ.out _).2.1 (HSZ.out _).2.2 ?_))
     rw [World.setRow_alloc_new]
     have V7 := VAt.alloc w1 46 (rpA ⟨0, true, true, 0⟩)
     have K7 := World.grownBy_alloc w1 (.cells (rpA ⟨0, true, true, 0⟩) 46) none
     have HV7 : Hid (VAt _ (B + 3) 46 #[.int .u32 0, .bool false, .bool false, .int .i64 0] ∧ w.grownBy _ none) := ⟨HV4.out.1.kept K7, grown_trans HV4.out.2 K7⟩
     have n1 := K7.cell n1 (by simp)
     have x0 := K7.cell x0 (by simp)
     have y0 := K7.cell y0 (by simp)
     generalize w1.alloc (.cells (rpA ⟨0, true, true, 0⟩) 46) = w2 at *
     generalize w1.heap.size = T at *
     obtain ⟨-, t1, t2, -⟩ := rp_cells V7
     have HV8 : Hid (VAt w2 T 46 (rpA ⟨0, true, true, 0⟩)) := V7
     clear V7 K7 x1 x2 y1 y2
     have HF : Hid (R = ⟨0, true, true, 0⟩) := HR.out
     clear HR
     go_wp2_with (first
      | (refine wpList_load_row rfl 46 (.tmp 7) rfl T rfl 46 (rpA ⟨0, true, true, 0⟩) (0, 0) _ HV8.out Tryz.underlying46 rfl (HSZ.out _).1 ?_)
      | (refine wpList_store_row rfl 46 (.tmp 6) (.tmp 29) rfl (B + 3) (rpA ⟨0, true, true, 0⟩) rfl rfl 46 _ HV7.out.1 (HSZ.out _).1 (HSZ.out _).2.1 (HSZ.out _).2.2 ?_))
     refine bodyPost_ret (results_cell_row rfl _ _ (B + 3) _ (rpA ⟨0, true, true, 0⟩) (0, 0) _ rfl (HV7.out.1.setRow _) Tryz.underlying46 rfl (HSZ.out _).1) rfl ?_
     exact ⟨by rw [HF.out], vgrown_setRow HV7.out.2 _ _ (.inr HB.out)⟩
    | false =>
     go_upto_region 2 with (first
      | (refine wpList_bld rfl 46 _ rfl #[(1, .bool true), (2, .bool true)] (by kernel_rfl) (.agg (rpA ⟨0, true, true, 0⟩)) (bld_rpaf _ _) ?_)
      | (refine wpList_store_row rfl 46 (.tmp 7) (.tmp 22) rfl w1.heap.size (rpA ⟨0, true, true, 0⟩) rfl rfl 46 _ (heap_alloc_new w1 _) (HSZ.out _).1 (HSZ.out _).2.1 (HSZ.out _).2.2 ?_))
     rw [World.setRow_alloc_new]
     have V7 := VAt.alloc w1 46 (rpA ⟨0, true, true, 0⟩)
     have K7 := World.grownBy_alloc w1 (.cells (rpA ⟨0, true, true, 0⟩) 46) none
     have HV7 : Hid (VAt _ (B + 3) 46 #[.int .u32 0, .bool false, .bool false, .int .i64 0] ∧ w.grownBy _ none) := ⟨HV4.out.1.kept K7, grown_trans HV4.out.2 K7⟩
     have n1 := K7.cell n1 (by simp)
     have x0 := K7.cell x0 (by simp)
     have y0 := K7.cell y0 (by simp)
     generalize w1.alloc (.cells (rpA ⟨0, true, true, 0⟩) 46) = w2 at *
     generalize w1.heap.size = T at *
     obtain ⟨-, t1, t2, -⟩ := rp_cells V7
     have HV8 : Hid (VAt w2 T 46 (rpA ⟨0, true, true, 0⟩)) := V7
     clear V7 K7 x1 x2 y1 y2
     have HF : Hid (R = ⟨0, true, true, 0⟩) := HR.out
     clear HR
     go_wp2_with (first
      | (refine wpList_load_row rfl 46 (.tmp 7) rfl T rfl 46 (rpA ⟨0, true, true, 0⟩) (0, 0) _ HV8.out Tryz.underlying46 rfl (HSZ.out _).1 ?_)
      | (refine wpList_store_row rfl 46 (.tmp 6) (.tmp 29) rfl (B + 3) (rpA ⟨0, true, true, 0⟩) rfl rfl 46 _ HV7.out.1 (HSZ.out _).1 (HSZ.out _).2.1 (HSZ.out _).2.2 ?_))
     refine bodyPost_ret (results_cell_row rfl _ _ (B + 3) _ (rpA ⟨0, true, true, 0⟩) (0, 0) _ rfl (HV7.out.1.setRow _) Tryz.underlying46 rfl (HSZ.out _).1) rfl ?_
     exact ⟨by rw [HF.out], vgrown_setRow HV7.out.2 _ _ (.inr HB.out)⟩
   | false =>
    cases yf with
    | true =>
     go_upto_region 2 with (first
      | (refine wpList_bld rfl 46 _ rfl #[(1, .bool true), (2, .bool true)] (by kernel_rfl) (.agg (rpA ⟨0, true, true, 0⟩)) (bld_rpaf _ _) ?_)
      | (refine wpList_store_row rfl 46 (.tmp 7) (.tmp 22) rfl w1.heap.size (rpA ⟨0, true, true, 0⟩) rfl rfl 46 _ (heap_alloc_new w1 _) (HSZ.out _).1 (HSZ.out _).2.1 (HSZ.out _).2.2 ?_))
     rw [World.setRow_alloc_new]
     have V7 := VAt.alloc w1 46 (rpA ⟨0, true, true, 0⟩)
     have K7 := World.grownBy_alloc w1 (.cells (rpA ⟨0, true, true, 0⟩) 46) none
     have HV7 : Hid (VAt _ (B + 3) 46 #[.int .u32 0, .bool false, .bool false, .int .i64 0] ∧ w.grownBy _ none) := ⟨HV4.out.1.kept K7, grown_trans HV4.out.2 K7⟩
     have n1 := K7.cell n1 (by simp)
     have x0 := K7.cell x0 (by simp)
     have y0 := K7.cell y0 (by simp)
     generalize w1.alloc (.cells (rpA ⟨0, true, true, 0⟩) 46) = w2 at *
     generalize w1.heap.size = T at *
     obtain ⟨-, t1, t2, -⟩ := rp_cells V7
     have HV8 : Hid (VAt w2 T 46 (rpA ⟨0, true, true, 0⟩)) := V7
     clear V7 K7 x1 x2 y1 y2
     have HF : Hid (R = ⟨0, true, true, 0⟩) := HR.out
     clear HR
     go_wp2_with (first
      | (refine wpList_load_row rfl 46 (.tmp 7) rfl T rfl 46 (rpA ⟨0, true, true, 0⟩) (0, 0) _ HV8.out Tryz.underlying46 rfl (HSZ.out _).1 ?_)
      | (refine wpList_store_row rfl 46 (.tmp 6) (.tmp 29) rfl (B + 3) (rpA ⟨0, true, true, 0⟩) rfl rfl 46 _ HV7.out.1 (HSZ.out _).1 (HSZ.out _).2.1 (HSZ.out _).2.2 ?_))
     refine bodyPost_ret (results_cell_row rfl _ _ (B + 3) _ (rpA ⟨0, true, true, 0⟩) (0, 0) _ rfl (HV7.out.1.setRow _) Tryz.underlying46 rfl (HSZ.out _).1) rfl ?_
     exact ⟨by rw [HF.out], vgrown_setRow HV7.out.2 _ _ (.inr HB.out)⟩
    | false =>
     go_upto_region 2 with (first
      | (refine wpList_bld rfl 46 _ rfl #[(1, .bool true), (2, .bool false)] (by kernel_rfl) (.agg (rpA ⟨0, true, false, 0⟩)) (bld_rpaf _ _) ?_)
      | (refine wpList_store_row rfl 46 (.tmp 7) (.tmp 22) rfl w1.heap.size (rpA ⟨0, true, false, 0⟩) rfl rfl 46 _ (heap_alloc_new w1 _) (HSZ.out _).1 (HSZ.out _).2.1 (HSZ.out _).2.2 ?_))
     rw [World.setRow_alloc_new]
     have V7 := VAt.alloc w1 46 (rpA ⟨0, true, false, 0⟩)
     have K7 := World.grownBy_alloc w1 (.cells (rpA ⟨0, true, false, 0⟩) 46) none
     have HV7 : Hid (VAt _ (B + 3) 46 #[.int .u32 0, .bool false, .bool false, .int .i64 0] ∧ w.grownBy _ none) := ⟨HV4.out.1.kept K7, grown_trans HV4.out.2 K7⟩
     have n1 := K7.cell n1 (by simp)
     have x0 := K7.cell x0 (by simp)
     have y0 := K7.cell y0 (by simp)
     generalize w1.alloc (.cells (rpA ⟨0, true, false, 0⟩) 46) = w2 at *
     generalize w1.heap.size = T at *
     obtain ⟨-, t1, t2, -⟩ := rp_cells V7
     have HV8 : Hid (VAt w2 T 46 (rpA ⟨0, true, false, 0⟩)) := V7
     clear V7 K7 x1 x2 y1 y2
     have HF : Hid (R = ⟨0, true, false, 0⟩) := HR.out
     clear HR
     go_wp2_with (first
      | (refine wpList_load_row rfl 46 (.tmp 7) rfl T rfl 46 (rpA ⟨0, true, false, 0⟩) (0, 0) _ HV8.out Tryz.underlying46 rfl (HSZ.out _).1 ?_)
      | (refine wpList_store_row rfl 46 (.tmp 6) (.tmp 29) rfl (B + 3) (rpA ⟨0, true, false, 0⟩) rfl rfl 46 _ HV7.out.1 (HSZ.out _).1 (HSZ.out _).2.1 (HSZ.out _).2.2 ?_))
     refine bodyPost_ret (results_cell_row rfl _ _ (B + 3) _ (rpA ⟨0, true, false, 0⟩) (0, 0) _ rfl (HV7.out.1.setRow _) Tryz.underlying46 rfl (HSZ.out _).1) rfl ?_
     exact ⟨by rw [HF.out], vgrown_setRow HV7.out.2 _ _ (.inr HB.out)⟩
  | false =>
   cases xf with
   | true =>
    cases yf with
    | true =>
     go_upto_region 2 with (first
      | (refine wpList_bld rfl 46 _ rfl #[(1, .bool false), (2, .bool true)] (by kernel_rfl) (.agg (rpA ⟨0, false, true, 0⟩)) (bld_rpaf _ _) ?_)
      | (refine wpList_store_row rfl 46 (.tmp 7) (.tmp 22) rfl w1.heap.size (rpA ⟨0, false, true, 0⟩) rfl rfl 46 _ (heap_alloc_new w1 _) (HSZ.out _).1 (HSZ.out _).2.1 (HSZ.out _).2.2 ?_))
     rw [World.setRow_alloc_new]
     have V7 := VAt.alloc w1 46 (rpA ⟨0, false, true, 0⟩)
     have K7 := World.grownBy_alloc w1 (.cells (rpA ⟨0, false, true, 0⟩) 46) none
     have HV7 : Hid (VAt _ (B + 3) 46 #[.int .u32 0, .bool false, .bool false, .int .i64 0] ∧ w.grownBy _ none) := ⟨HV4.out.1.kept K7, grown_trans HV4.out.2 K7⟩
     have n1 := K7.cell n1 (by simp)
     have x0 := K7.cell x0 (by simp)
     have y0 := K7.cell y0 (by simp)
     generalize w1.alloc (.cells (rpA ⟨0, false, true, 0⟩) 46) = w2 at *
     generalize w1.heap.size = T at *
     obtain ⟨-, t1, t2, -⟩ := rp_cells V7
     have HV8 : Hid (VAt w2 T 46 (rpA ⟨0, false, true, 0⟩)) := V7
     clear V7 K7 x1 x2 y1 y2
     have HF : Hid (R = ⟨0, false, true, 0⟩) := HR.out
     clear HR
     go_wp2_with (first
      | (refine wpList_load_row rfl 46 (.tmp 7) rfl T rfl 46 (rpA ⟨0, false, true, 0⟩) (0, 0) _ HV8.out Tryz.underlying46 rfl (HSZ.out _).1 ?_)
      | (refine wpList_store_row rfl 46 (.tmp 6) (.tmp 29) rfl (B + 3) (rpA ⟨0, false, true, 0⟩) rfl rfl 46 _ HV7.out.1 (HSZ.out _).1 (HSZ.out _).2.1 (HSZ.out _).2.2 ?_))
     refine bodyPost_ret (results_cell_row rfl _ _ (B + 3) _ (rpA ⟨0, false, true, 0⟩) (0, 0) _ rfl (HV7.out.1.setRow _) Tryz.underlying46 rfl (HSZ.out _).1) rfl ?_
     exact ⟨by rw [HF.out], vgrown_setRow HV7.out.2 _ _ (.inr HB.out)⟩
    | false =>
     go_upto_region 2 with (first
      | (refine wpList_bld rfl 46 _ rfl #[(1, .bool false), (2, .bool true)] (by kernel_rfl) (.agg (rpA ⟨0, false, true, 0⟩)) (bld_rpaf _ _) ?_)
      | (refine wpList_store_row rfl 46 (.tmp 7) (.tmp 22) rfl w1.heap.size (rpA ⟨0, false, true, 0⟩) rfl rfl 46 _ (heap_alloc_new w1 _) (HSZ.out _).1 (HSZ.out _).2.1 (HSZ.out _).2.2 ?_))
     rw [World.setRow_alloc_new]
     have V7 := VAt.alloc w1 46 (rpA ⟨0, false, true, 0⟩)
     have K7 := World.grownBy_alloc w1 (.cells (rpA ⟨0, false, true, 0⟩) 46) none
     have HV7 : Hid (VAt _ (B + 3) 46 #[.int .u32 0, .bool false, .bool false, .int .i64 0] ∧ w.grownBy _ none) := ⟨HV4.out.1.kept K7, grown_trans HV4.out.2 K7⟩
     have n1 := K7.cell n1 (by simp)
     have x0 := K7.cell x0 (by simp)
     have y0 := K7.cell y0 (by simp)
     generalize w1.alloc (.cells (rpA ⟨0, false, true, 0⟩) 46) = w2 at *
     generalize w1.heap.size = T at *
     obtain ⟨-, t1, t2, -⟩ := rp_cells V7
     have HV8 : Hid (VAt w2 T 46 (rpA ⟨0, false, true, 0⟩)) := V7
     clear V7 K7 x1 x2 y1 y2
     have HF : Hid (R = ⟨0, false, true, 0⟩) := HR.out
     clear HR
     go_wp2_with (first
      | (refine wpList_load_row rfl 46 (.tmp 7) rfl T rfl 46 (rpA ⟨0, false, true, 0⟩) (0, 0) _ HV8.out Tryz.underlying46 rfl (HSZ.out _).1 ?_)
      | (refine wpList_store_row rfl 46 (.tmp 6) (.tmp 29) rfl (B + 3) (rpA ⟨0, false, true, 0⟩) rfl rfl 46 _ HV7.out.1 (HSZ.out _).1 (HSZ.out _).2.1 (HSZ.out _).2.2 ?_))
     refine bodyPost_ret (results_cell_row rfl _ _ (B + 3) _ (rpA ⟨0, false, true, 0⟩) (0, 0) _ rfl (HV7.out.1.setRow _) Tryz.underlying46 rfl (HSZ.out _).1) rfl ?_
     exact ⟨by rw [HF.out], vgrown_setRow HV7.out.2 _ _ (.inr HB.out)⟩
   | false =>
    cases yf with
    | true =>
     go_upto_region 2 with (first
      | (refine wpList_bld rfl 46 _ rfl #[(1, .bool false), (2, .bool true)] (by kernel_rfl) (.agg (rpA ⟨0, false, true, 0⟩)) (bld_rpaf _ _) ?_)
      | (refine wpList_store_row rfl 46 (.tmp 7) (.tmp 22) rfl w1.heap.size (rpA ⟨0, false, true, 0⟩) rfl rfl 46 _ (heap_alloc_new w1 _) (HSZ.out _).1 (HSZ.out _).2.1 (HSZ.out _).2.2 ?_))
     rw [World.setRow_alloc_new]
     have V7 := VAt.alloc w1 46 (rpA ⟨0, false, true, 0⟩)
     have K7 := World.grownBy_alloc w1 (.cells (rpA ⟨0, false, true, 0⟩) 46) none
     have HV7 : Hid (VAt _ (B + 3) 46 #[.int .u32 0, .bool false, .bool false, .int .i64 0] ∧ w.grownBy _ none) := ⟨HV4.out.1.kept K7, grown_trans HV4.out.2 K7⟩
     have n1 := K7.cell n1 (by simp)
     have x0 := K7.cell x0 (by simp)
     have y0 := K7.cell y0 (by simp)
     generalize w1.alloc (.cells (rpA ⟨0, false, true, 0⟩) 46) = w2 at *
     generalize w1.heap.size = T at *
     obtain ⟨-, t1, t2, -⟩ := rp_cells V7
     have HV8 : Hid (VAt w2 T 46 (rpA ⟨0, false, true, 0⟩)) := V7
     clear V7 K7 x1 x2 y1 y2
     have HF : Hid (R = ⟨0, false, true, 0⟩) := HR.out
     clear HR
     go_wp2_with (first
      | (refine wpList_load_row rfl 46 (.tmp 7) rfl T rfl 46 (rpA ⟨0, false, true, 0⟩) (0, 0) _ HV8.out Tryz.underlying46 rfl (HSZ.out _).1 ?_)
      | (refine wpList_store_row rfl 46 (.tmp 6) (.tmp 29) rfl (B + 3) (rpA ⟨0, false, true, 0⟩) rfl rfl 46 _ HV7.out.1 (HSZ.out _).1 (HSZ.out _).2.1 (HSZ.out _).2.2 ?_))
     refine bodyPost_ret (results_cell_row rfl _ _ (B + 3) _ (rpA ⟨0, false, true, 0⟩) (0, 0) _ rfl (HV7.out.1.setRow _) Tryz.underlying46 rfl (HSZ.out _).1) rfl ?_
     exact ⟨by rw [HF.out], vgrown_setRow HV7.out.2 _ _ (.inr HB.out)⟩
    | false =>
     go_upto_region 2 with (first
      | (refine wpList_bld rfl 46 _ rfl #[(1, .bool false), (2, .bool false)] (by kernel_rfl) (.agg (rpA ⟨0, false, false, 0⟩)) (bld_rpaf _ _) ?_)
      | (refine wpList_store_row rfl 46 (.tmp 7) (.tmp 22) rfl w1.heap.size (rpA ⟨0, false, false, 0⟩) rfl rfl 46 _ (heap_alloc_new w1 _) (HSZ.out _).1 (HSZ.out _).2.1 (HSZ.out _).2.2 ?_))
     rw [World.setRow_alloc_new]
     have V7 := VAt.alloc w1 46 (rpA ⟨0, false, false, 0⟩)
     have K7 := World.grownBy_alloc w1 (.cells (rpA ⟨0, false, false, 0⟩) 46) none
     have HV7 : Hid (VAt _ (B + 3) 46 #[.int .u32 0, .bool false, .bool false, .int .i64 0] ∧ w.grownBy _ none) := ⟨HV4.out.1.kept K7, grown_trans HV4.out.2 K7⟩
     have n1 := K7.cell n1 (by simp)
     have x0 := K7.cell x0 (by simp)
     have y0 := K7.cell y0 (by simp)
     generalize w1.alloc (.cells (rpA ⟨0, false, false, 0⟩) 46) = w2 at *
     generalize w1.heap.size = T at *
     obtain ⟨-, t1, t2, -⟩ := rp_cells V7
     have HV8 : Hid (VAt w2 T 46 (rpA ⟨0, false, false, 0⟩)) := V7
     clear V7 K7 x1 x2 y1 y2
     by_cases hz : divG op = true ∧ yv = 0
     ·have HF : Hid (R = ⟨0, false, true, 0⟩) := by
       show R = _
       rw [HR.out]
       unfold arithR
       rw [if_neg (by simp), if_pos hz]
      have CA := (HAR.out w2).2 hz
      clear HR HAR hz
      go_wp2_with fail
      refine CA.mono ?_
      rintro e w3 ⟨rfl, hw3⟩
      subst hw3
      clear CA t1 t2 n1 x0 y0
      go_wp2_with (first
       | (refine wpList_bld rfl 46 _ rfl #[(0, .int .u32 ((0 : Nat) : Int)), (2, .bool true)] (by kernel_rfl) (.agg (rpA ⟨0, false, true, 0⟩)) (bld_rpvf _ _) ?_)
       | (refine wpList_store_row rfl 46 (.tmp 6) (.tmp 43) rfl (B + 3) (rpA ⟨0, false, true, 0⟩) rfl rfl 46 _ HV7.out.1 (HSZ.out _).1 (HSZ.out _).2.1 (HSZ.out _).2.2 ?_))
      refine bodyPost_ret (results_cell_row rfl _ _ (B + 3) _ (rpA ⟨0, false, true, 0⟩) (0, 0) _ rfl (HV7.out.1.setRow _) Tryz.underlying46 rfl (HSZ.out _).1) rfl ?_
      exact ⟨by rw [HF.out], vgrown_setRow HV7.out.2 _ _ (.inr HB.out)⟩
     ·have HF : Hid (R = ⟨(arithG op xv yv), false, false, 0⟩) := by
       show R = _
       rw [HR.out]
       unfold arithR
       rw [if_neg (by simp), if_neg hz]
      have CA := (HAR.out w2).1 hz
      clear HR HAR hz
      obtain ⟨k, hk⟩ : ∃ k, arithG op xv yv = k := ⟨_, rfl⟩
      rw [hk] at CA HF
      clear hk
      go_wp2_with fail
      refine CA.mono ?_
      rintro e w3 ⟨rfl, hw3⟩
      subst hw3
      clear CA t1 t2 n1 x0 y0
      go_wp2_with (first
       | (refine wpList_bld rfl 46 _ rfl #[(0, .int .u32 (k : Int)), (2, .bool false)] (by kernel_rfl) (.agg (rpA ⟨k, false, false, 0⟩)) (bld_rpvf _ _) ?_)
       | (refine wpList_store_row rfl 46 (.tmp 6) (.tmp 43) rfl (B + 3) (rpA ⟨k, false, false, 0⟩) rfl rfl 46 _ HV7.out.1 (HSZ.out _).1 (HSZ.out _).2.1 (HSZ.out _).2.2 ?_))
      refine bodyPost_ret (results_cell_row rfl _ _ (B + 3) _ (rpA ⟨k, false, false, 0⟩) (0, 0) _ rfl (HV7.out.1.setRow _) Tryz.underlying46 rfl (HSZ.out _).1) rfl ?_
      exact ⟨by rw [HF.out], vgrown_setRow HV7.out.2 _ _ (.inr HB.out)⟩
theorem num_got {b : List UInt8} (q : Nat) (z : Int) : (numM b q z = none ∧ okB b.length (q : Int) z = false ∧ getV b (q : Int) z = 0) ∨ ∃ k : Nat, numM b q z = some k ∧ okB b.length (q : Int) z = true ∧ getV b (q : Int) z = (k : Int) := by
 unfold numM getV
 cases h : okB b.length (q : Int) z with
 | false => exact .inl ⟨rfl, rfl, rfl⟩
 | true => exact .inr ⟨_, rfl, rfl, rfl⟩
set_option maxHeartbeats 4000000 in
theorem refport_any (s : Sg) (a : Option Addr) (ca : Nat) (n : Ng) (q : Nat) (w : World) (hb : Cells w a s.b) (hl : s.b.length ≤ 65535) : Calls Tryz.prog 70 #[.agg (sgA s a ca), .agg n.cells.toArray, .int .i64 (q : Int)] w fun e w' => e = .returned (.int .i64 (portM s n q)) ∧ w.grownBy w' none := by
 have HB1 := box_sg14 s a ca
 have HB2 := box_ng n
 have HV : Hid _ := blk2 w (sgA s a ca) n.cells.toArray 48 52
 have HG : Hid (∀ W, w.grownBy W none → Calls Tryz.prog 68 #[.slice a s.b.length ca, .int .i64 (q : Int), .int .i64 2] W fun e w' => e = .returned (.tuple #[.int .u32 (getV s.b (q : Int) 2), .bool (okB s.b.length (q : Int) 2)]) ∧ W = w') := fun W K => refget_any a ca s.b q 2 W (hb.keptNone K) (by omega)
 obtain ⟨SA, hSA⟩ : ∃ A, sgA s a ca = A := ⟨_, rfl⟩
 obtain ⟨NA, hNA⟩ : ∃ A, n.cells.toArray = A := ⟨_, rfl⟩
 have HNX : Hid (sgA s a ca = SA ∧ n.cells.toArray = NA) := ⟨hSA, hNA⟩
 rw [hSA, hNA] at HV
 rw [hSA] at HB1
 rw [hNA] at HB2
 rw [hSA, hNA]
 clear hSA hNA hb hl
 obtain ⟨R, hR⟩ : ∃ R, portM s n q = R := ⟨_, rfl⟩
 rw [hR]
 have HR : Hid (portM s n q = R) := hR
 clear hR
 go_enter Tryz.func70, Tryz.ntmps70
 go_upto_region 1 with fail
 generalize (w.alloc (.cells SA 48)).alloc (.cells NA 52) = w1 at *
 generalize w.heap.size = B at *
 clear HB1 HB2
 obtain ⟨v1, v2, K1⟩ := HV.out
 rw [← HNX.out.1] at v1
 rw [← HNX.out.2] at v2
 have s10 : w1.cell? ⟨B, 10, none⟩ = some (.slice a s.b.length ca) := v1.cell 10
 have n2 : w1.cell? ⟨B + 1, 2, none⟩ = some (.int .u32 (n.n : Int)) := v2.cell 2
 have n3 : w1.cell? ⟨B + 1, 3, none⟩ = some (.int .u32 (n.m : Int)) := v2.cell 3
 clear HV HNX v1 v2
 have CG := HG.out w1 K1
 rcases num_got (b := s.b) q 2 with ⟨g1, g2, g3⟩ | ⟨k, g1, g2, g3⟩
 ·rw [g2, g3] at CG
  have HF : Hid (R = 2) := by
   show R = 2
   rw [← HR.out]
   unfold portM
   rw [g1]
  clear HR g1 g2 g3 HG
  go_wp2_with fail
  refine CG.mono ?_
  rintro e w2 ⟨rfl, hw2⟩
  subst hw2
  go_wp2
  go_ret
  exact ⟨by rw [HF.out]; rfl, K1⟩
 ·rw [g2, g3] at CG
  have HF : Hid (R = jdg (decide (n.n ≤ k) && decide (k ≤ n.m))) := by
   show R = _
   rw [← HR.out]
   unfold portM
   rw [g1]
   simp only [Bool.decide_and]
  clear HR g1 g2 g3 HG
  go_wp2_with fail
  refine CG.mono ?_
  rintro e w2 ⟨rfl, hw2⟩
  subst hw2
  clear CG s10
  cases h1 : decide (n.n ≤ k) with
  | true =>
   have h1' : (n.n : Int) ≤ (k : Int) := by have := of_decide_eq_true h1; omega
   go_wp2_with fail
   refine (refjdg_any _ _).mono ?_
   rintro e w3 ⟨rfl, hw3⟩
   subst hw3
   go_wp2
   go_ret
   refine ⟨?_, K1⟩
   rw [HF.out, h1]
   exact jdg_of (by first | rfl | simp)
  | false =>
   have h1' : ¬ (n.n : Int) ≤ (k : Int) := by have := of_decide_eq_false h1; omega
   go_wp2_with fail
   refine (refjdg_any _ _).mono ?_
   rintro e w3 ⟨rfl, hw3⟩
   subst hw3
   go_wp2
   go_ret
   refine ⟨?_, K1⟩
   rw [HF.out, h1]
   exact jdg_of (by first | rfl | simp)

end Go.Proofs.YtcodofamdhcfiaaGreat
