import Derived.Test.YtlfmddjppejmaaaGreatDoorqAb
import Derived.Test.YtlfmddjppejmaaaGreatDoorqLotQ18
import Derived.Test.YtlfmddjppejmaaaGreatDoorqLotQ14
set_option maxHeartbeats 64000000
set_option maxRecDepth 100000
namespace Go.Proofs.YtlfmddjppejmaaaGreatDoor
open Go.RowKit
def opN (k o : Nat) : Nd := { ndK k with op := o }
theorem g8 (x : Nd) : (Tryz.prog.info? 54).map (·.size) = some x.cells.toArray.size := by
 have : (Tryz.prog.info? 54).map (·.size) = some 24 := by kernel_rfl
 exact this
theorem j3 (x : Nd) : x.cells.toArray.all (·.oneCell') = true := by
 simp [Nd.cells, Value.oneCell', adr]
theorem a0c {P : Program} {ops : Array Oper} {o : Oper} {a : Act} {w : World} {K : Act → World → Prop} {Q : Exit → Act → World → Prop} {E : Prop}
  (hgd : o.guard = none) (ty : TypeId) (x y : Operand) (ho : o.op = .store ty x y) (g : Nat) (cells : Array Value) (hx : a.eval x = .pointer (some ⟨g, 0, none⟩)) (hy : a.eval y = .agg cells) (t : TypeId) (old : Array Value) (A : VAt w g t old)
  (hi : (P.info? ty).map (·.size) = some cells.size) (hold : old.size = cells.size) (h1 : cells.all (·.oneCell') = true) (hK : K (a.put o.dst undef) (w.setRow g cells)) :
  if Region.wanted o (yielded ops a.tmps) = true then Oper.wp P o a w K Q else E := by
 have hw : Region.wanted o (yielded ops a.tmps) = true := by simp [Region.wanted, hgd]
 rw [if_pos hw]
 exact wp_store_row ty x y ho g cells hx hy t old A hi hold h1 hK
def BN (w W : World) (B : Nat) (y : Nd) : Prop := VAt W B 54 y.cells.toArray ∧ VAt W w.heap.size 54 nd0.cells.toArray ∧ w.grownBy W none ∧ w.heap.size < B
theorem BN.set {w W : World} {B : Nat} {y z : Nd} (h : BN w W B y) (j : Nat) (v : Value) (e : y.cells.toArray.setIfInBounds j v = z.cells.toArray) : BN w (W.setCell ⟨B, j, none⟩ v) B z := by
 refine ⟨?_, h.2.1.setOther v (by have := h.2.2.2; omega), z6 h.2.2.1 (D3 W B j v) (fun x hx => by cases hx; have := h.2.2.2; omega), h.2.2.2⟩
 have := VAt.set h.1 j v
 rw [e] at this
 exact this
theorem BN.new (w : World) (y : Nd) : BN w ((w.alloc (.cells nd0.cells.toArray 54)).alloc (.cells y.cells.toArray 54)) (w.alloc (.cells nd0.cells.toArray 54)).heap.size y :=
 ⟨VAt.alloc _ _ _, VAt.kept (VAt.alloc _ _ _) (World.grownBy_alloc _ _ none), d5 (World.grownBy_alloc _ _ none) (World.grownBy_alloc _ _ none), by simp⟩
theorem BN.kept {w W W' : World} {B : Nat} {y : Nd} (h : BN w W B y) (G : W.grownBy W' none) : BN w W' B y := ⟨h.1.kept G, h.2.1.kept G, d5 h.2.2.1 G, h.2.2.2⟩
theorem t8 (k : Nat) (hk : k = 4 ∨ k = 6 ∨ k = 7 ∨ k = 8) (W : World) : (Instr.build 54 #[(0, .int .i64 (k : Int))]).run Tryz.prog W = .ok (.agg (ndK k).cells.toArray) W := by
 rcases hk with rfl | rfl | rfl | rfl <;> kernel_rfl
theorem a9f (w : World) : Calls Tryz.prog 46 #[str [61]] w fun e w' => e = .returned (.tuple #[.agg (opN 6 1).cells.toArray, .bool true]) ∧ w.grownBy w' none := by
 have HN := BN.new w (ndK 6)
 have HB11 := t8 6 (by decide)
 go_enter Tryz.func46, Tryz.ntmps46
 go_upto_region 1 with fail
 rw [show #[.int .i64 0, .int .i64 0, .int .u32 0, .int .u32 0, .int .i64 0, .int .i64 0, .int .i64 0, .int .u8 0, .int .u8 0, .int .u8 0, .int .u8 0, .int .u8 0, .int .u8 0, .int .u8 0, .int .u8 0, .int .u8 0, .int .u8 0, .int .u8 0, .int .u8 0, .int .u8 0, .int .u8 0, .int .u8 0, .int .u8 0, .int .i64 0] = nd0.cells.toArray from rfl]
 have HS : Hid ((Tryz.prog.info? 54).map (·.size) = some (ndK 6).cells.toArray.size) := g8 _
 generalize w.alloc (.cells nd0.cells.toArray 54) = w1 at *
 go_upto_region 2 with (first | refine o6 rfl 54 _ rfl _ (by kernel_rfl) (.agg (ndK 6).cells.toArray) HB11 ?_ | refine wpList_store_row rfl 54 (.tmp 4) (.tmp 5) rfl w1.heap.size (ndK 6).cells.toArray rfl rfl 54 _ (VAt.alloc w1 _ _) HS.out rfl (j3 _) ?_)
 rw [World.setRow_alloc_new]
 generalize w1.alloc (.cells (ndK 6).cells.toArray 54) = W at *
 generalize w1.heap.size = B at *
 obtain ⟨H, hH⟩ : ∃ H, w.heap.size = H := ⟨_, rfl⟩
 have c1 : W.cell? ⟨B, 1, none⟩ = some (.int .i64 0) := VAt.cell HN.1 1
 have f1 := VAt.free HN.1 1
 have HX : Hid (BN w W B (opN 6 0)) := HN
 rw [hH]
 have HH : Hid (w.heap.size = H) := hH
 clear HN hH HS HB11
 go_upto_region 16 with fail
 have HX0 : Hid (BN w (W.setCell ⟨B, 1, none⟩ (.int .i64 1)) B (opN 6 1)) := HX.out.set (z := opN 6 1) 1 (.int .i64 1) rfl
 generalize W.setCell ⟨B, 1, none⟩ (.int .i64 1) = W0 at *
 clear c1 f1
 obtain ⟨Y, hY⟩ : ∃ Y, (opN 6 1).cells.toArray = Y := ⟨_, rfl⟩
 obtain ⟨Z, hZ⟩ : ∃ Z, nd0.cells.toArray = Z := ⟨_, rfl⟩
 have HY : Hid ((Tryz.prog.info? 54).map (·.size) = some Y.size ∧ Z.size = Y.size ∧ Y.all (·.oneCell') = true) := by rw [← hY, ← hZ]; exact ⟨g8 _, rfl, j3 _⟩
 have HV : Hid (VAt W0 B 54 Y ∧ VAt W0 H 54 Z ∧ w.grownBy W0 none) := by rw [← hY, ← hZ, ← HH.out]; exact ⟨HX0.out.1, HX0.out.2.1, HX0.out.2.2.1⟩
 have HC1 : Hid (∀ V : World, VAt V B 54 Y → V.cell? ⟨B, 1, none⟩ = some (.int .i64 1)) := fun V h => by rw [← hY] at h; exact h.cell 1
 have HYE : Hid ((opN 6 1).cells.toArray = Y) := hY
 have HE : Hid (w.heap.size ≤ H ∧ H ≠ B) := by
  have h1 := HH.out
  have h2 := HX0.out.2.2.2
  exact ⟨by omega, by omega⟩
 clear hY hZ HX HX0 HH
 refine wp_region_held_drew (S := fun V => VAt V B 54 Y ∧ (∃ q, VAt V H 54 q ∧ q.size = Y.size) ∧ w.grownBy V none) (by kernel_rfl) (⟨HV.out.1.kept (f8 _ 1 none), ⟨Z, HV.out.2.1.kept (f8 _ 1 none), HY.out.2.1⟩, d5 HV.out.2.2 (f8 _ 1 none)⟩) (fun hHeld => ?_)
 refine wpT (i := 0) (v := .agg (Y)) rfl (E8 (by rfl) _ _ rfl B rfl 54 (Y) _ (fun W hW => hW.1) Tryz.underlying54 rfl HY.out.1) hHeld ?_
 try simp only [Act.put, a0, a1, a3, a4, a5]
 refine wpT (i := 1) (v := .pointer (some ⟨B, 1, none⟩)) rfl (Or.inl ⟨by rfl, fun W hW => ?_⟩) hHeld ?_
 ·clear hW
  go_simp
 try simp only [Act.put, a0, a1, a2, a3, a4, a5]
 refine wpT (i := 2) (v := .int .i64 1) rfl (Or.inl ⟨by rfl, fun W hW => ?_⟩) hHeld ?_
 ·have c1 := HC1.out W hW.1
  clear hW
  go_simp
 try simp only [Act.put, a0, a1, a2, a3, a4, a5]
 refine wpT (i := 3) (v := .bool true) rfl (Or.inl ⟨by rfl, fun W hW => ?_⟩) hHeld ?_
 ·clear hW
  go_simp
 try simp only [Act.put, a0, a1, a2, a3, a4, a5]
 refine wpR (rs := [4]) (AllReadyH.cons rfl (fun K hK => ?_) AllReadyH.nil)
 obtain ⟨q, hq, hqs⟩ := hHeld.2.1
 have hF := hq.setRow Y
 refine a0c (by rfl) 54 (.tmp 2) (.tmp 26) (by rfl) H Y (by rfl) (by rfl) 54 q hq HY.out.1 hqs HY.out.2.2 ?_
 refine hK.out _ _ (⟨hHeld.1.other _ (Ne.symm HE.out.2), ⟨Y, hF, rfl⟩, j7 hHeld.2.2 H _ (.inr HE.out.1)⟩) (fun hHeld => ?_)
 clear hK K
 try simp only [Act.put, List.getElem_toArray, List.getElem_cons_zero, List.getElem_cons_succ]
 refine wpR (rs := [5]) (AllReadyH.cons rfl (fun K hK => ?_) AllReadyH.nil)
 go_simp
 refine hK.out _ _ hHeld (fun hHeld => ?_)
 clear hK K
 refine wpAnyH_done (by kernel_rfl) ?_ _
 go_wp2
 refine bodyPost_ret (l8 rfl _ _ H Y _ rfl hF Tryz.underlying54 rfl HY.out.1) rfl ?_
 exact ⟨by rw [HYE.out]; rfl, hHeld.2.2⟩
theorem a9g (w : World) : Calls Tryz.prog 46 #[str [61, 61]] w fun e w' => e = .returned (.tuple #[.agg (opN 6 1).cells.toArray, .bool true]) ∧ w.grownBy w' none := by
 have HN := BN.new w (ndK 6)
 have HB11 := t8 6 (by decide)
 go_enter Tryz.func46, Tryz.ntmps46
 go_upto_region 1 with fail
 rw [show #[.int .i64 0, .int .i64 0, .int .u32 0, .int .u32 0, .int .i64 0, .int .i64 0, .int .i64 0, .int .u8 0, .int .u8 0, .int .u8 0, .int .u8 0, .int .u8 0, .int .u8 0, .int .u8 0, .int .u8 0, .int .u8 0, .int .u8 0, .int .u8 0, .int .u8 0, .int .u8 0, .int .u8 0, .int .u8 0, .int .u8 0, .int .i64 0] = nd0.cells.toArray from rfl]
 have HS : Hid ((Tryz.prog.info? 54).map (·.size) = some (ndK 6).cells.toArray.size) := g8 _
 generalize w.alloc (.cells nd0.cells.toArray 54) = w1 at *
 go_upto_region 2 with (first | refine o6 rfl 54 _ rfl _ (by kernel_rfl) (.agg (ndK 6).cells.toArray) HB11 ?_ | refine wpList_store_row rfl 54 (.tmp 4) (.tmp 5) rfl w1.heap.size (ndK 6).cells.toArray rfl rfl 54 _ (VAt.alloc w1 _ _) HS.out rfl (j3 _) ?_)
 rw [World.setRow_alloc_new]
 generalize w1.alloc (.cells (ndK 6).cells.toArray 54) = W at *
 generalize w1.heap.size = B at *
 obtain ⟨H, hH⟩ : ∃ H, w.heap.size = H := ⟨_, rfl⟩
 have c1 : W.cell? ⟨B, 1, none⟩ = some (.int .i64 0) := VAt.cell HN.1 1
 have f1 := VAt.free HN.1 1
 have HX : Hid (BN w W B (opN 6 0)) := HN
 rw [hH]
 have HH : Hid (w.heap.size = H) := hH
 clear HN hH HS HB11
 go_upto_region 16 with fail
 have HX0 : Hid (BN w (W.setCell ⟨B, 1, none⟩ (.int .i64 1)) B (opN 6 1)) := HX.out.set (z := opN 6 1) 1 (.int .i64 1) rfl
 generalize W.setCell ⟨B, 1, none⟩ (.int .i64 1) = W0 at *
 clear c1 f1
 obtain ⟨Y, hY⟩ : ∃ Y, (opN 6 1).cells.toArray = Y := ⟨_, rfl⟩
 obtain ⟨Z, hZ⟩ : ∃ Z, nd0.cells.toArray = Z := ⟨_, rfl⟩
 have HY : Hid ((Tryz.prog.info? 54).map (·.size) = some Y.size ∧ Z.size = Y.size ∧ Y.all (·.oneCell') = true) := by rw [← hY, ← hZ]; exact ⟨g8 _, rfl, j3 _⟩
 have HV : Hid (VAt W0 B 54 Y ∧ VAt W0 H 54 Z ∧ w.grownBy W0 none) := by rw [← hY, ← hZ, ← HH.out]; exact ⟨HX0.out.1, HX0.out.2.1, HX0.out.2.2.1⟩
 have HC1 : Hid (∀ V : World, VAt V B 54 Y → V.cell? ⟨B, 1, none⟩ = some (.int .i64 1)) := fun V h => by rw [← hY] at h; exact h.cell 1
 have HYE : Hid ((opN 6 1).cells.toArray = Y) := hY
 have HE : Hid (w.heap.size ≤ H ∧ H ≠ B) := by
  have h1 := HH.out
  have h2 := HX0.out.2.2.2
  exact ⟨by omega, by omega⟩
 clear hY hZ HX HX0 HH
 refine wp_region_held_drew (S := fun V => VAt V B 54 Y ∧ (∃ q, VAt V H 54 q ∧ q.size = Y.size) ∧ w.grownBy V none) (by kernel_rfl) (⟨HV.out.1.kept (f8 _ 1 none), ⟨Z, HV.out.2.1.kept (f8 _ 1 none), HY.out.2.1⟩, d5 HV.out.2.2 (f8 _ 1 none)⟩) (fun hHeld => ?_)
 refine wpT (i := 0) (v := .agg (Y)) rfl (E8 (by rfl) _ _ rfl B rfl 54 (Y) _ (fun W hW => hW.1) Tryz.underlying54 rfl HY.out.1) hHeld ?_
 try simp only [Act.put, a0, a1, a3, a4, a5]
 refine wpT (i := 1) (v := .pointer (some ⟨B, 1, none⟩)) rfl (Or.inl ⟨by rfl, fun W hW => ?_⟩) hHeld ?_
 ·clear hW
  go_simp
 try simp only [Act.put, a0, a1, a2, a3, a4, a5]
 refine wpT (i := 2) (v := .int .i64 1) rfl (Or.inl ⟨by rfl, fun W hW => ?_⟩) hHeld ?_
 ·have c1 := HC1.out W hW.1
  clear hW
  go_simp
 try simp only [Act.put, a0, a1, a2, a3, a4, a5]
 refine wpT (i := 3) (v := .bool true) rfl (Or.inl ⟨by rfl, fun W hW => ?_⟩) hHeld ?_
 ·clear hW
  go_simp
 try simp only [Act.put, a0, a1, a2, a3, a4, a5]
 refine wpR (rs := [4]) (AllReadyH.cons rfl (fun K hK => ?_) AllReadyH.nil)
 obtain ⟨q, hq, hqs⟩ := hHeld.2.1
 have hF := hq.setRow Y
 refine a0c (by rfl) 54 (.tmp 2) (.tmp 26) (by rfl) H Y (by rfl) (by rfl) 54 q hq HY.out.1 hqs HY.out.2.2 ?_
 refine hK.out _ _ (⟨hHeld.1.other _ (Ne.symm HE.out.2), ⟨Y, hF, rfl⟩, j7 hHeld.2.2 H _ (.inr HE.out.1)⟩) (fun hHeld => ?_)
 clear hK K
 try simp only [Act.put, List.getElem_toArray, List.getElem_cons_zero, List.getElem_cons_succ]
 refine wpR (rs := [5]) (AllReadyH.cons rfl (fun K hK => ?_) AllReadyH.nil)
 go_simp
 refine hK.out _ _ hHeld (fun hHeld => ?_)
 clear hK K
 refine wpAnyH_done (by kernel_rfl) ?_ _
 go_wp2
 refine bodyPost_ret (l8 rfl _ _ H Y _ rfl hF Tryz.underlying54 rfl HY.out.1) rfl ?_
 exact ⟨by rw [HYE.out]; rfl, hHeld.2.2⟩
theorem a9h (w : World) : Calls Tryz.prog 46 #[str [33, 61]] w fun e w' => e = .returned (.tuple #[.agg (opN 6 2).cells.toArray, .bool true]) ∧ w.grownBy w' none := by
 have HN := BN.new w (ndK 6)
 have HB11 := t8 6 (by decide)
 go_enter Tryz.func46, Tryz.ntmps46
 go_upto_region 1 with fail
 rw [show #[.int .i64 0, .int .i64 0, .int .u32 0, .int .u32 0, .int .i64 0, .int .i64 0, .int .i64 0, .int .u8 0, .int .u8 0, .int .u8 0, .int .u8 0, .int .u8 0, .int .u8 0, .int .u8 0, .int .u8 0, .int .u8 0, .int .u8 0, .int .u8 0, .int .u8 0, .int .u8 0, .int .u8 0, .int .u8 0, .int .u8 0, .int .i64 0] = nd0.cells.toArray from rfl]
 have HS : Hid ((Tryz.prog.info? 54).map (·.size) = some (ndK 6).cells.toArray.size) := g8 _
 generalize w.alloc (.cells nd0.cells.toArray 54) = w1 at *
 go_upto_region 2 with (first | refine o6 rfl 54 _ rfl _ (by kernel_rfl) (.agg (ndK 6).cells.toArray) HB11 ?_ | refine wpList_store_row rfl 54 (.tmp 4) (.tmp 5) rfl w1.heap.size (ndK 6).cells.toArray rfl rfl 54 _ (VAt.alloc w1 _ _) HS.out rfl (j3 _) ?_)
 rw [World.setRow_alloc_new]
 generalize w1.alloc (.cells (ndK 6).cells.toArray 54) = W at *
 generalize w1.heap.size = B at *
 obtain ⟨H, hH⟩ : ∃ H, w.heap.size = H := ⟨_, rfl⟩
 have c1 : W.cell? ⟨B, 1, none⟩ = some (.int .i64 0) := VAt.cell HN.1 1
 have f1 := VAt.free HN.1 1
 have HX : Hid (BN w W B (opN 6 0)) := HN
 rw [hH]
 have HH : Hid (w.heap.size = H) := hH
 clear HN hH HS HB11
 go_upto_region 16 with fail
 have HX0 : Hid (BN w (W.setCell ⟨B, 1, none⟩ (.int .i64 2)) B (opN 6 2)) := HX.out.set (z := opN 6 2) 1 (.int .i64 2) rfl
 generalize W.setCell ⟨B, 1, none⟩ (.int .i64 2) = W0 at *
 clear c1 f1
 obtain ⟨Y, hY⟩ : ∃ Y, (opN 6 2).cells.toArray = Y := ⟨_, rfl⟩
 obtain ⟨Z, hZ⟩ : ∃ Z, nd0.cells.toArray = Z := ⟨_, rfl⟩
 have HY : Hid ((Tryz.prog.info? 54).map (·.size) = some Y.size ∧ Z.size = Y.size ∧ Y.all (·.oneCell') = true) := by rw [← hY, ← hZ]; exact ⟨g8 _, rfl, j3 _⟩
 have HV : Hid (VAt W0 B 54 Y ∧ VAt W0 H 54 Z ∧ w.grownBy W0 none) := by rw [← hY, ← hZ, ← HH.out]; exact ⟨HX0.out.1, HX0.out.2.1, HX0.out.2.2.1⟩
 have HC1 : Hid (∀ V : World, VAt V B 54 Y → V.cell? ⟨B, 1, none⟩ = some (.int .i64 2)) := fun V h => by rw [← hY] at h; exact h.cell 1
 have HYE : Hid ((opN 6 2).cells.toArray = Y) := hY
 have HE : Hid (w.heap.size ≤ H ∧ H ≠ B) := by
  have h1 := HH.out
  have h2 := HX0.out.2.2.2
  exact ⟨by omega, by omega⟩
 clear hY hZ HX HX0 HH
 refine wp_region_held_drew (S := fun V => VAt V B 54 Y ∧ (∃ q, VAt V H 54 q ∧ q.size = Y.size) ∧ w.grownBy V none) (by kernel_rfl) (⟨HV.out.1.kept (f8 _ 1 none), ⟨Z, HV.out.2.1.kept (f8 _ 1 none), HY.out.2.1⟩, d5 HV.out.2.2 (f8 _ 1 none)⟩) (fun hHeld => ?_)
 refine wpT (i := 0) (v := .agg (Y)) rfl (E8 (by rfl) _ _ rfl B rfl 54 (Y) _ (fun W hW => hW.1) Tryz.underlying54 rfl HY.out.1) hHeld ?_
 try simp only [Act.put, a0, a1, a3, a4, a5]
 refine wpT (i := 1) (v := .pointer (some ⟨B, 1, none⟩)) rfl (Or.inl ⟨by rfl, fun W hW => ?_⟩) hHeld ?_
 ·clear hW
  go_simp
 try simp only [Act.put, a0, a1, a2, a3, a4, a5]
 refine wpT (i := 2) (v := .int .i64 2) rfl (Or.inl ⟨by rfl, fun W hW => ?_⟩) hHeld ?_
 ·have c1 := HC1.out W hW.1
  clear hW
  go_simp
 try simp only [Act.put, a0, a1, a2, a3, a4, a5]
 refine wpT (i := 3) (v := .bool true) rfl (Or.inl ⟨by rfl, fun W hW => ?_⟩) hHeld ?_
 ·clear hW
  go_simp
 try simp only [Act.put, a0, a1, a2, a3, a4, a5]
 refine wpR (rs := [4]) (AllReadyH.cons rfl (fun K hK => ?_) AllReadyH.nil)
 obtain ⟨q, hq, hqs⟩ := hHeld.2.1
 have hF := hq.setRow Y
 refine a0c (by rfl) 54 (.tmp 2) (.tmp 26) (by rfl) H Y (by rfl) (by rfl) 54 q hq HY.out.1 hqs HY.out.2.2 ?_
 refine hK.out _ _ (⟨hHeld.1.other _ (Ne.symm HE.out.2), ⟨Y, hF, rfl⟩, j7 hHeld.2.2 H _ (.inr HE.out.1)⟩) (fun hHeld => ?_)
 clear hK K
 try simp only [Act.put, List.getElem_toArray, List.getElem_cons_zero, List.getElem_cons_succ]
 refine wpR (rs := [5]) (AllReadyH.cons rfl (fun K hK => ?_) AllReadyH.nil)
 go_simp
 refine hK.out _ _ hHeld (fun hHeld => ?_)
 clear hK K
 refine wpAnyH_done (by kernel_rfl) ?_ _
 go_wp2
 refine bodyPost_ret (l8 rfl _ _ H Y _ rfl hF Tryz.underlying54 rfl HY.out.1) rfl ?_
 exact ⟨by rw [HYE.out]; rfl, hHeld.2.2⟩
theorem a9i (w : World) : Calls Tryz.prog 46 #[str [60]] w fun e w' => e = .returned (.tuple #[.agg (opN 6 3).cells.toArray, .bool true]) ∧ w.grownBy w' none := by
 have HN := BN.new w (ndK 6)
 have HB11 := t8 6 (by decide)
 go_enter Tryz.func46, Tryz.ntmps46
 go_upto_region 1 with fail
 rw [show #[.int .i64 0, .int .i64 0, .int .u32 0, .int .u32 0, .int .i64 0, .int .i64 0, .int .i64 0, .int .u8 0, .int .u8 0, .int .u8 0, .int .u8 0, .int .u8 0, .int .u8 0, .int .u8 0, .int .u8 0, .int .u8 0, .int .u8 0, .int .u8 0, .int .u8 0, .int .u8 0, .int .u8 0, .int .u8 0, .int .u8 0, .int .i64 0] = nd0.cells.toArray from rfl]
 have HS : Hid ((Tryz.prog.info? 54).map (·.size) = some (ndK 6).cells.toArray.size) := g8 _
 generalize w.alloc (.cells nd0.cells.toArray 54) = w1 at *
 go_upto_region 2 with (first | refine o6 rfl 54 _ rfl _ (by kernel_rfl) (.agg (ndK 6).cells.toArray) HB11 ?_ | refine wpList_store_row rfl 54 (.tmp 4) (.tmp 5) rfl w1.heap.size (ndK 6).cells.toArray rfl rfl 54 _ (VAt.alloc w1 _ _) HS.out rfl (j3 _) ?_)
 rw [World.setRow_alloc_new]
 generalize w1.alloc (.cells (ndK 6).cells.toArray 54) = W at *
 generalize w1.heap.size = B at *
 obtain ⟨H, hH⟩ : ∃ H, w.heap.size = H := ⟨_, rfl⟩
 have c1 : W.cell? ⟨B, 1, none⟩ = some (.int .i64 0) := VAt.cell HN.1 1
 have f1 := VAt.free HN.1 1
 have HX : Hid (BN w W B (opN 6 0)) := HN
 rw [hH]
 have HH : Hid (w.heap.size = H) := hH
 clear HN hH HS HB11
 go_upto_region 16 with fail
 have HX0 : Hid (BN w (W.setCell ⟨B, 1, none⟩ (.int .i64 3)) B (opN 6 3)) := HX.out.set (z := opN 6 3) 1 (.int .i64 3) rfl
 generalize W.setCell ⟨B, 1, none⟩ (.int .i64 3) = W0 at *
 clear c1 f1
 obtain ⟨Y, hY⟩ : ∃ Y, (opN 6 3).cells.toArray = Y := ⟨_, rfl⟩
 obtain ⟨Z, hZ⟩ : ∃ Z, nd0.cells.toArray = Z := ⟨_, rfl⟩
 have HY : Hid ((Tryz.prog.info? 54).map (·.size) = some Y.size ∧ Z.size = Y.size ∧ Y.all (·.oneCell') = true) := by rw [← hY, ← hZ]; exact ⟨g8 _, rfl, j3 _⟩
 have HV : Hid (VAt W0 B 54 Y ∧ VAt W0 H 54 Z ∧ w.grownBy W0 none) := by rw [← hY, ← hZ, ← HH.out]; exact ⟨HX0.out.1, HX0.out.2.1, HX0.out.2.2.1⟩
 have HC1 : Hid (∀ V : World, VAt V B 54 Y → V.cell? ⟨B, 1, none⟩ = some (.int .i64 3)) := fun V h => by rw [← hY] at h; exact h.cell 1
 have HYE : Hid ((opN 6 3).cells.toArray = Y) := hY
 have HE : Hid (w.heap.size ≤ H ∧ H ≠ B) := by
  have h1 := HH.out
  have h2 := HX0.out.2.2.2
  exact ⟨by omega, by omega⟩
 clear hY hZ HX HX0 HH
 refine wp_region_held_drew (S := fun V => VAt V B 54 Y ∧ (∃ q, VAt V H 54 q ∧ q.size = Y.size) ∧ w.grownBy V none) (by kernel_rfl) (⟨HV.out.1.kept (f8 _ 1 none), ⟨Z, HV.out.2.1.kept (f8 _ 1 none), HY.out.2.1⟩, d5 HV.out.2.2 (f8 _ 1 none)⟩) (fun hHeld => ?_)
 refine wpT (i := 0) (v := .agg (Y)) rfl (E8 (by rfl) _ _ rfl B rfl 54 (Y) _ (fun W hW => hW.1) Tryz.underlying54 rfl HY.out.1) hHeld ?_
 try simp only [Act.put, a0, a1, a3, a4, a5]
 refine wpT (i := 1) (v := .pointer (some ⟨B, 1, none⟩)) rfl (Or.inl ⟨by rfl, fun W hW => ?_⟩) hHeld ?_
 ·clear hW
  go_simp
 try simp only [Act.put, a0, a1, a2, a3, a4, a5]
 refine wpT (i := 2) (v := .int .i64 3) rfl (Or.inl ⟨by rfl, fun W hW => ?_⟩) hHeld ?_
 ·have c1 := HC1.out W hW.1
  clear hW
  go_simp
 try simp only [Act.put, a0, a1, a2, a3, a4, a5]
 refine wpT (i := 3) (v := .bool true) rfl (Or.inl ⟨by rfl, fun W hW => ?_⟩) hHeld ?_
 ·clear hW
  go_simp
 try simp only [Act.put, a0, a1, a2, a3, a4, a5]
 refine wpR (rs := [4]) (AllReadyH.cons rfl (fun K hK => ?_) AllReadyH.nil)
 obtain ⟨q, hq, hqs⟩ := hHeld.2.1
 have hF := hq.setRow Y
 refine a0c (by rfl) 54 (.tmp 2) (.tmp 26) (by rfl) H Y (by rfl) (by rfl) 54 q hq HY.out.1 hqs HY.out.2.2 ?_
 refine hK.out _ _ (⟨hHeld.1.other _ (Ne.symm HE.out.2), ⟨Y, hF, rfl⟩, j7 hHeld.2.2 H _ (.inr HE.out.1)⟩) (fun hHeld => ?_)
 clear hK K
 try simp only [Act.put, List.getElem_toArray, List.getElem_cons_zero, List.getElem_cons_succ]
 refine wpR (rs := [5]) (AllReadyH.cons rfl (fun K hK => ?_) AllReadyH.nil)
 go_simp
 refine hK.out _ _ hHeld (fun hHeld => ?_)
 clear hK K
 refine wpAnyH_done (by kernel_rfl) ?_ _
 go_wp2
 refine bodyPost_ret (l8 rfl _ _ H Y _ rfl hF Tryz.underlying54 rfl HY.out.1) rfl ?_
 exact ⟨by rw [HYE.out]; rfl, hHeld.2.2⟩
theorem a9j (w : World) : Calls Tryz.prog 46 #[str [60, 61]] w fun e w' => e = .returned (.tuple #[.agg (opN 6 4).cells.toArray, .bool true]) ∧ w.grownBy w' none := by
 have HN := BN.new w (ndK 6)
 have HB11 := t8 6 (by decide)
 go_enter Tryz.func46, Tryz.ntmps46
 go_upto_region 1 with fail
 rw [show #[.int .i64 0, .int .i64 0, .int .u32 0, .int .u32 0, .int .i64 0, .int .i64 0, .int .i64 0, .int .u8 0, .int .u8 0, .int .u8 0, .int .u8 0, .int .u8 0, .int .u8 0, .int .u8 0, .int .u8 0, .int .u8 0, .int .u8 0, .int .u8 0, .int .u8 0, .int .u8 0, .int .u8 0, .int .u8 0, .int .u8 0, .int .i64 0] = nd0.cells.toArray from rfl]
 have HS : Hid ((Tryz.prog.info? 54).map (·.size) = some (ndK 6).cells.toArray.size) := g8 _
 generalize w.alloc (.cells nd0.cells.toArray 54) = w1 at *
 go_upto_region 2 with (first | refine o6 rfl 54 _ rfl _ (by kernel_rfl) (.agg (ndK 6).cells.toArray) HB11 ?_ | refine wpList_store_row rfl 54 (.tmp 4) (.tmp 5) rfl w1.heap.size (ndK 6).cells.toArray rfl rfl 54 _ (VAt.alloc w1 _ _) HS.out rfl (j3 _) ?_)
 rw [World.setRow_alloc_new]
 generalize w1.alloc (.cells (ndK 6).cells.toArray 54) = W at *
 generalize w1.heap.size = B at *
 obtain ⟨H, hH⟩ : ∃ H, w.heap.size = H := ⟨_, rfl⟩
 have c1 : W.cell? ⟨B, 1, none⟩ = some (.int .i64 0) := VAt.cell HN.1 1
 have f1 := VAt.free HN.1 1
 have HX : Hid (BN w W B (opN 6 0)) := HN
 rw [hH]
 have HH : Hid (w.heap.size = H) := hH
 clear HN hH HS HB11
 go_upto_region 16 with fail
 have HX0 : Hid (BN w (W.setCell ⟨B, 1, none⟩ (.int .i64 4)) B (opN 6 4)) := HX.out.set (z := opN 6 4) 1 (.int .i64 4) rfl
 generalize W.setCell ⟨B, 1, none⟩ (.int .i64 4) = W0 at *
 clear c1 f1
 obtain ⟨Y, hY⟩ : ∃ Y, (opN 6 4).cells.toArray = Y := ⟨_, rfl⟩
 obtain ⟨Z, hZ⟩ : ∃ Z, nd0.cells.toArray = Z := ⟨_, rfl⟩
 have HY : Hid ((Tryz.prog.info? 54).map (·.size) = some Y.size ∧ Z.size = Y.size ∧ Y.all (·.oneCell') = true) := by rw [← hY, ← hZ]; exact ⟨g8 _, rfl, j3 _⟩
 have HV : Hid (VAt W0 B 54 Y ∧ VAt W0 H 54 Z ∧ w.grownBy W0 none) := by rw [← hY, ← hZ, ← HH.out]; exact ⟨HX0.out.1, HX0.out.2.1, HX0.out.2.2.1⟩
 have HC1 : Hid (∀ V : World, VAt V B 54 Y → V.cell? ⟨B, 1, none⟩ = some (.int .i64 4)) := fun V h => by rw [← hY] at h; exact h.cell 1
 have HYE : Hid ((opN 6 4).cells.toArray = Y) := hY
 have HE : Hid (w.heap.size ≤ H ∧ H ≠ B) := by
  have h1 := HH.out
  have h2 := HX0.out.2.2.2
  exact ⟨by omega, by omega⟩
 clear hY hZ HX HX0 HH
 refine wp_region_held_drew (S := fun V => VAt V B 54 Y ∧ (∃ q, VAt V H 54 q ∧ q.size = Y.size) ∧ w.grownBy V none) (by kernel_rfl) (⟨HV.out.1.kept (f8 _ 1 none), ⟨Z, HV.out.2.1.kept (f8 _ 1 none), HY.out.2.1⟩, d5 HV.out.2.2 (f8 _ 1 none)⟩) (fun hHeld => ?_)
 refine wpT (i := 0) (v := .agg (Y)) rfl (E8 (by rfl) _ _ rfl B rfl 54 (Y) _ (fun W hW => hW.1) Tryz.underlying54 rfl HY.out.1) hHeld ?_
 try simp only [Act.put, a0, a1, a3, a4, a5]
 refine wpT (i := 1) (v := .pointer (some ⟨B, 1, none⟩)) rfl (Or.inl ⟨by rfl, fun W hW => ?_⟩) hHeld ?_
 ·clear hW
  go_simp
 try simp only [Act.put, a0, a1, a2, a3, a4, a5]
 refine wpT (i := 2) (v := .int .i64 4) rfl (Or.inl ⟨by rfl, fun W hW => ?_⟩) hHeld ?_
 ·have c1 := HC1.out W hW.1
  clear hW
  go_simp
 try simp only [Act.put, a0, a1, a2, a3, a4, a5]
 refine wpT (i := 3) (v := .bool true) rfl (Or.inl ⟨by rfl, fun W hW => ?_⟩) hHeld ?_
 ·clear hW
  go_simp
 try simp only [Act.put, a0, a1, a2, a3, a4, a5]
 refine wpR (rs := [4]) (AllReadyH.cons rfl (fun K hK => ?_) AllReadyH.nil)
 obtain ⟨q, hq, hqs⟩ := hHeld.2.1
 have hF := hq.setRow Y
 refine a0c (by rfl) 54 (.tmp 2) (.tmp 26) (by rfl) H Y (by rfl) (by rfl) 54 q hq HY.out.1 hqs HY.out.2.2 ?_
 refine hK.out _ _ (⟨hHeld.1.other _ (Ne.symm HE.out.2), ⟨Y, hF, rfl⟩, j7 hHeld.2.2 H _ (.inr HE.out.1)⟩) (fun hHeld => ?_)
 clear hK K
 try simp only [Act.put, List.getElem_toArray, List.getElem_cons_zero, List.getElem_cons_succ]
 refine wpR (rs := [5]) (AllReadyH.cons rfl (fun K hK => ?_) AllReadyH.nil)
 go_simp
 refine hK.out _ _ hHeld (fun hHeld => ?_)
 clear hK K
 refine wpAnyH_done (by kernel_rfl) ?_ _
 go_wp2
 refine bodyPost_ret (l8 rfl _ _ H Y _ rfl hF Tryz.underlying54 rfl HY.out.1) rfl ?_
 exact ⟨by rw [HYE.out]; rfl, hHeld.2.2⟩
theorem a9k (w : World) : Calls Tryz.prog 46 #[str [62]] w fun e w' => e = .returned (.tuple #[.agg (opN 6 5).cells.toArray, .bool true]) ∧ w.grownBy w' none := by
 have HN := BN.new w (ndK 6)
 have HB11 := t8 6 (by decide)
 go_enter Tryz.func46, Tryz.ntmps46
 go_upto_region 1 with fail
 rw [show #[.int .i64 0, .int .i64 0, .int .u32 0, .int .u32 0, .int .i64 0, .int .i64 0, .int .i64 0, .int .u8 0, .int .u8 0, .int .u8 0, .int .u8 0, .int .u8 0, .int .u8 0, .int .u8 0, .int .u8 0, .int .u8 0, .int .u8 0, .int .u8 0, .int .u8 0, .int .u8 0, .int .u8 0, .int .u8 0, .int .u8 0, .int .i64 0] = nd0.cells.toArray from rfl]
 have HS : Hid ((Tryz.prog.info? 54).map (·.size) = some (ndK 6).cells.toArray.size) := g8 _
 generalize w.alloc (.cells nd0.cells.toArray 54) = w1 at *
 go_upto_region 2 with (first | refine o6 rfl 54 _ rfl _ (by kernel_rfl) (.agg (ndK 6).cells.toArray) HB11 ?_ | refine wpList_store_row rfl 54 (.tmp 4) (.tmp 5) rfl w1.heap.size (ndK 6).cells.toArray rfl rfl 54 _ (VAt.alloc w1 _ _) HS.out rfl (j3 _) ?_)
 rw [World.setRow_alloc_new]
 generalize w1.alloc (.cells (ndK 6).cells.toArray 54) = W at *
 generalize w1.heap.size = B at *
 obtain ⟨H, hH⟩ : ∃ H, w.heap.size = H := ⟨_, rfl⟩
 have c1 : W.cell? ⟨B, 1, none⟩ = some (.int .i64 0) := VAt.cell HN.1 1
 have f1 := VAt.free HN.1 1
 have HX : Hid (BN w W B (opN 6 0)) := HN
 rw [hH]
 have HH : Hid (w.heap.size = H) := hH
 clear HN hH HS HB11
 go_upto_region 16 with fail
 have HX0 : Hid (BN w (W.setCell ⟨B, 1, none⟩ (.int .i64 5)) B (opN 6 5)) := HX.out.set (z := opN 6 5) 1 (.int .i64 5) rfl
 generalize W.setCell ⟨B, 1, none⟩ (.int .i64 5) = W0 at *
 clear c1 f1
 obtain ⟨Y, hY⟩ : ∃ Y, (opN 6 5).cells.toArray = Y := ⟨_, rfl⟩
 obtain ⟨Z, hZ⟩ : ∃ Z, nd0.cells.toArray = Z := ⟨_, rfl⟩
 have HY : Hid ((Tryz.prog.info? 54).map (·.size) = some Y.size ∧ Z.size = Y.size ∧ Y.all (·.oneCell') = true) := by rw [← hY, ← hZ]; exact ⟨g8 _, rfl, j3 _⟩
 have HV : Hid (VAt W0 B 54 Y ∧ VAt W0 H 54 Z ∧ w.grownBy W0 none) := by rw [← hY, ← hZ, ← HH.out]; exact ⟨HX0.out.1, HX0.out.2.1, HX0.out.2.2.1⟩
 have HC1 : Hid (∀ V : World, VAt V B 54 Y → V.cell? ⟨B, 1, none⟩ = some (.int .i64 5)) := fun V h => by rw [← hY] at h; exact h.cell 1
 have HYE : Hid ((opN 6 5).cells.toArray = Y) := hY
 have HE : Hid (w.heap.size ≤ H ∧ H ≠ B) := by
  have h1 := HH.out
  have h2 := HX0.out.2.2.2
  exact ⟨by omega, by omega⟩
 clear hY hZ HX HX0 HH
 refine wp_region_held_drew (S := fun V => VAt V B 54 Y ∧ (∃ q, VAt V H 54 q ∧ q.size = Y.size) ∧ w.grownBy V none) (by kernel_rfl) (⟨HV.out.1.kept (f8 _ 1 none), ⟨Z, HV.out.2.1.kept (f8 _ 1 none), HY.out.2.1⟩, d5 HV.out.2.2 (f8 _ 1 none)⟩) (fun hHeld => ?_)
 refine wpT (i := 0) (v := .agg (Y)) rfl (E8 (by rfl) _ _ rfl B rfl 54 (Y) _ (fun W hW => hW.1) Tryz.underlying54 rfl HY.out.1) hHeld ?_
 try simp only [Act.put, a0, a1, a3, a4, a5]
 refine wpT (i := 1) (v := .pointer (some ⟨B, 1, none⟩)) rfl (Or.inl ⟨by rfl, fun W hW => ?_⟩) hHeld ?_
 ·clear hW
  go_simp
 try simp only [Act.put, a0, a1, a2, a3, a4, a5]
 refine wpT (i := 2) (v := .int .i64 5) rfl (Or.inl ⟨by rfl, fun W hW => ?_⟩) hHeld ?_
 ·have c1 := HC1.out W hW.1
  clear hW
  go_simp
 try simp only [Act.put, a0, a1, a2, a3, a4, a5]
 refine wpT (i := 3) (v := .bool true) rfl (Or.inl ⟨by rfl, fun W hW => ?_⟩) hHeld ?_
 ·clear hW
  go_simp
 try simp only [Act.put, a0, a1, a2, a3, a4, a5]
 refine wpR (rs := [4]) (AllReadyH.cons rfl (fun K hK => ?_) AllReadyH.nil)
 obtain ⟨q, hq, hqs⟩ := hHeld.2.1
 have hF := hq.setRow Y
 refine a0c (by rfl) 54 (.tmp 2) (.tmp 26) (by rfl) H Y (by rfl) (by rfl) 54 q hq HY.out.1 hqs HY.out.2.2 ?_
 refine hK.out _ _ (⟨hHeld.1.other _ (Ne.symm HE.out.2), ⟨Y, hF, rfl⟩, j7 hHeld.2.2 H _ (.inr HE.out.1)⟩) (fun hHeld => ?_)
 clear hK K
 try simp only [Act.put, List.getElem_toArray, List.getElem_cons_zero, List.getElem_cons_succ]
 refine wpR (rs := [5]) (AllReadyH.cons rfl (fun K hK => ?_) AllReadyH.nil)
 go_simp
 refine hK.out _ _ hHeld (fun hHeld => ?_)
 clear hK K
 refine wpAnyH_done (by kernel_rfl) ?_ _
 go_wp2
 refine bodyPost_ret (l8 rfl _ _ H Y _ rfl hF Tryz.underlying54 rfl HY.out.1) rfl ?_
 exact ⟨by rw [HYE.out]; rfl, hHeld.2.2⟩
theorem a9l (w : World) : Calls Tryz.prog 46 #[str [62, 61]] w fun e w' => e = .returned (.tuple #[.agg (opN 6 6).cells.toArray, .bool true]) ∧ w.grownBy w' none := by
 have HN := BN.new w (ndK 6)
 have HB11 := t8 6 (by decide)
 go_enter Tryz.func46, Tryz.ntmps46
 go_upto_region 1 with fail
 rw [show #[.int .i64 0, .int .i64 0, .int .u32 0, .int .u32 0, .int .i64 0, .int .i64 0, .int .i64 0, .int .u8 0, .int .u8 0, .int .u8 0, .int .u8 0, .int .u8 0, .int .u8 0, .int .u8 0, .int .u8 0, .int .u8 0, .int .u8 0, .int .u8 0, .int .u8 0, .int .u8 0, .int .u8 0, .int .u8 0, .int .u8 0, .int .i64 0] = nd0.cells.toArray from rfl]
 have HS : Hid ((Tryz.prog.info? 54).map (·.size) = some (ndK 6).cells.toArray.size) := g8 _
 generalize w.alloc (.cells nd0.cells.toArray 54) = w1 at *
 go_upto_region 2 with (first | refine o6 rfl 54 _ rfl _ (by kernel_rfl) (.agg (ndK 6).cells.toArray) HB11 ?_ | refine wpList_store_row rfl 54 (.tmp 4) (.tmp 5) rfl w1.heap.size (ndK 6).cells.toArray rfl rfl 54 _ (VAt.alloc w1 _ _) HS.out rfl (j3 _) ?_)
 rw [World.setRow_alloc_new]
 generalize w1.alloc (.cells (ndK 6).cells.toArray 54) = W at *
 generalize w1.heap.size = B at *
 obtain ⟨H, hH⟩ : ∃ H, w.heap.size = H := ⟨_, rfl⟩
 have c1 : W.cell? ⟨B, 1, none⟩ = some (.int .i64 0) := VAt.cell HN.1 1
 have f1 := VAt.free HN.1 1
 have HX : Hid (BN w W B (opN 6 0)) := HN
 rw [hH]
 have HH : Hid (w.heap.size = H) := hH
 clear HN hH HS HB11
 go_upto_region 16 with fail
 have HX0 : Hid (BN w (W.setCell ⟨B, 1, none⟩ (.int .i64 6)) B (opN 6 6)) := HX.out.set (z := opN 6 6) 1 (.int .i64 6) rfl
 generalize W.setCell ⟨B, 1, none⟩ (.int .i64 6) = W0 at *
 clear c1 f1
 obtain ⟨Y, hY⟩ : ∃ Y, (opN 6 6).cells.toArray = Y := ⟨_, rfl⟩
 obtain ⟨Z, hZ⟩ : ∃ Z, nd0.cells.toArray = Z := ⟨_, rfl⟩
 have HY : Hid ((Tryz.prog.info? 54).map (·.size) = some Y.size ∧ Z.size = Y.size ∧ Y.all (·.oneCell') = true) := by rw [← hY, ← hZ]; exact ⟨g8 _, rfl, j3 _⟩
 have HV : Hid (VAt W0 B 54 Y ∧ VAt W0 H 54 Z ∧ w.grownBy W0 none) := by rw [← hY, ← hZ, ← HH.out]; exact ⟨HX0.out.1, HX0.out.2.1, HX0.out.2.2.1⟩
 have HC1 : Hid (∀ V : World, VAt V B 54 Y → V.cell? ⟨B, 1, none⟩ = some (.int .i64 6)) := fun V h => by rw [← hY] at h; exact h.cell 1
 have HYE : Hid ((opN 6 6).cells.toArray = Y) := hY
 have HE : Hid (w.heap.size ≤ H ∧ H ≠ B) := by
  have h1 := HH.out
  have h2 := HX0.out.2.2.2
  exact ⟨by omega, by omega⟩
 clear hY hZ HX HX0 HH
 refine wp_region_held_drew (S := fun V => VAt V B 54 Y ∧ (∃ q, VAt V H 54 q ∧ q.size = Y.size) ∧ w.grownBy V none) (by kernel_rfl) (⟨HV.out.1.kept (f8 _ 1 none), ⟨Z, HV.out.2.1.kept (f8 _ 1 none), HY.out.2.1⟩, d5 HV.out.2.2 (f8 _ 1 none)⟩) (fun hHeld => ?_)
 refine wpT (i := 0) (v := .agg (Y)) rfl (E8 (by rfl) _ _ rfl B rfl 54 (Y) _ (fun W hW => hW.1) Tryz.underlying54 rfl HY.out.1) hHeld ?_
 try simp only [Act.put, a0, a1, a3, a4, a5]
 refine wpT (i := 1) (v := .pointer (some ⟨B, 1, none⟩)) rfl (Or.inl ⟨by rfl, fun W hW => ?_⟩) hHeld ?_
 ·clear hW
  go_simp
 try simp only [Act.put, a0, a1, a2, a3, a4, a5]
 refine wpT (i := 2) (v := .int .i64 6) rfl (Or.inl ⟨by rfl, fun W hW => ?_⟩) hHeld ?_
 ·have c1 := HC1.out W hW.1
  clear hW
  go_simp
 try simp only [Act.put, a0, a1, a2, a3, a4, a5]
 refine wpT (i := 3) (v := .bool true) rfl (Or.inl ⟨by rfl, fun W hW => ?_⟩) hHeld ?_
 ·clear hW
  go_simp
 try simp only [Act.put, a0, a1, a2, a3, a4, a5]
 refine wpR (rs := [4]) (AllReadyH.cons rfl (fun K hK => ?_) AllReadyH.nil)
 obtain ⟨q, hq, hqs⟩ := hHeld.2.1
 have hF := hq.setRow Y
 refine a0c (by rfl) 54 (.tmp 2) (.tmp 26) (by rfl) H Y (by rfl) (by rfl) 54 q hq HY.out.1 hqs HY.out.2.2 ?_
 refine hK.out _ _ (⟨hHeld.1.other _ (Ne.symm HE.out.2), ⟨Y, hF, rfl⟩, j7 hHeld.2.2 H _ (.inr HE.out.1)⟩) (fun hHeld => ?_)
 clear hK K
 try simp only [Act.put, List.getElem_toArray, List.getElem_cons_zero, List.getElem_cons_succ]
 refine wpR (rs := [5]) (AllReadyH.cons rfl (fun K hK => ?_) AllReadyH.nil)
 go_simp
 refine hK.out _ _ hHeld (fun hHeld => ?_)
 clear hK K
 refine wpAnyH_done (by kernel_rfl) ?_ _
 go_wp2
 refine bodyPost_ret (l8 rfl _ _ H Y _ rfl hF Tryz.underlying54 rfl HY.out.1) rfl ?_
 exact ⟨by rw [HYE.out]; rfl, hHeld.2.2⟩
theorem a9n (w : World) (x : List UInt8) (e0 : (x == [61]) = false) (e1 : (x == [61, 61]) = false) (e2 : (x == [33, 61]) = false) (e3 : (x == [60]) = false) (e4 : (x == [60, 61]) = false) (e5 : (x == [62]) = false) (e6 : (x == [62, 61]) = false) : Calls Tryz.prog 46 #[str x] w fun e w' => e = .returned (.tuple #[.agg (opN 6 0).cells.toArray, .bool false]) ∧ w.grownBy w' none := by
 have HN := BN.new w (ndK 6)
 have HB11 := t8 6 (by decide)
 go_enter Tryz.func46, Tryz.ntmps46
 go_upto_region 1 with fail
 rw [show #[.int .i64 0, .int .i64 0, .int .u32 0, .int .u32 0, .int .i64 0, .int .i64 0, .int .i64 0, .int .u8 0, .int .u8 0, .int .u8 0, .int .u8 0, .int .u8 0, .int .u8 0, .int .u8 0, .int .u8 0, .int .u8 0, .int .u8 0, .int .u8 0, .int .u8 0, .int .u8 0, .int .u8 0, .int .u8 0, .int .u8 0, .int .i64 0] = nd0.cells.toArray from rfl]
 have HS : Hid ((Tryz.prog.info? 54).map (·.size) = some (ndK 6).cells.toArray.size) := g8 _
 generalize w.alloc (.cells nd0.cells.toArray 54) = w1 at *
 go_upto_region 2 with (first | refine o6 rfl 54 _ rfl _ (by kernel_rfl) (.agg (ndK 6).cells.toArray) HB11 ?_ | refine wpList_store_row rfl 54 (.tmp 4) (.tmp 5) rfl w1.heap.size (ndK 6).cells.toArray rfl rfl 54 _ (VAt.alloc w1 _ _) HS.out rfl (j3 _) ?_)
 rw [World.setRow_alloc_new]
 generalize w1.alloc (.cells (ndK 6).cells.toArray 54) = W at *
 generalize w1.heap.size = B at *
 obtain ⟨H, hH⟩ : ∃ H, w.heap.size = H := ⟨_, rfl⟩
 have c1 : W.cell? ⟨B, 1, none⟩ = some (.int .i64 0) := VAt.cell HN.1 1
 have f1 := VAt.free HN.1 1
 have HX : Hid (BN w W B (opN 6 0)) := HN
 rw [hH]
 have HH : Hid (w.heap.size = H) := hH
 clear HN hH HS HB11
 go_upto_region 16 with fail
 obtain ⟨Y, hY⟩ : ∃ Y, (opN 6 0).cells.toArray = Y := ⟨_, rfl⟩
 obtain ⟨Z, hZ⟩ : ∃ Z, nd0.cells.toArray = Z := ⟨_, rfl⟩
 have HY : Hid ((Tryz.prog.info? 54).map (·.size) = some Y.size ∧ Z.size = Y.size ∧ Y.all (·.oneCell') = true) := by rw [← hY, ← hZ]; exact ⟨g8 _, rfl, j3 _⟩
 have HV : Hid (VAt W B 54 Y ∧ VAt W H 54 Z ∧ w.grownBy W none) := by rw [← hY, ← hZ, ← HH.out]; exact ⟨HX.out.1, HX.out.2.1, HX.out.2.2.1⟩
 have HC1 : Hid (∀ V : World, VAt V B 54 Y → V.cell? ⟨B, 1, none⟩ = some (.int .i64 0)) := fun V h => by rw [← hY] at h; exact h.cell 1
 have HYE : Hid ((opN 6 0).cells.toArray = Y) := hY
 have HE : Hid (w.heap.size ≤ H ∧ H ≠ B) := by
  have h1 := HH.out
  have h2 := HX.out.2.2.2
  exact ⟨by omega, by omega⟩
 clear hY hZ HX HH c1 f1
 refine wp_region_held_drew (S := fun V => VAt V B 54 Y ∧ (∃ q, VAt V H 54 q ∧ q.size = Y.size) ∧ w.grownBy V none) (by kernel_rfl) (⟨HV.out.1.kept (f8 _ 1 none), ⟨Z, HV.out.2.1.kept (f8 _ 1 none), HY.out.2.1⟩, d5 HV.out.2.2 (f8 _ 1 none)⟩) (fun hHeld => ?_)
 refine wpT (i := 0) (v := .agg (Y)) rfl (E8 (by rfl) _ _ rfl B rfl 54 (Y) _ (fun W hW => hW.1) Tryz.underlying54 rfl HY.out.1) hHeld ?_
 try simp only [Act.put, a0, a1, a3, a4, a5]
 refine wpT (i := 1) (v := .pointer (some ⟨B, 1, none⟩)) rfl (Or.inl ⟨by rfl, fun W hW => ?_⟩) hHeld ?_
 ·clear hW
  go_simp
 try simp only [Act.put, a0, a1, a2, a3, a4, a5]
 refine wpT (i := 2) (v := .int .i64 0) rfl (Or.inl ⟨by rfl, fun W hW => ?_⟩) hHeld ?_
 ·have c1 := HC1.out W hW.1
  clear hW
  go_simp
 try simp only [Act.put, a0, a1, a2, a3, a4, a5]
 refine wpT (i := 3) (v := .bool false) rfl (Or.inl ⟨by rfl, fun W hW => ?_⟩) hHeld ?_
 ·clear hW
  go_simp
 try simp only [Act.put, a0, a1, a2, a3, a4, a5]
 refine wpR (rs := [4]) (AllReadyH.cons rfl (fun K hK => ?_) AllReadyH.nil)
 obtain ⟨q, hq, hqs⟩ := hHeld.2.1
 have hF := hq.setRow Y
 refine a0c (by rfl) 54 (.tmp 2) (.tmp 26) (by rfl) H Y (by rfl) (by rfl) 54 q hq HY.out.1 hqs HY.out.2.2 ?_
 refine hK.out _ _ (⟨hHeld.1.other _ (Ne.symm HE.out.2), ⟨Y, hF, rfl⟩, j7 hHeld.2.2 H _ (.inr HE.out.1)⟩) (fun hHeld => ?_)
 clear hK K
 try simp only [Act.put, List.getElem_toArray, List.getElem_cons_zero, List.getElem_cons_succ]
 refine wpR (rs := [5]) (AllReadyH.cons rfl (fun K hK => ?_) AllReadyH.nil)
 go_simp
 refine hK.out _ _ hHeld (fun hHeld => ?_)
 clear hK K
 refine wpAnyH_done (by kernel_rfl) ?_ _
 go_wp2
 refine bodyPost_ret (l8 rfl _ _ H Y _ rfl hF Tryz.underlying54 rfl HY.out.1) rfl ?_
 exact ⟨by rw [HYE.out]; rfl, hHeld.2.2⟩

end Go.Proofs.YtlfmddjppejmaaaGreatDoor
