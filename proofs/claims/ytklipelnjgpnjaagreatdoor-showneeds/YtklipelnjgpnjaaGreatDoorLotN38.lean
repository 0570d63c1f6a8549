import Derived.Test.YtklipelnjgpnjaaGreatDoorNAb
import Derived.Test.YtklipelnjgpnjaaGreatDoorLotN37
import Derived.Test.YtklipelnjgpnjaaGreatDoorLotN5
import Derived.Maps.AppendAt
import Derived.Deep.RegionLaw
set_option maxHeartbeats 64000000
set_option maxRecDepth 100000
namespace Go.Proofs.YtklipelnjgpnjaaGreatDoor
open Go.RowKit
theorem aA2 (x : Nd) (W : World) : (Instr.buildSlice 22 1 #[(0, .agg x.cells.toArray)]).run Tryz.prog W = .ok (.slice (some ⟨W.heap.size, 0, none⟩) 1 1) (W.alloc (.cells x.cells.toArray 43)) := by kernel_rfl
theorem aA1 (z : Int) (W : World) : (Instr.buildSlice 33 1 #[(0, .int .i64 z)]).run Tryz.prog W = .ok (.slice (some ⟨W.heap.size, 0, none⟩) 1 1) (W.alloc (.cells #[.int .i64 z] 3)) := by kernel_rfl
theorem ak3 (x : Nd) (W : World) : (Instr.box 43 (.agg x.cells.toArray)).run Tryz.prog W = .ok (.pointer (some ⟨W.heap.size, 0, none⟩)) (W.alloc (.cells x.cells.toArray 43)) := by kernel_rfl

section
variable {c : PC} {w : World} {i nest bud : Nat} {vt vp : Value} {ts : List Tk} {ns : List (Nd × Nat)}
theorem a9A {w5 w6 w7 : World} {v4 v7 : Value} {x : Nd} {tp : Nat} (h : PS c w i vt vp ts nest (bud + 1) ns) (HZ : HS c w5 i v4 vp nest (ns.map Prod.fst ++ [x]) (ns.map plc) ∧ GB w w5 (d4 c.g vt vp) ∧ ∀ y, y < w.heap.size → d4 c.g v4 vp y → d4 c.g vt vp y) (K6 : w5.grownBy w6 none)
  (O : w7.ownsRow c.w0.heap.size 3 1 v7 ((ns.map plc).length + 1) ((ns.map plc).map iv ++ [.int .i64 (tp : Int)])) (K : w6.grownBy w7 vp.ownBlock) (B : v7.ownBlock = vp.ownBlock ∨ v7.ownBlock = some w6.heap.size) : Ret c w vt vp ts nest bud (ns ++ [(x, tp)]) (w7.setCell ⟨c.g, 4, none⟩ v7) := by
 obtain ⟨h1, h2, h3⟩ := (HZ.1.keep K6).put_places O K B
 have hs6 := K6.size
 have hs5 := HZ.2.1.size
 refine ⟨i, v4, v7, h.of_hs (by rw [List.map_append, List.map_append]; exact h1) (by have := h.bud_le; rw [List.length_append, List.length_singleton]; omega), ?_, ?_⟩
 ·exact HZ.2.1.trans ((GB.non K6).trans h2 (fun _ _ h => h)) (fun y hy => HZ.2.2 y hy)
 ·intro y hy hf
  exact HZ.2.2 y hy (h3 y (by omega) hf)
theorem L9 (h : PS c w i vt vp ts nest (bud + 1) ns) (t : Tk) (x : Nd) :
  Calls Tryz.prog 152 #[.pointer (some ⟨c.g, 0, none⟩), .agg (tkC t), .agg x.cells.toArray] w fun e w' => e = .returned (.tuple #[]) ∧ Ret c w vt vp ts nest bud (ns ++ [(x, t.pos)]) w' := by
 obtain ⟨tk, tp, tx, tn⟩ := t
 unfold tkC
 simp only
 have HBX := ak3 x
 obtain ⟨X, hX⟩ : ∃ X, x.cells.toArray = X := ⟨_, rfl⟩
 rw [hX] at HBX ⊢
 go_enter Tryz.func152, Tryz.ntmps152
 have VT := VAt.alloc w 99 #[.int .i64 (tk : Int), .int .i64 (tp : Int), str tx, .int .u32 (tn : Int)]
 have K1 := World.grownBy_alloc w (.cells #[.int .i64 (tk : Int), .int .i64 (tp : Int), str tx, .int .u32 (tn : Int)] 99) none
 have K2 := World.grownBy_alloc (w.alloc (.cells #[.int .i64 (tk : Int), .int .i64 (tp : Int), str tx, .int .u32 (tn : Int)] 99)) (.cells X 43) none
 have VN := VAt.alloc (w.alloc (.cells #[.int .i64 (tk : Int), .int .i64 (tp : Int), str tx, .int .u32 (tn : Int)] 99)) 43 X
 rw [show (w.alloc (.cells #[.int .i64 (tk : Int), .int .i64 (tp : Int), str tx, .int .u32 (tn : Int)] 99)).heap.size = w.heap.size + 1 by simp] at VN
 have VT2 := VT.kept K2
 have G := d3 K1 K2
 have H2 := h.keep G
 have HP : Hid (PS c w i vt vp ts nest (bud + 1) ns) := h
 go_upto_region 1 with fail
 generalize (w.alloc (.cells #[.int .i64 (tk : Int), .int .i64 (tp : Int), str tx, .int .u32 (tn : Int)] 99)).alloc (.cells X 43) = w2 at *
 obtain ⟨V1, hV1⟩ : ∃ V, w.heap.size = V := ⟨_, rfl⟩
 obtain ⟨V2, hV2⟩ : ∃ V, w.heap.size + 1 = V := ⟨_, rfl⟩
 rw [hV2] at VN ⊢
 rw [hV1] at VT2 ⊢
 have HV : Hid (w.heap.size ≤ V1 ∧ V1 < w2.heap.size ∧ w.heap.size < V2) := ⟨Nat.le_of_eq hV1, VT2.lt, by omega⟩
 clear hV1 hV2 VT K1 K2 h HBX
 have hXs : X.size = 24 := by rw [← hX]; rfl
 have HL : Hid (VAt w2.drew V2 43 X ∧ (Tryz.prog.info? 43).map (·.size) = some X.size) := ⟨VN, by rw [hXs]; exact a3d⟩
 have LN := aA2 x
 rw [hX] at LN
 have LI := aA1
 have HLN : Hid (∀ W : World, (Instr.buildSlice 22 1 #[(0, .agg X)]).run Tryz.prog W = .ok (.slice (some ⟨W.heap.size, 0, none⟩) 1 1) (W.alloc (.cells x.cells.toArray 43))) := fun W => by rw [hX]; exact LN W
 have HX : Hid (x.cells.toArray = X) := hX
 have HB1 : Hid (((ns.map Prod.fst).length + 1 ≤ maxLen ∧ ((ns.map Prod.fst).length + 1) * 72 ≤ 140737488355328) ∧ ((ns.map plc).length + 1 ≤ maxLen ∧ ((ns.map plc).length + 1) * 8 ≤ 140737488355328)) := by
  have := HP.out.bud_le
  simp only [List.length_map]
  unfold maxLen
  exact ⟨⟨by omega, by omega⟩, by omega, by omega⟩
 have c3 : w2.cell? ⟨c.g, 3, none⟩ = some vt := H2.blk.cell 3
 have HQ : Hid (PS c w2 i vt vp ts nest (bud + 1) ns ∧ VAt w2 V1 99 #[.int .i64 (tk : Int), .int .i64 (tp : Int), str tx, .int .u32 (tn : Int)] ∧ w.grownBy w2 none) := ⟨H2, VT2, G⟩
 obtain ⟨i0, hi, hz0, hz1, hz2⟩ := info_parts a8z
 clear H2 VT2 G hX LN LI VN hXs
 refine wp_region_held_drew (S := fun W => VAt W V2 43 X) (by kernel_rfl) HL.out.1 (fun hHeld => ?_)
 refine wpT (i := 0) (v := .pointer (some ⟨c.g, 0, none⟩)) rfl (Or.inl ⟨by rfl, fun W hW => ?_⟩) hHeld ?_
 ·clear hW
  go_simp
 try simp only [Act.put, a0, a1, a3, a4, a5]
 refine wpT (i := 1) (v := .pointer (some ⟨c.g, 0, none⟩)) rfl (Or.inl ⟨by rfl, fun W hW => ?_⟩) hHeld ?_
 ·clear hW
  go_simp
 try simp only [Act.put, a0, a1, a2, a3, a4, a5]
 refine wpT (i := 2) (v := .pointer (some ⟨c.g, 0, none⟩)) rfl (Or.inl ⟨by rfl, fun W hW => ?_⟩) hHeld ?_
 ·clear hW
  go_simp
 try simp only [Act.put, a0, a1, a2, a3, a4, a5]
 refine wpT (i := 3) (v := .pointer (some ⟨c.g, 3, none⟩)) rfl (Or.inl ⟨by rfl, fun W hW => ?_⟩) hHeld ?_
 ·clear hW
  go_simp
 try simp only [Act.put, a0, a1, a2, a3, a4, a5]
 refine wpT (i := 5) (v := .agg X) rfl (J3 (by rfl) _ _ rfl V2 rfl 43 X _ (fun W hW => hW) Tryz.underlying43 rfl HL.out.2) hHeld ?_
 try simp only [Act.put, a0, a1, a2, a3, a4, a5]
 refine wpR (rs := [4, 6]) (AllReadyH.cons rfl (fun K hK => ?_) (AllReadyH.cons rfl (fun K hK => ?_) AllReadyH.nil))
 ·go_simp
  refine hK.out _ _ HL.out.1 (fun hHeld => ?_)
  clear hK K
  try simp only [Act.put, a0, a1, a2, a3, a4, a5]
  refine wpR (rs := [6]) (AllReadyH.cons rfl (fun K hK => ?_) AllReadyH.nil)
  refine a4P (by rfl) 22 1 _ (by rfl) _ (by kernel_rfl) x.cells 43 HLN.out ?_
  intro ad w3 C3 K3
  have Q3 := HQ.out.1.keep (d3 (f9 w2 1 none) K3)
  have c3b : w3.cell? ⟨c.g, 3, none⟩ = some vt := Q3.blk.cell 3
  refine hK.out _ _ (HL.out.1.kept K3) (fun hHeld => ?_)
  clear hK K
  try simp only [Act.put, a0, a1, a2, a3, a4, a5]
  refine wpR (rs := [7]) (AllReadyH.cons rfl (fun K hK => ?_) AllReadyH.nil)
  refine a3e (by rfl) (.tmp 10) (.tmp 12) 22 (by rfl) 43 i0 _ 24 72 Tryz.underlying22 hi hz0 hz1 hz2 rfl (by decide) c.w0.heap.size vt (ns.map Prod.fst).length (a0r (ns.map Prod.fst)) (by rfl) Q3.tree ad 1 1 x.cells (by rfl) rfl C3 x.cells_one HB1.out.1.1 HB1.out.1.2 (Nat.le_trans HQ.out.1.grown.size K3.size) ?_
  intro v4 w4 O4 K4 B4
  have hV2v : ¬ vt.ownBlock = some V2 := fun e => by have := HQ.out.1.tree.lt V2 e; have := HP.out.tree.lt V2 e; have := HV.out; omega
  have VN4 := hHeld.grown K4 (fun e => hV2v e)
  have G4 := Q3.blk.grown K4 Q3.ne_tree
  have c3c : w4.cell? ⟨c.g, 3, none⟩ = some vt := G4.cell 3
  have f3c := G4.free 3
  obtain ⟨Z4, Z5, Z6⟩ := Q3.hs.put_tree (x := x) O4 K4 B4
  have L4 : w.grownBy w3 none := d3 HQ.out.2.2 (d3 (f9 w2 1 none) K3)
  have V14 := (HQ.out.2.1.kept (d3 (f9 w2 1 none) K3)).grown K4 (fun e => by have := HP.out.tree.lt V1 e; have := HV.out; omega)
  obtain ⟨a4, l4, k4, hv4⟩ := a2o O4
  subst hv4
  refine hK.out _ _ VN4 (fun hHeld => ?_)
  clear hK K
  try simp only [Act.put, a0, a1, a2, a3, a4, a5]
  refine wpT (i := 8) (v := .pointer (some ⟨c.g, 0, none⟩)) rfl (Or.inl ⟨by rfl, fun W hW => ?_⟩) hHeld ?_
  ·clear hW
   go_simp
  try simp only [Act.put, a0, a1, a2, a3, a4, a5]
  refine wpT (i := 9) (v := .pointer (some ⟨c.g, 3, none⟩)) rfl (Or.inl ⟨by rfl, fun W hW => ?_⟩) hHeld ?_
  ·clear hW
   go_simp
  try simp only [Act.put, a0, a1, a2, a3, a4, a5]
  refine wpR (rs := [10]) (AllReadyH.cons rfl (fun K hK => ?_) AllReadyH.nil)
  go_simp
  refine hK.out _ _ (VN4.setOther (k := c.g) (i := 3) (.slice a4 l4 k4) (fun e => by have := HP.out.blk.lt; have := HV.out; omega)) (fun hHeld => ?_)
  refine wpAnyH_done (by kernel_rfl) ?_ _
  have V15 := V14.grown (S8 w4 c.g 3 (.slice a4 l4 k4)) (fun e => by have e2 := Option.some.inj e; have := HP.out.blk.lt; have := HV.out; omega)
  have HZ : Hid (HS c (w4.setCell ⟨c.g, 3, none⟩ (.slice a4 l4 k4)) i (.slice a4 l4 k4) vp nest (ns.map Prod.fst ++ [x]) (ns.map plc) ∧ GB w (w4.setCell ⟨c.g, 3, none⟩ (.slice a4 l4 k4)) (d4 c.g vt vp) ∧ ∀ y, y < w.heap.size → d4 c.g (.slice a4 l4 k4) vp y → d4 c.g vt vp y) := ⟨Z4, (GB.non L4).trans Z5 (fun _ _ h => h), fun y hy => Z6 y (Nat.lt_of_lt_of_le hy L4.size)⟩
  clear hK K hHeld O4 K4 B4 C3 K3 hV2v VN4 G4 c3c f3c Q3 c3 c3b Z4 Z5 Z6 L4 V14 hi hz0 hz1 hz2 i0 HQ HL HLN HX
  go_wp2_with fail
  generalize w4.setCell ⟨c.g, 3, none⟩ (.slice a4 l4 k4) = w5 at *
  have p1 : w5.cell? ⟨V1, 1, none⟩ = some (.int .i64 (tp : Int)) := V15.cell 1
  have p4 : w5.cell? ⟨c.g, 4, none⟩ = some vp := HZ.out.1.blk.cell 4
  obtain ⟨i0, hi, hz0, hz1, hz2⟩ := info_parts a8y
  clear V15
  have K6 : w5.grownBy (w5.drew.alloc (.cells #[.int .i64 (tp : Int)] 3)) none := d3 (f9 w5 1 none) (World.grownBy_alloc w5.drew (.cells #[.int .i64 (tp : Int)] 3) none)
  have HK6 : Hid (HS c (w5.drew.alloc (.cells #[.int .i64 (tp : Int)] 3)) i (.slice a4 l4 k4) vp nest (ns.map Prod.fst ++ [x]) (ns.map plc) ∧ CV (w5.drew.alloc (.cells #[.int .i64 (tp : Int)] 3)) (some ⟨w5.heap.size, 0, none⟩) [.int .i64 (tp : Int)] ∧ w5.grownBy (w5.drew.alloc (.cells #[.int .i64 (tp : Int)] 3)) none) := ⟨HZ.out.1.keep K6, o4 w5.drew _ _, K6⟩
  have p4b : (w5.alloc (.cells #[.int .i64 (tp : Int)] 3)).cell? ⟨c.g, 4, none⟩ = some vp := HK6.out.1.blk.cell 4
  clear K6
  go_region_law ((refine a3e rfl (.tmp 20) (.tmp 23) 33 rfl 3 i0 _ 1 8 Tryz.underlying33 hi hz0 hz1 hz2 rfl (by decide) c.w0.heap.size vp (ns.map plc).length ((ns.map plc).map iv) (by first | rfl | simp [Act.eval]) (by exact HK6.out.1.places) ⟨w5.heap.size, 0, none⟩ 1 1 [.int .i64 (tp : Int)] (by first | rfl | simp [Act.eval]) rfl (by exact HK6.out.2.1) (by simp [Value.oneCell']) HB1.out.2.1 HB1.out.2.2 (by exact HK6.out.1.grown.size) ?_; intro v7 w7 O7 K7' B7'; have K7 : (w5.drew.alloc (.cells #[.int .i64 (tp : Int)] 3)).grownBy w7 vp.ownBlock := K7'; have B7 : v7.ownBlock = vp.ownBlock ∨ v7.ownBlock = some (w5.drew.alloc (.cells #[.int .i64 (tp : Int)] 3)).heap.size := B7'; have A7 := a43 HK6.out.1.blk HK6.out.1.places (by decide) K7; have p4c : w7.cell? ⟨c.g, 4, none⟩ = some vp := A7.cell 4; have p4f := A7.free 4; obtain ⟨a7, l7, k7, hv7⟩ := a2o O7; subst hv7))
  all_goals (go_wp2; go_end0; exact ⟨rfl, a9A HP.out HZ.out HK6.out.2.2 O7 K7 B7⟩)
 ·skip
  refine a4P (by rfl) 22 1 _ (by rfl) _ (by kernel_rfl) x.cells 43 HLN.out ?_
  intro ad w3 C3 K3
  have Q3 := HQ.out.1.keep (d3 (f9 w2 1 none) K3)
  have c3b : w3.cell? ⟨c.g, 3, none⟩ = some vt := Q3.blk.cell 3
  refine hK.out _ _ (HL.out.1.kept K3) (fun hHeld => ?_)
  clear hK K
  try simp only [Act.put, a0, a1, a2, a3, a4, a5]
  refine wpR (rs := [4]) (AllReadyH.cons rfl (fun K hK => ?_) AllReadyH.nil)
  go_simp
  refine hK.out _ _ (HL.out.1.kept K3) (fun hHeld => ?_)
  clear hK K
  try simp only [Act.put, a0, a1, a2, a3, a4, a5]
  refine wpR (rs := [7]) (AllReadyH.cons rfl (fun K hK => ?_) AllReadyH.nil)
  refine a3e (by rfl) (.tmp 10) (.tmp 12) 22 (by rfl) 43 i0 _ 24 72 Tryz.underlying22 hi hz0 hz1 hz2 rfl (by decide) c.w0.heap.size vt (ns.map Prod.fst).length (a0r (ns.map Prod.fst)) (by rfl) Q3.tree ad 1 1 x.cells (by rfl) rfl C3 x.cells_one HB1.out.1.1 HB1.out.1.2 (Nat.le_trans HQ.out.1.grown.size K3.size) ?_
  intro v4 w4 O4 K4 B4
  have hV2v : ¬ vt.ownBlock = some V2 := fun e => by have := HQ.out.1.tree.lt V2 e; have := HP.out.tree.lt V2 e; have := HV.out; omega
  have VN4 := hHeld.grown K4 (fun e => hV2v e)
  have G4 := Q3.blk.grown K4 Q3.ne_tree
  have c3c : w4.cell? ⟨c.g, 3, none⟩ = some vt := G4.cell 3
  have f3c := G4.free 3
  obtain ⟨Z4, Z5, Z6⟩ := Q3.hs.put_tree (x := x) O4 K4 B4
  have L4 : w.grownBy w3 none := d3 HQ.out.2.2 (d3 (f9 w2 1 none) K3)
  have V14 := (HQ.out.2.1.kept (d3 (f9 w2 1 none) K3)).grown K4 (fun e => by have := HP.out.tree.lt V1 e; have := HV.out; omega)
  obtain ⟨a4, l4, k4, hv4⟩ := a2o O4
  subst hv4
  refine hK.out _ _ VN4 (fun hHeld => ?_)
  clear hK K
  try simp only [Act.put, a0, a1, a2, a3, a4, a5]
  refine wpT (i := 8) (v := .pointer (some ⟨c.g, 0, none⟩)) rfl (Or.inl ⟨by rfl, fun W hW => ?_⟩) hHeld ?_
  ·clear hW
   go_simp
  try simp only [Act.put, a0, a1, a2, a3, a4, a5]
  refine wpT (i := 9) (v := .pointer (some ⟨c.g, 3, none⟩)) rfl (Or.inl ⟨by rfl, fun W hW => ?_⟩) hHeld ?_
  ·clear hW
   go_simp
  try simp only [Act.put, a0, a1, a2, a3, a4, a5]
  refine wpR (rs := [10]) (AllReadyH.cons rfl (fun K hK => ?_) AllReadyH.nil)
  go_simp
  refine hK.out _ _ (VN4.setOther (k := c.g) (i := 3) (.slice a4 l4 k4) (fun e => by have := HP.out.blk.lt; have := HV.out; omega)) (fun hHeld => ?_)
  refine wpAnyH_done (by kernel_rfl) ?_ _
  have V15 := V14.grown (S8 w4 c.g 3 (.slice a4 l4 k4)) (fun e => by have e2 := Option.some.inj e; have := HP.out.blk.lt; have := HV.out; omega)
  have HZ : Hid (HS c (w4.setCell ⟨c.g, 3, none⟩ (.slice a4 l4 k4)) i (.slice a4 l4 k4) vp nest (ns.map Prod.fst ++ [x]) (ns.map plc) ∧ GB w (w4.setCell ⟨c.g, 3, none⟩ (.slice a4 l4 k4)) (d4 c.g vt vp) ∧ ∀ y, y < w.heap.size → d4 c.g (.slice a4 l4 k4) vp y → d4 c.g vt vp y) := ⟨Z4, (GB.non L4).trans Z5 (fun _ _ h => h), fun y hy => Z6 y (Nat.lt_of_lt_of_le hy L4.size)⟩
  clear hK K hHeld O4 K4 B4 C3 K3 hV2v VN4 G4 c3c f3c Q3 c3 c3b Z4 Z5 Z6 L4 V14 hi hz0 hz1 hz2 i0 HQ HL HLN HX
  go_wp2_with fail
  generalize w4.setCell ⟨c.g, 3, none⟩ (.slice a4 l4 k4) = w5 at *
  have p1 : w5.cell? ⟨V1, 1, none⟩ = some (.int .i64 (tp : Int)) := V15.cell 1
  have p4 : w5.cell? ⟨c.g, 4, none⟩ = some vp := HZ.out.1.blk.cell 4
  obtain ⟨i0, hi, hz0, hz1, hz2⟩ := info_parts a8y
  clear V15
  have K6 : w5.grownBy (w5.drew.alloc (.cells #[.int .i64 (tp : Int)] 3)) none := d3 (f9 w5 1 none) (World.grownBy_alloc w5.drew (.cells #[.int .i64 (tp : Int)] 3) none)
  have HK6 : Hid (HS c (w5.drew.alloc (.cells #[.int .i64 (tp : Int)] 3)) i (.slice a4 l4 k4) vp nest (ns.map Prod.fst ++ [x]) (ns.map plc) ∧ CV (w5.drew.alloc (.cells #[.int .i64 (tp : Int)] 3)) (some ⟨w5.heap.size, 0, none⟩) [.int .i64 (tp : Int)] ∧ w5.grownBy (w5.drew.alloc (.cells #[.int .i64 (tp : Int)] 3)) none) := ⟨HZ.out.1.keep K6, o4 w5.drew _ _, K6⟩
  have p4b : (w5.alloc (.cells #[.int .i64 (tp : Int)] 3)).cell? ⟨c.g, 4, none⟩ = some vp := HK6.out.1.blk.cell 4
  clear K6
  go_region_law ((refine a3e rfl (.tmp 20) (.tmp 23) 33 rfl 3 i0 _ 1 8 Tryz.underlying33 hi hz0 hz1 hz2 rfl (by decide) c.w0.heap.size vp (ns.map plc).length ((ns.map plc).map iv) (by first | rfl | simp [Act.eval]) (by exact HK6.out.1.places) ⟨w5.heap.size, 0, none⟩ 1 1 [.int .i64 (tp : Int)] (by first | rfl | simp [Act.eval]) rfl (by exact HK6.out.2.1) (by simp [Value.oneCell']) HB1.out.2.1 HB1.out.2.2 (by exact HK6.out.1.grown.size) ?_; intro v7 w7 O7 K7' B7'; have K7 : (w5.drew.alloc (.cells #[.int .i64 (tp : Int)] 3)).grownBy w7 vp.ownBlock := K7'; have B7 : v7.ownBlock = vp.ownBlock ∨ v7.ownBlock = some (w5.drew.alloc (.cells #[.int .i64 (tp : Int)] 3)).heap.size := B7'; have A7 := a43 HK6.out.1.blk HK6.out.1.places (by decide) K7; have p4c : w7.cell? ⟨c.g, 4, none⟩ = some vp := A7.cell 4; have p4f := A7.free 4; obtain ⟨a7, l7, k7, hv7⟩ := a2o O7; subst hv7))
  all_goals (go_wp2; go_end0; exact ⟨rfl, a9A HP.out HZ.out HK6.out.2.2 O7 K7 B7⟩)

end
def a0U {α : Type} (c : PC) (w : World) (vt vp : Value) (E : Nat → Prop) (nest bud : Nat) (ns : List (Nd × Nat)) (val : α → Value) (more : α → List (Nd × Nat)) (X : α → World → Prop) (r : Except Er (α × List Tk)) (e : Ending) (w' : World) : Prop := match r with
 | .ok (v, ts') => e = .returned (val v) ∧ X v w' ∧ ∃ i' vt' vp', PS c w' i' vt' vp' ts' nest bud (ns ++ more v) ∧ GB w w' (fun x => d4 c.g vt vp x ∨ E x) ∧ ∀ x, x < w.heap.size → d4 c.g vt' vp' x → d4 c.g vt vp x
 | .error er => e = .panicked (Z2 er) ∧ GB w w' (fun x => d4 c.g vt vp x ∨ E x)
theorem a0U.of_run {c : PC} {w : World} {vt vp : Value} {nest bud : Nat} {ns : List (Nd × Nat)} {r : Out} {e : Ending} {w' : World} (h : l9 c w vt vp nest bud ns r e w') : a0U c w vt vp (fun _ => False) nest bud ns (fun _ => .tuple #[]) id (fun _ _ => True) r e w' := by
 cases r with
 | error er => exact ⟨h.1, h.2.mono (fun x hx => .inl hx)⟩
 | ok v =>
  obtain ⟨ms, ts'⟩ := v
  obtain ⟨h1, i', vt', vp', h2, h3, h4⟩ := h
  exact ⟨h1, trivial, i', vt', vp', h2, h3.mono (fun x hx => .inl hx), h4⟩
def ae1 (c : PC) (w : World) (vt vp : Value) (nest bud : Nat) (ns : List (Nd × Nat)) (val : List (Nd × Nat) → Value) (r : Out) (e : Ending) (w' : World) : Prop := match r with
 | .ok (ms, ts') => e = .returned (val ms) ∧ Ret c w vt vp ts' nest bud (ns ++ ms) w'
 | .error er => e = .panicked (Z2 er) ∧ GB w w' (d4 c.g vt vp)
theorem a0U.back {c : PC} {w : World} {vt vp : Value} {nest bud : Nat} {ns : List (Nd × Nat)} {r : Out} {e : Ending} {w' : World} {val : List (Nd × Nat) → Value} {X : List (Nd × Nat) → World → Prop} (h : a0U c w vt vp (fun _ => False) nest bud ns val id X r e w') : ae1 c w vt vp nest bud ns val r e w' := by
 cases r with
 | error er => exact ⟨h.1, h.2.mono (fun x hx => hx.elim id (fun h => h.elim))⟩
 | ok v =>
  obtain ⟨ms, ts'⟩ := v
  obtain ⟨h1, -, i', vt', vp', h2, h3, h4⟩ := h
  exact ⟨h1, i', vt', vp', h2, h3.mono (fun x hx => hx.elim id (fun h => h.elim)), h4⟩

section
variable {c : PC} {w : World} {i nest bud : Nat} {vt vp : Value} {ts : List Tk} {ns : List (Nd × Nat)}
theorem PS.nestTo (h : PS c w i vt vp ts nest bud ns) {m : Nat} (hm : m ≤ 200) : PS c (w.setCell ⟨c.g, 2, none⟩ (.int .i64 (m : Int))) i vt vp ts m bud ns := h.store 2 _ rfl h.drop h.good hm h.bud_le
theorem a6b {α : Type} (h : PS c w i vt vp ts nest bud ns) (hk : (hdT ts).kind ≠ 0) (n : Nat) (bs lb : Array Value) (hent : ∀ args w, (callFunc n args).run Tryz.prog w = .ok (.enter n args) w) (E : Nat → Prop) (more : α → List (Nd × Nat)) (X : α → World → Prop) (r : Except Er (α × List Tk))
  (hE : ∀ x, E x → x < w.heap.size) (hX : ∀ v W W', X v W → GB W W' (fun x => x = c.g ∨ w.heap.size ≤ x) → X v W')
  (hin : ∀ W i1 vt1 vp1, GB w W (d4 c.g vt vp) → (∀ x, x < w.heap.size → d4 c.g vt1 vp1 x → d4 c.g vt vp x) → PS c W i1 vt1 vp1 ts.tail (nest + 1) (bud + 1) ns → Calls Tryz.prog n (bs ++ lb) W (a0U c W vt1 vp1 E (nest + 1) (bud + 1) ns (fun _ => .tuple #[]) more X r)) :
  Calls Tryz.prog 174 #[.pointer (some ⟨c.g, 0, none⟩), .func (.func n) bs lb] w (a0U c w vt vp E nest (bud + 1) ns (fun _ => .agg (tkC (hdT ts))) more X (D6 nest ts r)) := by
 have hn := h.nest_le
 have G := World.grownBy_alloc w (.cells #[.int .i64 0, .int .i64 0, .string ⟨#[]⟩, .int .u32 0] 99) none
 have RA := VAt.alloc w 99 #[.int .i64 0, .int .i64 0, .string ⟨#[]⟩, .int .u32 0]
 have H1 := h.keep G
 have HP : Hid (PS c w i vt vp ts nest bud ns) := h
 have HIN : Hid (∀ W i1 vt1 vp1, GB w W (d4 c.g vt vp) → (∀ x, x < w.heap.size → d4 c.g vt1 vp1 x → d4 c.g vt vp x) → PS c W i1 vt1 vp1 ts.tail (nest + 1) (bud + 1) ns → Calls Tryz.prog n (bs ++ lb) W (a0U c W vt1 vp1 E (nest + 1) (bud + 1) ns (fun _ => .tuple #[]) more X r)) := hin
 have HX : Hid (∀ v W W', X v W → GB W W' (fun x => x = c.g ∨ w.heap.size ≤ x) → X v W') := hX
 have HK : Hid ((hdT ts).kind ≠ 0) := hk
 have HE : Hid (∀ x, E x → x < w.heap.size) := hE
 clear hin hX hk hE
 by_cases hd : nest = 200
 ·unfold D6
  rw [if_pos hd]
  have hd' : (200 : Int) ≤ (nest : Int) := by omega
  clear hd HIN HX h
  go_enter Tryz.func174, Tryz.ntmps174
  go_upto_region 1 with fail
  generalize w.alloc (.cells #[.int .i64 0, .int .i64 0, .string ⟨#[]⟩, .int .u32 0] 99) = W at *
  generalize w.heap.size = R at *
  have c2 : W.cell? ⟨c.g, 2, none⟩ = some (.int .i64 (nest : Int)) := H1.blk.cell 2
  go_wp2_with fail
  refine (a4f H1 _).mono ?_
  rintro e w1 ⟨rfl, G1⟩
  go_wp2
  exact ⟨rfl, rfl, GB.non (d3 G G1)⟩
 ·have e0 : D6 nest ts r = r := by rw [D6, if_neg hd]
  rw [e0]
  go_enter Tryz.func174, Tryz.ntmps174
  go_upto_region 1 with fail
  generalize w.alloc (.cells #[.int .i64 0, .int .i64 0, .string ⟨#[]⟩, .int .u32 0] 99) = W at *
  obtain ⟨R, hR⟩ : ∃ R, w.heap.size = R := ⟨_, rfl⟩
  have HRW : Hid (R < W.heap.size) := by show R < W.heap.size; rw [← hR]; exact RA.lt
  rw [hR] at RA ⊢
  have HR2 : Hid (w.heap.size ≤ R) := Nat.le_of_eq hR
  clear h hR
  have c2 : W.cell? ⟨c.g, 2, none⟩ = some (.int .i64 (nest : Int)) := H1.blk.cell 2
  have f2 := H1.blk.free 2
  have hd' : ¬ (200 : Int) ≤ (nest : Int) := by omega
  have hw : IntKind.i64.wrap ((nest : Int) + 1) = ((nest + 1 : Nat) : Int) := by rw [IntKind.wrap_i64]; omega
  have H2 : PS c (W.setCell ⟨c.g, 2, none⟩ (.int .i64 ((nest : Int) + 1))) i vt vp ts (nest + 1) bud ns := H1.nestTo (m := nest + 1) (by omega)
  have RA2 := RA.grown (S8 W c.g 2 (.int .i64 ((nest : Int) + 1))) (fun e => by have := Option.some.inj e; have := HP.out.blk.lt; have := HR2.out; omega)
  have G2 : GB w (W.setCell ⟨c.g, 2, none⟩ (.int .i64 ((nest : Int) + 1))) (d4 c.g vt vp) := (GB.non G).trans (GB.set W vt vp c.g 2 _) (fun _ _ h => h)
  have HRW2 : Hid (R < (W.setCell ⟨c.g, 2, none⟩ (.int .i64 ((nest : Int) + 1))).heap.size) := Nat.lt_of_lt_of_le HRW.out (S8 W c.g 2 (.int .i64 ((nest : Int) + 1))).size
  clear e0 hd H1 RA HRW G
  go_upto_region 4 with fail
  generalize W.setCell ⟨c.g, 2, none⟩ (.int .i64 ((nest : Int) + 1)) = w2 at *
  clear c2 f2 hd' hw
  go_wp2_with fail
  refine (P7 H2 HK.out).mono ?_
  rintro e w3 ⟨rfl, i3, vt3, vp3, H3, G3, F3⟩
  have RA3 := G3.vat RA2 (HP.out.not_foot HR2.out)
  have L2 := G2.size
  have G4 := G2.trans G3 (fun _ _ h => h)
  have F4 : ∀ x, x < w.heap.size → d4 c.g vt3 vp3 x → d4 c.g vt vp x := fun x hx => F3 x (Nat.lt_of_lt_of_le hx L2)
  have HF3 : Hid (¬ d4 c.g vt3 vp3 R) := fun e => HP.out.not_foot HR2.out (F3 R HRW2.out e)
  have HRW3 : Hid (R < w3.heap.size) := Nat.lt_of_lt_of_le HRW2.out G3.size
  clear H2 RA2 G2 HRW2 G3 F3 L2
  unfold tkC
  obtain ⟨t, ht⟩ : ∃ t, hdT ts = t := ⟨_, rfl⟩
  have HT : Hid (hdT ts = t) := ht
  rw [ht]
  clear ht
  obtain ⟨tk, tp, tx, tn⟩ := t
  simp only
  have KA := World.grownBy_alloc w3 (.cells #[.int .i64 (tk : Int), .int .i64 (tp : Int), str tx, .int .u32 (tn : Int)] 99) none
  have VA := VAt.alloc w3 99 #[.int .i64 (tk : Int), .int .i64 (tp : Int), str tx, .int .u32 (tn : Int)]
  have H4 := H3.keep KA
  have RA4 := RA3.kept KA
  have G5 := G4.trans (GB.non (S := d4 c.g vt vp) KA) (fun _ _ h => h)
  have HV : Hid (w.heap.size ≤ w3.heap.size ∧ ¬ d4 c.g vt3 vp3 w3.heap.size ∧ w3.heap.size < (w3.alloc (.cells #[.int .i64 (tk : Int), .int .i64 (tp : Int), str tx, .int .u32 (tn : Int)] 99)).heap.size ∧ R < (w3.alloc (.cells #[.int .i64 (tk : Int), .int .i64 (tp : Int), str tx, .int .u32 (tn : Int)] 99)).heap.size) := ⟨G4.size, H3.not_foot (Nat.le_refl _), VA.lt, RA4.lt⟩
  clear H3 RA3 G4 HRW3
  go_upto_region 5 with fail
  generalize w3.alloc (.cells #[.int .i64 (tk : Int), .int .i64 (tp : Int), .string ⟨tx.toArray⟩, .int .u32 (tn : Int)] 99) = w4 at *
  generalize w3.heap.size = V at *
  clear KA
  have CI := HIN.out w4 i3 vt3 vp3 G5 F4 H4
  clear HIN
  go_wp2_with fail
  refine CI.mono ?_
  clear CI
  have HG5 : Hid (GB w w4 (d4 c.g vt vp)) := G5
  have HF4 : Hid (∀ x, x < w.heap.size → d4 c.g vt3 vp3 x → d4 c.g vt vp x) := F4
  have HH4 : Hid (PS c w4 i3 vt3 vp3 ts.tail (nest + 1) (bud + 1) ns) := H4
  clear G5 F4 H4
  cases r with
  | error er =>
   rintro e w5 ⟨rfl, G6⟩
   go_wp2
   exact ⟨rfl, rfl, (HG5.out.mono (fun x hx => Or.inl hx)).trans G6 (fun x hx h => h.elim (fun h => .inl (HF4.out x hx h)) .inr)⟩
  | ok v =>
   obtain ⟨v, ts'⟩ := v
   rintro e w5 ⟨rfl, X5, i5, vt5, vp5, H5, G6, F6⟩
   have RA5 := G6.vat RA4 (fun h => h.elim HF3.out (fun h => by have := HE.out _ h; have := HR2.out; omega))
   have VA5 := G6.vat VA (fun h => h.elim HV.out.2.1 (fun h => by have := HE.out _ h; have := HV.out.1; omega))
   have HF5 : Hid (¬ d4 c.g vt5 vp5 R) := fun e => HF3.out (F6 R HV.out.2.2.2 e)
   have G7 : GB w w5 (fun x => d4 c.g vt vp x ∨ E x) := (HG5.out.mono (fun x hx => Or.inl hx)).trans G6 (fun x hx h => h.elim (fun h => .inl (HF4.out x hx h)) .inr)
   have F7 : ∀ x, x < w.heap.size → d4 c.g vt5 vp5 x → d4 c.g vt vp x := fun x hx h => HF4.out x hx (F6 x (Nat.lt_of_lt_of_le hx HG5.out.size) h)
   have c2 : w5.cell? ⟨c.g, 2, none⟩ = some (.int .i64 ((nest + 1 : Nat) : Int)) := H5.blk.cell 2
   have f2 := H5.blk.free 2
   have hw : IntKind.i64.wrap (((nest + 1 : Nat) : Int) - 1) = (nest : Int) := by rw [IntKind.wrap_i64]; omega
   have hw2 : ((nest + 1 : Nat) : Int) - 1 = (nest : Int) := by omega
   have H6 := H5.nestTo (m := nest) hn
   have hgR : R ≠ c.g := fun e => by have := HP.out.blk.lt; have := HR2.out; omega
   have hgV : V ≠ c.g := fun e => by have := HP.out.blk.lt; have := HV.out.1; omega
   have K6 := S8 w5 c.g 2 (.int .i64 (nest : Int))
   have RA6 := RA5.grown K6 (fun e => hgR (Option.some.inj e).symm)
   have VA6 := VA5.grown K6 (fun e => hgV (Option.some.inj e).symm)
   have HQ : Hid (PS c (w5.setCell ⟨c.g, 2, none⟩ (.int .i64 (nest : Int))) i5 vt5 vp5 ts' nest (bud + 1) (ns ++ more v) ∧ X v w5 ∧ GB w w5 (fun x => d4 c.g vt vp x ∨ E x) ∧ (∀ x, x < w.heap.size → d4 c.g vt5 vp5 x → d4 c.g vt vp x) ∧ w5.grownBy (w5.setCell ⟨c.g, 2, none⟩ (.int .i64 (nest : Int))) (some c.g)) := ⟨H6, X5, G7, F7, K6⟩
   clear HG5 HF4 HH4 X5 H5 G6 F6 RA4 VA RA5 VA5 G7 F7 H6 K6
   go_upto_region 7 with fail
   generalize w5.setCell ⟨c.g, 2, none⟩ (.int .i64 (nest : Int)) = w6 at *
   go_wp2_with (first
    | refine wpList_load_row rfl 99 (.tmp 5) rfl V rfl 99 _ (0, 0) _ VA6 Tryz.underlying99 rfl J1 ?_
    | refine wpList_store_row rfl 99 (.tmp 4) (.tmp 35) rfl R (tkC ⟨tk, tp, tx, tn⟩) rfl rfl 99 _ RA6 J1 rfl (ac0 _) ?_)
   refine bodyPost_ret (a1S rfl _ _ R _ _ rfl (RA6.setRow _) Tryz.underlying99 rfl J1) rfl ?_
   obtain ⟨H6, X5, G7, F7, K6⟩ := HQ.out
   have K7 := x5 (World.grownBy.refl w6 (some R)) R (tkC ⟨tk, tp, tx, tn⟩) (.inl rfl)
   have K8 : GB w5 (w6.setRow R (tkC ⟨tk, tp, tx, tn⟩)) (fun x => x = c.g ∨ w.heap.size ≤ x) := (GB.of K6 (S := fun x => x = c.g ∨ w.heap.size ≤ x) (fun x hx => by cases hx; exact .inl rfl)).trans (GB.of K7 (S := fun x => x = c.g ∨ w.heap.size ≤ x) (fun x hx => by cases hx; exact .inr HR2.out)) (fun _ _ h => h)
   refine ⟨by rw [HT.out], HX.out v _ _ X5 K8, i5, vt5, vp5, H6.away K7 HF5.out (fun e => by have := HP.out.toks_lt e; have := HR2.out; omega) (Nat.le_trans HP.out.grown.size HR2.out), ?_, F7⟩
   exact G7.trans K8 (fun x hx h => by
    rcases h with rfl | h
    ·exact .inl (.inl rfl)
    ·omega)

end
abbrev Op3 := List UInt8 × Nat × Nat
def Op3.nd (o : Op3) : Nd := { ndK o.2.1 with op := o.2.2 }
def o3 (o : Op3) : List Value := [str o.1, .int .i64 (o.2.1 : Int), .int .i64 (o.2.2 : Int)]
def U0 (os : List Op3) : List Value := os.flatMap o3
theorem ar7 (os : List Op3) : (U0 os).length = os.length * 3 := by
 induction os with
 | nil => rfl
 | cons x xs ih => simp only [U0, List.flatMap_cons, List.length_append, List.length_cons] at *; rw [ih]; simp [o3]; omega
theorem ar6 (os : List Op3) (i j : Nat) (hi : i < os.length) (hj : j < 3) : (U0 os)[i * 3 + j]? = (o3 os[i])[j]? := by
 induction os generalizing i with
 | nil => simp at hi
 | cons x xs ih =>
  have e : U0 (x :: xs) = o3 x ++ U0 xs := rfl
  rw [e]
  have hl : (o3 x).length = 3 := rfl
  cases i with
  | zero => rw [List.getElem?_append_left (by omega)]; simp
  | succ i =>
   rw [List.getElem?_append_right (by omega), hl, show (i + 1) * 3 + j - 3 = i * 3 + j by omega, ih i (by simpa using hi)]
   simp
theorem CV.opers {w : World} {ao : Option Addr} {os : List Op3} (h : CV w ao (U0 os)) {k : Nat} (hk : k < os.length) :
  ∃ b off, ao = some ⟨b, off, none⟩ ∧ w.cell? ⟨b, off + k * 3, none⟩ = some (str os[k].1) ∧ w.cell? ⟨b, off + k * 3 + 1, none⟩ = some (.int .i64 (os[k].2.1 : Int)) ∧ w.cell? ⟨b, off + k * 3 + 2, none⟩ = some (.int .i64 (os[k].2.2 : Int)) := by
 have hl := ar7 os
 obtain ⟨b, off, hao, hc⟩ := h.addr (k := k * 3) (by omega)
 have key : ∀ j (hj : j < 3), w.cell? ⟨b, off + k * 3 + j, none⟩ = (o3 os[k])[j]? := fun j hj => by
  rw [← ar6 os k j hk hj, Nat.add_assoc, hc (k * 3 + j) (by omega), List.getElem?_eq_getElem (by omega)]
 exact ⟨b, off, hao, key 0 (by omega), key 1 (by omega), key 2 (by omega)⟩
def D8 (os : List Op3) (x : List UInt8) : Option Nd := (os.find? fun o => decide (o.1 = x)).map Op3.nd
theorem aq7 {os : List Op3} {x : List UInt8} {k : Nat} (hk : k < os.length) (hx : os[k].1 = x) (hn : ∀ j (hj : j < os.length), j < k → os[j].1 ≠ x) : D8 os x = some os[k].nd := by
 unfold D8
 have : os.find? (fun o => decide (o.1 = x)) = some os[k] := by
  rw [List.find?_eq_some_iff_getElem]
  refine ⟨by simpa using hx, k, hk, rfl, fun j hj => ?_⟩
  have := hn j (by omega) hj
  simpa using this
 rw [this]
 rfl
theorem a82 {os : List Op3} {x : List UInt8} (hn : ∀ j (hj : j < os.length), os[j].1 ≠ x) : D8 os x = none := by
 unfold D8
 have : os.find? (fun o => decide (o.1 = x)) = none := by
  rw [List.find?_eq_none]
  intro o ho
  obtain ⟨j, hj, rfl⟩ := List.getElem_of_mem ho
  simpa using hn j hj
 rw [this]
 rfl
theorem a9d (x : List UInt8) (k o : Nat) : (Op3.nd (x, k, o)).cells = [.int .i64 (k : Int), .int .i64 (o : Int), .int .u32 0, .int .u32 0, .int .i64 0, .int .i64 0, .int .i64 0, .int .u8 0, .int .u8 0, .int .u8 0, .int .u8 0, .int .u8 0, .int .u8 0, .int .u8 0, .int .u8 0, .int .u8 0, .int .u8 0, .int .u8 0, .int .u8 0, .int .u8 0, .int .u8 0, .int .u8 0, .int .u8 0, .int .i64 0] := by kernel_rfl
def a6X (c : PC) (w : World) (vt vp : Value) (nest bud : Nat) (ns : List (Nd × Nat)) (p : Nat) (f : Option Nd) (r : Out) (e : Ending) (w' : World) : Prop := match f with
 | none => e = .returned (.bool false) ∧ w.grownBy w' none
 | some nd => match r with
  | .ok (ms, ts') => e = .returned (.bool true) ∧ Ret c w vt vp ts' nest bud (ns ++ ms ++ [(nd, p)]) w'
  | .error er => e = .panicked (Z2 er) ∧ GB w w' (d4 c.g vt vp)

section
variable {c : PC} {w : World} {i nest bud : Nat} {vt vp : Value} {ts : List Tk} {ns : List (Nd × Nat)}
theorem a5H (h : PS c w i vt vp ts nest bud ns) (n : Nat) (bs lb : Array Value) (hent : ∀ args w, (callFunc n args).run Tryz.prog w = .ok (.enter n args) w) (rec : Nat → List Tk → Out)
  (hin : ∀ (W : World) (i : Nat) (vt vp : Value) (ts : List Tk) (nest bud : Nat) (ns : List (Nd × Nat)), PS c W i vt vp ts nest bud ns → rec nest ts ≠ .error exP → Calls Tryz.prog n (bs ++ lb) W (l9 c W vt vp nest bud ns (rec nest ts)))
  (a : Option Addr) (ca : Nat) (os : List Op3) (ha : CV w a (U0 os)) (hos : ∀ o ∈ os, M3 o.1) (hm : os.length ≤ 1000) (hr : D8 os (hdT ts).text ≠ none → rec nest ts.tail ≠ .error exP) :
  Calls Tryz.prog 123 #[.pointer (some ⟨c.g, 0, none⟩), .func (.func n) bs lb, .slice a os.length ca] w (a6X c w vt vp nest bud ns (hdT ts).pos (D8 os (hdT ts).text) (rec nest ts.tail)) := by
 have HP : Hid (PS c w i vt vp ts nest bud ns) := h
 have HA : Hid (CV w a (U0 os)) := ha
 have HIN : Hid (∀ (W : World) (i : Nat) (vt vp : Value) (ts : List Tk) (nest bud : Nat) (ns : List (Nd × Nat)), PS c W i vt vp ts nest bud ns → rec nest ts ≠ .error exP → Calls Tryz.prog n (bs ++ lb) W (l9 c W vt vp nest bud ns (rec nest ts))) := hin
 have HR : Hid (D8 os (hdT ts).text ≠ none → rec nest ts.tail ≠ .error exP) := hr
 have HOS : Hid (∀ o ∈ os, M3 o.1) := hos
 obtain ⟨fo, hfo⟩ : ∃ f, D8 os (hdT ts).text = f := ⟨_, rfl⟩
 have HFO : Hid (D8 os (hdT ts).text = fo) := hfo
 rw [hfo]
 obtain ⟨rr, hrr⟩ : ∃ r, rec nest ts.tail = r := ⟨_, rfl⟩
 have HRR : Hid (rec nest ts.tail = rr) := hrr
 rw [hrr]
 obtain ⟨pp, hpp⟩ : ∃ p, (hdT ts).pos = p := ⟨_, rfl⟩
 have HPP : Hid ((hdT ts).pos = pp) := hpp
 rw [hpp]
 clear h ha hin hr hos hfo hrr hpp
 go_enter Tryz.func123, Tryz.ntmps123
 go_wp2
 go_loopw [12] (fun j wr => ∃ k : Nat, k ≤ os.length ∧ j = .int .i64 k ∧ Hid (∀ j (hj : j < os.length), j < k → os[j].1 ≠ (hdT ts).text) ∧ w.grownBy wr none) (fun j _ => os.length - (intOf j).toNat)
 case atStart => exact ⟨0, Nat.zero_le _, rfl, fun j _ hj => by omega, World.grownBy.refl _ _⟩
 case round =>
  obtain ⟨k, hk, rfl, HI, G⟩ := hrel
  by_cases hlt : k < os.length
  ·obtain ⟨b, o, rfl, c0, c1, c2⟩ := (HA.out.keptNone G).opers hlt
   have hl : (k : Int) < (os.length : Int) := by omega
   have HASK : Hid (M3 os[k].1) := HOS.out _ (List.getElem_mem hlt)
   have HHIT : Hid (os[k].1 = (hdT ts).text → fo = some os[k].nd) := fun e => by rw [← HFO.out]; exact aq7 hlt e HI.out
   have HMISS : Hid (os[k].1 ≠ (hdT ts).text → ∀ j (hj : j < os.length), j < k + 1 → os[j].1 ≠ (hdT ts).text) := fun e j hj hj2 => by
    by_cases e2 : j = k
    ·subst e2; exact e
    ·exact HI.out j hj (by omega)
   clear HI
   generalize os[k] = ok at *
   obtain ⟨ox, ok, oo⟩ := ok
   simp only at *
   have KA := World.grownBy_alloc wr (.cells #[str ox, .int .i64 (ok : Int), .int .i64 (oo : Int)] 105) none
   have VA := VAt.alloc wr 105 #[str ox, .int .i64 (ok : Int), .int .i64 (oo : Int)]
   have G1 := d3 G KA
   have HV : Hid (w.heap.size ≤ wr.heap.size) := G.size
   go_upto_region 4 with fail
   generalize wr.alloc (.cells #[.string ⟨ox.toArray⟩, .int .i64 (ok : Int), .int .i64 (oo : Int)] 105) = w1 at *
   generalize wr.heap.size = V at *
   have HCS : Hid (∀ W ad, w1.grownBy W none → CV W (some ad) [str ox] → Calls Tryz.prog 150 #[.pointer (some ⟨c.g, 0, none⟩), .slice (some ad) 1 1] W fun e w' => e = .returned (.bool (decide (ox = (hdT ts).text))) ∧ W.grownBy w' none) := fun W ad GW hW => by
    have := a1W (HP.out.keep (d3 G1 GW)) (some ad) 1 [ox] hW (by simp)
    rw [show decide ((hdT ts).text ∈ [ox]) = decide (ox = (hdT ts).text) by simp [eq_comm]] at this
    exact this
   have o0 : w1.cell? ⟨V, 0, none⟩ = some (str ox) := VA.cell 0
   have HG1 : Hid (w.grownBy w1 none) := G1
   have HVA : Hid (VAt w1 V 105 #[str ox, .int .i64 (ok : Int), .int .i64 (oo : Int)]) := VA
   clear G KA c0 c1 c2 G1 VA HA
   by_cases he : ox = (hdT ts).text
   ·have HN : Hid (fo = some (Op3.nd (ox, ok, oo)) ∧ rec nest ts.tail ≠ .error exP ∧ (hdT ts).kind ≠ 0) := by
     have e1 := HHIT.out he
     refine ⟨e1, HR.out (by rw [HFO.out, e1]; simp), ?_⟩
     exact M9 (x := ox) (by rw [a0J HP.out.good.hd HASK.out]; simpa using he.symm)
    rw [decide_eq_true he] at HCS
    clear he HHIT HMISS
    go_region_law ((go_simp; go_at_call 150; refine (HCS.out _ ⟨w1.heap.size, 0, none⟩ (by exact d3 (f9 w1 1 none) (World.grownBy_alloc w1.drew _ none)) (by exact o4 w1.drew _ _)).mono ?_; rintro e w2 ⟨rfl, G2'⟩; have G2 : w1.grownBy w2 none := d3 (d3 (f9 w1 1 none) (World.grownBy_alloc w1.drew (.cells #[str ox] 9) none)) G2'))
    have G3 := d3 HG1.out G2
    have P2 := HP.out.keep G3
    have VA2 := HVA.out.kept G2
    clear G2 G2' HG1 HVA HCS o0
    go_wp2_with fail
    refine (P7 P2 HN.out.2.2).mono ?_
    rintro e w3 ⟨rfl, i3, vt3, vp3, H3, G4, F4⟩
    have VA3 := G4.vat VA2 (HP.out.not_foot HV.out)
    have HF3 : Hid (¬ d4 c.g vt3 vp3 V) := fun e => HP.out.not_foot HV.out (F4 V VA2.lt e)
    have G5 : GB w w3 (d4 c.g vt vp) := (GB.non G3).trans G4 (fun _ _ h => h)
    have F5 : ∀ x, x < w.heap.size → d4 c.g vt3 vp3 x → d4 c.g vt vp x := fun x hx => F4 x (Nat.lt_of_lt_of_le hx G3.size)
    clear P2 VA2 G4 F4 G3
    unfold tkC
    obtain ⟨t, ht⟩ : ∃ t, hdT ts = t := ⟨_, rfl⟩
    have HT : Hid (hdT ts = t) := ht
    rw [ht]
    clear ht
    obtain ⟨tk, tp, tx, tn⟩ := t
    simp only
    have KA := World.grownBy_alloc w3 (.cells #[.int .i64 (tk : Int), .int .i64 (tp : Int), str tx, .int .u32 (tn : Int)] 99) none
    have VM := VAt.alloc w3 99 #[.int .i64 (tk : Int), .int .i64 (tp : Int), str tx, .int .u32 (tn : Int)]
    have H4 := H3.keep KA
    have VA4 := VA3.kept KA
    have G6 := G5.trans (GB.non (S := d4 c.g vt vp) KA) (fun _ _ h => h)
    have HM : Hid (¬ d4 c.g vt3 vp3 w3.heap.size) := H3.not_foot (Nat.le_refl _)
    clear H3 VA3 G5
    go_upto_region 6 with fail
    generalize w3.alloc (.cells #[.int .i64 (tk : Int), .int .i64 (tp : Int), .string ⟨tx.toArray⟩, .int .u32 (tn : Int)] 99) = w4 at *
    generalize w3.heap.size = M at *
    have CI := HIN.out w4 i3 vt3 vp3 ts.tail nest (bud + 1) ns H4 HN.out.2.1
    rw [HRR.out] at CI
    have HG6 : Hid (GB w w4 (d4 c.g vt vp) ∧ ∀ x, x < w.heap.size → d4 c.g vt3 vp3 x → d4 c.g vt vp x) := ⟨G6, F5⟩
    clear HIN KA G6 F5 H4
    go_wp2_with fail
    refine CI.mono ?_
    clear CI
    cases rr with
    | error er =>
     rintro e w5 ⟨rfl, G7⟩
     go_wp2
     refine ⟨rfl, ?_⟩
     rw [HN.out.1]
     exact ⟨rfl, HG6.out.1.trans G7 HG6.out.2⟩
    | ok v =>
     obtain ⟨ms, ts'⟩ := v
     rintro e w5 ⟨rfl, i5, vt5, vp5, H5, G7, F7⟩
     have VM5 := G7.vat VM HM.out
     have VA5 := G7.vat VA4 HF3.out
     have G8 := HG6.out.1.trans G7 HG6.out.2
     have F8 : ∀ x, x < w.heap.size → d4 c.g vt5 vp5 x → d4 c.g vt vp x := fun x hx h => HG6.out.2 x hx (F7 x (Nat.lt_of_lt_of_le hx HG6.out.1.size) h)
     have HG8 : Hid (GB w w5 (d4 c.g vt vp) ∧ ∀ x, x < w.heap.size → d4 c.g vt5 vp5 x → d4 c.g vt vp x) := ⟨G8, F8⟩
     have o1 : w5.cell? ⟨V, 1, none⟩ = some (.int .i64 (ok : Int)) := VA5.cell 1
     have o2 : w5.cell? ⟨V, 2, none⟩ = some (.int .i64 (oo : Int)) := VA5.cell 2
     have CP := L9 H5 ⟨tk, tp, tx, tn⟩ (Op3.nd (ox, ok, oo))
     rw [a9d] at CP
     unfold tkC at CP
     clear HG6 H5 G7 F7 VM VA4 VA5 G8 F8
     go_wp2_with (refine wpList_load_row rfl 99 (.tmp 9) rfl M rfl 99 _ (0, 0) _ VM5 Tryz.underlying99 rfl J1 ?_)
     refine CP.mono ?_
     rintro e w6 ⟨rfl, R6⟩
     clear CP
     go_wp2
     go_ret
     rw [HN.out.1]
     refine ⟨rfl, ?_⟩
     have e3 : pp = tp := by rw [← HPP.out, HT.out]
     rw [e3]
     exact Ret.of HG8.out.1 HG8.out.2 R6
   ·have HN : Hid (∀ j (hj : j < os.length), j < k + 1 → os[j].1 ≠ (hdT ts).text) := HMISS.out he
    rw [decide_eq_false he] at HCS
    clear he HHIT HMISS
    go_region_law ((go_simp; go_at_call 150; refine (HCS.out _ ⟨w1.heap.size, 0, none⟩ (by exact d3 (f9 w1 1 none) (World.grownBy_alloc w1.drew _ none)) (by exact o4 w1.drew _ _)).mono ?_; rintro e w2 ⟨rfl, G2'⟩; have G2 : w1.grownBy w2 none := d3 (d3 (f9 w1 1 none) (World.grownBy_alloc w1.drew (.cells #[str ox] 9) none)) G2'))
    have G3 := d3 HG1.out G2
    clear G2 G2' HCS o0 HG1 HVA
    go_wp2
    go_roundw
    case rel => exact ⟨k + 1, by omega, by go_num, HN, G3⟩
    case measure => simp [intOf]; omega
  ·have HN : Hid (fo = none) := by
    show fo = none
    rw [← HFO.out]
    exact a82 (fun j hj => HI.out j hj (by omega))
   have hl : ¬ (k : Int) < (os.length : Int) := by omega
   clear HI HA
   go_wp2
   go_ret
   rw [HN.out]
   exact ⟨rfl, G⟩

end
theorem GB.cv {w w' : World} {S : Nat → Prop} {ao : Option Addr} {vs : List Value} (h : GB w w' S) (hc : CV w ao vs) (ha : ∀ ad, ao = some ad → ¬ S ad.block) : CV w' ao vs :=
 hc.same fun ad had _ hlt => h.block ad.block hlt (ha ad had)
def msr (c : PC) (W : World) : Nat := c.all.length - (match W.cell? ⟨c.g, 1, none⟩ with
 | some (.int _ z) => z.toNat
 | _ => 0)

section
variable {c : PC} {w : World} {i nest bud : Nat} {vt vp : Value} {ts : List Tk} {ns : List (Nd × Nat)}
theorem PS.msr (h : PS c w i vt vp ts nest bud ns) : msr c w = ts.length := by
 have c1 : w.cell? ⟨c.g, 1, none⟩ = some (.int .i64 (i : Int)) := h.blk.cell 1
 unfold Go.Proofs.YtklipelnjgpnjaaGreatDoor.msr
 rw [c1, ← h.drop, List.length_drop]
 rfl
theorem a9f {α β : Type} (nest : Nat) (ts : List Tk) (x : Except Er α) (f : α → Except Er β) : D6 nest ts (d6 x f) = d6 (D6 nest ts x) f := by
 unfold D6
 split <;> rfl
theorem aB0 {rec : List Tk → Out} {k f : Nat} {ms : List (Nd × Nat)} {ts : List Tk} (h : opT k ts = none) : x8 rec k f ms ts = .ok (ms, ts) := by
 cases f with
 | zero => rfl
 | succ f => rw [x8, h]
theorem aB2 {rec : List Tk → Out} {k f : Nat} {ms : List (Nd × Nat)} {ts : List Tk} {nd : Nd} (hk : k ≠ 4) (h : opT k ts = some nd) : x8 rec k (f + 1) ms ts = d6 (rec ts.tail) fun p => x8 rec k f (ms ++ p.1 ++ [(nd, (hdT ts).pos)]) p.2 := by
 rw [x8, h]
 simp only
 congr 1
 funext p
 rw [if_neg hk]
theorem a1P (h : PS c w i vt vp ts nest bud ns) (n : Nat) (bs lb : Array Value) (hent : ∀ args w, (callFunc n args).run Tryz.prog w = .ok (.enter n args) w) (rec : Nat → List Tk → Out)
  (hin : ∀ (W : World) (i : Nat) (vt vp : Value) (ts : List Tk) (nest bud : Nat) (ns : List (Nd × Nat)), PS c W i vt vp ts nest bud ns → rec nest ts ≠ .error exP → Calls Tryz.prog n (bs ++ lb) W (l9 c W vt vp nest bud ns (rec nest ts)))
  (hfr : ∀ nest ts ns r, rec nest ts = .ok (ns, r) → Fr ts r)
  (a : Option Addr) (ca : Nat) (os : List Op3) (ha : CV w a (U0 os)) (hab : ∀ ad, a = some ad → ¬ d4 c.g vt vp ad.block) (hau : ∀ ad, a = some ad → ad.block < w.heap.size) (hos : ∀ o ∈ os, M3 o.1) (hm : os.length ≤ 1000) (k : Nat) (hk : k ≠ 4) (hop : ∀ ts, Z7 ts → opT k ts = D8 os (hdT ts).text)
  (ans : Out) (hans : d6 (rec nest ts) (fun p => x8 (rec nest) k p.2.length p.1 p.2) = ans) (hne : ans ≠ .error exP) :
  Calls Tryz.prog 85 #[.pointer (some ⟨c.g, 0, none⟩), .func (.func n) bs lb, .slice a os.length ca] w (l9 c w vt vp nest bud ns ans) := by
 have HP : Hid (PS c w i vt vp ts nest bud ns) := h
 have HA : Hid (CV w a (U0 os) ∧ (∀ ad, a = some ad → ¬ d4 c.g vt vp ad.block) ∧ ∀ ad, a = some ad → ad.block < w.heap.size) := ⟨ha, hab, hau⟩
 have HIN : Hid (∀ (W : World) (i : Nat) (vt vp : Value) (ts : List Tk) (nest bud : Nat) (ns : List (Nd × Nat)), PS c W i vt vp ts nest bud ns → rec nest ts ≠ .error exP → Calls Tryz.prog n (bs ++ lb) W (l9 c W vt vp nest bud ns (rec nest ts))) := hin
 have HOS : Hid ((∀ o ∈ os, M3 o.1) ∧ ∀ ts, Z7 ts → opT k ts = D8 os (hdT ts).text) := ⟨hos, hop⟩
 have HFR : Hid (∀ nest ts ns r, rec nest ts = .ok (ns, r) → Fr ts r) := hfr
 have HNE : Hid (ans ≠ .error exP) := hne
 have h1 : rec nest ts ≠ .error exP := fun e => by rw [e] at hans; exact hne hans.symm
 have CI := hin w i vt vp ts nest bud ns h h1
 have HANS : Hid (d6 (rec nest ts) (fun p => x8 (rec nest) k p.2.length p.1 p.2) = ans) := hans
 obtain ⟨r0, hr0⟩ : ∃ r, rec nest ts = r := ⟨_, rfl⟩
 rw [hr0] at CI HANS
 clear h ha hin hos hop hne hab hau hfr h1 hans hr0
 go_enter Tryz.func85, Tryz.ntmps85
 go_wp2_with fail
 refine CI.mono ?_
 clear CI
 cases r0 with
 | error er =>
  have ha : ans = .error er := HANS.out.symm
  subst ha
  rintro e w1 ⟨rfl, G1⟩
  go_wp2
  exact ⟨rfl, rfl, G1⟩
 | ok v =>
  obtain ⟨ms, ts1⟩ := v
  rintro e w1 ⟨rfl, i1, vt1, vp1, H1, G1, F1⟩
  have HQ : Hid (PS c w1 i1 vt1 vp1 ts1 nest bud (ns ++ ms) ∧ GB w w1 (d4 c.g vt vp) ∧ ∀ x, x < w.heap.size → d4 c.g vt1 vp1 x → d4 c.g vt vp x) := ⟨H1, G1, F1⟩
  have HL : Hid (x8 (rec nest) k ts1.length ms ts1 = ans) := HANS.out
  clear H1 G1 F1 HANS
  go_wp2
  go_loopw [] (fun wr => ∃ (f : Nat) (mx : List (Nd × Nat)) (tx : List Tk) (ix : Nat) (vx vy : Value), tx.length ≤ f ∧ Hid (x8 (rec nest) k f mx tx = ans) ∧ PS c wr ix vx vy tx nest bud (ns ++ mx) ∧ GB w wr (d4 c.g vt vp) ∧ ∀ x, x < w.heap.size → d4 c.g vx vy x → d4 c.g vt vp x) (fun wr => msr c wr)
  case atStart => exact ⟨ts1.length, ms, ts1, i1, vt1, vp1, Nat.le_refl _, HL, HQ.out.1, HQ.out.2.1, HQ.out.2.2⟩
  case round =>
   clear HQ HL
   obtain ⟨f, mx, tx, ix, vx, vy, hf, HL, H2, G2, F2⟩ := hrel
   have hfo := HOS.out.2 tx H2.good
   have CX := G2.cv HA.out.1 HA.out.2.1
   have hlen := List.length_pos_iff.2 H2.good.ne
   cases hO : opT k tx with
   | none =>
    rw [hO] at hfo
    have CF := a5H H2 n bs lb hent rec HIN.out a ca os CX HOS.out.1 hm (fun h => absurd hfo.symm h)
    rw [← hfo] at CF
    have HA2 : Hid (ans = .ok (mx, tx)) := by show ans = _; rw [← HL.out, aB0 hO]
    have HQ : Hid (PS c wr ix vx vy tx nest bud (ns ++ mx) ∧ GB w wr (d4 c.g vt vp) ∧ ∀ x, x < w.heap.size → d4 c.g vx vy x → d4 c.g vt vp x) := ⟨H2, G2, F2⟩
    clear hO hfo CX HL H2 G2 F2 hf hlen
    go_wp2_with fail
    refine CF.mono ?_
    rintro e w2 ⟨rfl, G3⟩
    clear CF
    go_wp2
    go_end0
    rw [HA2.out]
    exact ⟨rfl, ix, vx, vy, HQ.out.1.keep G3, HQ.out.2.1.trans (GB.non (S := d4 c.g vt vp) G3) (fun _ _ h => h), HQ.out.2.2⟩
   | some nd =>
    rw [hO] at hfo
    obtain ⟨f, rfl⟩ : ∃ g, f = g + 1 := ⟨f - 1, by omega⟩
    have e1 : d6 (rec nest tx.tail) (fun p => x8 (rec nest) k f (mx ++ p.1 ++ [(nd, (hdT tx).pos)]) p.2) = ans := by rw [← HL.out, aB2 hk hO]
    have hne2 : rec nest tx.tail ≠ .error exP := fun e => by rw [e] at e1; exact HNE.out e1.symm
    have CF := a5H H2 n bs lb hent rec HIN.out a ca os CX HOS.out.1 hm (fun _ => hne2)
    rw [← hfo] at CF
    have HE1 : Hid (d6 (rec nest tx.tail) (fun p => x8 (rec nest) k f (mx ++ p.1 ++ [(nd, (hdT tx).pos)]) p.2) = ans) := e1
    have HFL : Hid (∀ ns r, rec nest tx.tail = .ok (ns, r) → r.length + 2 ≤ tx.length) := fun ns r hr => by
     have := (HFR.out _ _ _ _ hr).2
     rw [List.length_tail] at this
     omega
    have HM : Hid (msr c wr = tx.length ∧ tx.length ≤ f + 1) := ⟨H2.msr, hf⟩
    have HQ : Hid (GB w wr (d4 c.g vt vp) ∧ ∀ x, x < w.heap.size → d4 c.g vx vy x → d4 c.g vt vp x) := ⟨G2, F2⟩
    clear hO hfo CX HL H2 G2 F2 hf hlen e1 hne2
    go_wp2_with fail
    refine CF.mono ?_
    clear CF
    generalize rec nest tx.tail = rr at *
    cases rr with
    | error er =>
     have ha : ans = .error er := HE1.out.symm
     rintro e w2 ⟨rfl, G3⟩
     go_wp2
     refine ⟨rfl, ?_⟩
     rw [ha]
     exact ⟨rfl, HQ.out.1.trans G3 HQ.out.2⟩
    | ok v =>
     obtain ⟨p1, p2⟩ := v
     rintro e w2 ⟨rfl, i3, v3, v4, H3, G3, F3⟩
     have HL2 : Hid (x8 (rec nest) k f (mx ++ p1 ++ [(nd, (hdT tx).pos)]) p2 = ans) := HE1.out
     have hlen := HFL.out p1 p2 rfl
     have HM2 : Hid (msr c w2 = p2.length) := H3.msr
     have HR : Hid (PS c w2 i3 v3 v4 p2 nest bud (ns ++ (mx ++ p1 ++ [(nd, (hdT tx).pos)])) ∧ GB w w2 (d4 c.g vt vp) ∧ ∀ x, x < w.heap.size → d4 c.g v3 v4 x → d4 c.g vt vp x) :=
      ⟨by rw [← List.append_assoc, ← List.append_assoc]; exact H3, HQ.out.1.trans G3 HQ.out.2, fun x hx h => HQ.out.2 x hx (F3 x (Nat.lt_of_lt_of_le hx HQ.out.1.size) h)⟩
     clear H3 G3 F3 HE1 HFL HQ
     go_wp2
     go_roundw
     case rel => exact ⟨f, _, p2, i3, v3, v4, by have := HM.out; omega, HL2, HR.out.1, HR.out.2.1, HR.out.2.2⟩
     case measure => rw [HM2.out, HM.out.1]; omega
theorem a9y (h : PS c w i vt vp ts nest bud ns) (kd : Nat) (n : Nat) (bs lb : Array Value) (hent : ∀ args w, (callFunc n args).run Tryz.prog w = .ok (.enter n args) w) (n2 : Nat) (bs2 lb2 : Array Value) (hent2 : ∀ args w, (callFunc n2 args).run Tryz.prog w = .ok (.enter n2 args) w)
  (rec rec2 : Nat → List Tk → Out)
  (hin : ∀ (W : World) (i : Nat) (vt vp : Value) (ts : List Tk) (nest bud : Nat) (ns : List (Nd × Nat)), PS c W i vt vp ts nest bud ns → rec nest ts ≠ .error exP → Calls Tryz.prog n (bs ++ lb) W (l9 c W vt vp nest bud ns (rec nest ts)))
  (hin2 : ∀ (W : World) (i : Nat) (vt vp : Value) (ts : List Tk) (nest bud : Nat) (ns : List (Nd × Nat)), PS c W i vt vp ts nest bud ns → rec2 nest ts ≠ .error exP → Calls Tryz.prog n2 (bs2 ++ lb2) W (l9 c W vt vp nest bud ns (rec2 nest ts)))
  (a : Option Addr) (ca : Nat) (xs : List (List UInt8)) (ha : CV w a (xs.map str)) (hm : xs.length ≤ 1000)
  (ans : Out) (hyes : (hdT ts).text ∈ xs → (hdT ts).kind ≠ 0 ∧ D6 nest ts (d6 (rec (nest + 1) ts.tail) fun p => .ok (p.1 ++ [(ndK kd, (hdT ts).pos)], p.2)) = ans) (hno : (hdT ts).text ∉ xs → rec2 nest ts = ans) (hne : ans ≠ .error exP) :
  Calls Tryz.prog 153 #[.pointer (some ⟨c.g, 0, none⟩), .int .i64 (kd : Int), .func (.func n) bs lb, .func (.func n2) bs2 lb2, .slice a xs.length ca] w (l9 c w vt vp nest bud ns ans) := by
 have CS := a1W h a ca xs ha hm
 have HP : Hid (PS c w i vt vp ts nest bud ns) := h
 by_cases hx : (hdT ts).text ∈ xs
 ·obtain ⟨hk, ha2⟩ := hyes hx
  rw [decide_eq_true hx] at CS
  rw [a9f] at ha2
  have HR : Hid (nest ≠ 200 → rec (nest + 1) ts.tail ≠ .error exP) := fun hn e => by
   rw [D6, if_neg hn, e] at ha2
   exact hne ha2.symm
  have HC : Hid (∀ W, w.grownBy W none → Calls Tryz.prog 174 #[.pointer (some ⟨c.g, 0, none⟩), .func (.func n) bs lb] W (a0U c W vt vp (fun _ => False) nest (bud + 1) ns (fun _ => .agg (tkC (hdT ts))) id (fun _ _ => True) (D6 nest ts (rec (nest + 1) ts.tail)))) := fun W G =>
   a6b (h.keep G) hk n bs lb hent (fun _ => False) id (fun _ _ => True) (rec (nest + 1) ts.tail) (fun _ h => h.elim) (fun _ _ _ h _ => h) (fun W i1 vt1 vp1 _ _ h1 => by
    have := h1.nest_le
    exact (hin W i1 vt1 vp1 ts.tail (nest + 1) (bud + 1) ns h1 (HR.out (by omega))).mono fun _ _ h => a0U.of_run h)
  have HA : Hid (d6 (D6 nest ts (rec (nest + 1) ts.tail)) (fun p => .ok (p.1 ++ [(ndK kd, (hdT ts).pos)], p.2)) = ans) := ha2
  generalize D6 nest ts (rec (nest + 1) ts.tail) = rr at *
  have HO3 : Hid (∀ W i vt vp ts nest bud ns, PS c W i vt vp ts nest (bud + 1) ns → ∀ t : Tk, Calls Tryz.prog 152 #[.pointer (some ⟨c.g, 0, none⟩), .agg (tkC t), .agg ([.int .i64 (kd : Int), .int .i64 0, .int .u32 0, .int .u32 0, .int .i64 0, .int .i64 0, .int .i64 0, .int .u8 0, .int .u8 0, .int .u8 0, .int .u8 0, .int .u8 0, .int .u8 0, .int .u8 0, .int .u8 0, .int .u8 0, .int .u8 0, .int .u8 0, .int .u8 0, .int .u8 0, .int .u8 0, .int .u8 0, .int .u8 0, .int .i64 0] : List Value).toArray] W fun e w' => e = .returned (.tuple #[]) ∧ Ret c W vt vp ts nest bud (ns ++ [(ndK kd, t.pos)]) w') := fun W i vt vp ts nest bud ns h t => by
   have := L9 h t (Op3.nd ([], kd, 0))
   rw [a9d] at this
   exact this
  clear h ha hin hin2 hyes hno hne hx ha2 HR hk
  go_enter Tryz.func153, Tryz.ntmps153
  go_wp2_with fail
  refine CS.mono ?_
  rintro e w1 ⟨rfl, G1⟩
  have CN := HC.out w1 G1
  clear CS HC
  go_wp2_with fail
  refine CN.mono ?_
  clear CN
  intro e w2 hX
  have hB := hX.back
  clear hX
  cases rr with
  | error er =>
   obtain ⟨rfl, G2⟩ := hB
   have HA2 : Hid (ans = .error er) := HA.out.symm
   go_wp2
   refine ⟨rfl, ?_⟩
   rw [HA2.out]
   exact ⟨rfl, (GB.non (S := d4 c.g vt vp) G1).trans G2 (fun _ _ h => h)⟩
  | ok v =>
   obtain ⟨ms, ts'⟩ := v
   obtain ⟨rfl, i3, vt3, vp3, H3, G3, F3⟩ := hB
   have CP := HO3.out w2 i3 vt3 vp3 ts' nest bud (ns ++ ms) H3 (hdT ts)
   have HQ : Hid (GB w w2 (d4 c.g vt vp) ∧ ∀ x, x < w.heap.size → d4 c.g vt3 vp3 x → d4 c.g vt vp x) := ⟨(GB.non (S := d4 c.g vt vp) G1).trans G3 (fun _ _ h => h), fun x hx => F3 x (Nat.lt_of_lt_of_le hx G1.size)⟩
   have ha : ans = .ok (ms ++ [(ndK kd, (hdT ts).pos)], ts') := HA.out.symm
   have HA2 : Hid (ans = .ok (ms ++ [(ndK kd, (hdT ts).pos)], ts')) := ha
   clear HA HO3 H3 G3 F3 G1 ha
   obtain ⟨TC, hTC⟩ : ∃ T, tkC (hdT ts) = T := ⟨_, rfl⟩
   rw [hTC] at CP ⊢
   clear hTC
   go_wp2_with fail
   refine CP.mono ?_
   rintro e w3 ⟨rfl, R⟩
   clear CP
   go_wp2
   go_end0
   rw [HA2.out]
   refine ⟨rfl, ?_⟩
   rw [← List.append_assoc]
   exact Ret.of HQ.out.1 HQ.out.2 R
 ·have ha2 := hno hx
  rw [decide_eq_false hx] at CS
  have HC : Hid (∀ W, w.grownBy W none → Calls Tryz.prog n2 (bs2 ++ lb2) W (l9 c W vt vp nest bud ns ans)) := fun W G => by
   have := hin2 W i vt vp ts nest bud ns (h.keep G) (by rw [ha2]; exact hne)
   rw [ha2] at this
   exact this
  have HNE : Hid (ans ≠ .error exP) := hne
  clear h ha hin hin2 hyes hno hne hx ha2
  go_enter Tryz.func153, Tryz.ntmps153
  go_wp2_with fail
  refine CS.mono ?_
  rintro e w1 ⟨rfl, G1⟩
  have CN := HC.out w1 G1
  clear CS HC
  go_wp2_with fail
  refine CN.mono ?_
  clear CN
  cases ans with
  | error er =>
   rintro e w2 ⟨rfl, G2⟩
   go_wp2
   exact ⟨rfl, rfl, (GB.non (S := d4 c.g vt vp) G1).trans G2 (fun _ _ h => h)⟩
  | ok v =>
   obtain ⟨ms, ts'⟩ := v
   rintro e w2 ⟨rfl, R⟩
   go_wp2
   go_end0
   exact ⟨rfl, Ret.of (GB.non G1) (fun _ _ h => h) R⟩

end
theorem aw5 {ts : List Tk} {x y : List UInt8} (h : isB ts x = true) (hxy : x ≠ y) : isB ts y = false := by
 have e := a2T h
 unfold isB
 rw [e]
 have : (x == y) = false := by simpa using hxy
 rw [this, Bool.and_false]
theorem a4i {ts : List Tk} {x y : List UInt8} (h : isB ts x = true) (hxy : x ≠ y) : ¬ isB ts y = true := by rw [aw5 h hxy]; simp
def O6 (of side n m : Nat) : Nd := { ndK 16 with of := of, side := side, n := n, m := m }
def U3 (of side : Nat) (ts : List Tk) : Except Er (Nd × List Tk) :=
 if isB ts S0 = true then d6 (j7 ts.tail) fun p => .ok (O6 of side p.1 p.1, p.2)
 else d6 (m3 M1 ts) fun r => d6 (j7 r) fun p => d6 (m3 [45] p.2) fun r2 => d6 (j7 r2) fun q => .ok (O6 of side p.1 q.1, q.2)
def U6 (ts : List Tk) : Except Er ((Nat × List UInt8) × List Tk) :=
 if (hdT ts).kind = 3 then (match L1 (hdT ts).text with
  | some a => .ok ((2, a ++ List.replicate 12 0), ts.tail)
  | none => q9 ts 112)
 else if (hdT ts).kind = 4 then (match J7 (hdT ts).text with
  | some a => .ok ((3, a), ts.tail)
  | none => q9 ts 112)
 else q9 ts 111
theorem a74 (k : Nat) (ts : List Tk) : a0g k ts = d6 (U6 ts) fun p => .ok ({ ndK k with of := p.1.1, addr := p.1.2 }, p.2) := by
 unfold a0g U6
 by_cases h3 : (hdT ts).kind = 3
 ·rw [if_pos h3, if_pos h3]
  cases L1 (hdT ts).text <;> rfl
 ·rw [if_neg h3, if_neg h3]
  by_cases h4 : (hdT ts).kind = 4
  ·rw [if_pos h4, if_pos h4]
   cases J7 (hdT ts).text <;> rfl
  ·rw [if_neg h4, if_neg h4]
   rfl
def a3y (side of : Nat) (a : List UInt8) : Nd := { ndK 14 with of := of, addr := a, side := side }
def a3H (side of : Nat) (a : List UInt8) (b : Nat) : Nd := { ndK 15 with of := of, addr := a, bits := b, side := side }
def E4 (side : Nat) (ts : List Tk) : Except Er (Nd × List Tk) :=
 if isB ts a0Q = true then d6 (U6 ts.tail) fun p => .ok (a3y side p.1.1 p.1.2, p.2)
 else if isB ts a19 = true then d6 (U6 ts.tail) fun p => d6 (m3 [47] p.2) fun r => d6 (j7 r) fun q => .ok (a3H side p.1.1 p.1.2 q.1, q.2)
 else U3 0 side ts
def I7 (at' : Nat) (x : Except Er (Nd × List Tk)) : Out := d6 x fun p => .ok ([(p.1, at')], p.2)
theorem a1B {α β γ : Type} (x : Except Er α) (f : α → Except Er β) (g : β → Except Er γ) : d6 (d6 x f) g = d6 x fun y => d6 (f y) g := by cases x <;> rfl
theorem a7Z {x : List UInt8} {ts : List Tk} (h : ¬ isB ts x = true) : m3 x ts = .error ((hdT ts).pos, if (hdT ts).kind = 0 then 110 else 111) := by rw [m3, if_neg h]; rfl
theorem aT5 {of at' side : Nat} {ts : List Tk} (hof : of ≠ 0) : a02 of at' side ts = I7 at' (U3 of side ts) := by
 unfold a02 U3 I7
 by_cases h1 : isB ts S0 = true
 ·rw [if_pos h1, if_pos h1, a1B]; rfl
 rw [if_neg h1, if_neg h1]
 by_cases h2 : isB ts M1 = true
 ·rw [if_pos h2]
  have : m3 M1 ts = .ok ts.tail := by rw [m3, if_pos h2]
  rw [this]
  simp only [M6, a1B]
  rfl
 rw [if_neg h2, if_neg (fun h => hof h.1), if_neg (fun h => hof h.1), a7Z h2]
 rfl
theorem aT4 {at' side : Nat} {ts : List Tk} : a02 0 at' side ts = I7 at' (E4 side ts) := by
 unfold a02 E4 I7
 by_cases h1 : isB ts S0 = true
 ·rw [if_pos h1, if_neg (a4i h1 (by decide)), if_neg (a4i h1 (by decide)), U3, if_pos h1, a1B]; rfl
 rw [if_neg h1]
 by_cases h2 : isB ts M1 = true
 ·rw [if_pos h2, if_neg (a4i h2 (by decide)), if_neg (a4i h2 (by decide)), U3, if_neg h1]
  have : m3 M1 ts = .ok ts.tail := by rw [m3, if_pos h2]
  rw [this]
  simp only [M6, a1B]
  rfl
 rw [if_neg h2]
 by_cases h3 : isB ts a0Q = true
 ·rw [if_pos ⟨rfl, h3⟩, if_pos h3, a74]
  simp only [a1B, M6]
  rfl
 rw [if_neg (fun h => h3 h.2), if_neg h3]
 by_cases h4 : isB ts a19 = true
 ·rw [if_pos ⟨rfl, h4⟩, if_pos h4, a74]
  simp only [a1B, M6]
  rfl
 rw [if_neg (fun h => h4 h.2), if_neg h4, U3, if_neg h1, a7Z h2]
 rfl
theorem a3s {x : List UInt8} (h : x ∈ a1a) : M3 x := ⟨(a3Q x h).1, 2, .inr rfl, (a3Q x h).2.1⟩
theorem z8 {x : List UInt8} (h0 : x ≠ []) (h : o6 x = .ok (5, x, 0)) : M3 x := ⟨h0, 5, .inl rfl, h⟩
theorem a5l {x : List UInt8} (h0 : x ≠ []) (h : o6 x = .ok (2, x, 0)) : M3 x := ⟨h0, 2, .inr rfl, h⟩

end Go.Proofs.YtklipelnjgpnjaaGreatDoor
