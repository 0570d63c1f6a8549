import Derived.Test.YtlfmddjppejmaaaGreatDoorqAb
import Derived.Test.YtlfmddjppejmaaaGreatDoorqLotQ16
import Derived.Test.YtlfmddjppejmaaaGreatDoorqLotQ14
import Derived.Maps.AppendAt
import Derived.Deep.RegionLaw
set_option maxHeartbeats 64000000
set_option maxRecDepth 100000
namespace Go.Proofs.YtlfmddjppejmaaaGreatDoor
open Go.RowKit

section
variable {c : PC} {w : World} {i bud : Nat} {vt vp : Value} {s : Rt}
theorem a4f (he : s.er = none) (hb : s.kind 1 = true) : (hdT s.ts).kind ≠ 0 := by
 rw [a0j he, beq_iff_eq] at hb
 omega
theorem N0 (h : RS c w i vt vp s bud) :
  Calls Tryz.prog 58 #[.pointer (some ⟨c.g, 0, none⟩)] w fun e w' => e = .returned (.int .u32 (s.num : Int)) ∧ c8 c w vt vp s.number bud w' := by
 have CK := a32 h 1
 have CN : Hid (∀ W, w.grownBy W none → Calls Tryz.prog 13 #[.pointer (some ⟨c.g, 0, none⟩)] W fun e w' => e = .returned (.agg (tkC s.now)) ∧ W.grownBy w' none) := fun W G => E6 (h.keep G)
 have HN : Hid (∀ W, w.grownBy W none → s.kind 1 = true → Calls Tryz.prog 27 #[.pointer (some ⟨c.g, 0, none⟩)] W fun e w' => e = .returned (.tuple #[]) ∧ c8 c w vt vp s.number bud w') := fun W G hb =>
  (q8 (h.keep G) (fun he => a4f he hb)).mono fun e w' ⟨he, R⟩ => ⟨he, by unfold Rt.number; rw [if_pos hb]; exact (c8.of (GB.non G) (fun _ _ k => k) R).less (Nat.le_succ bud)⟩
 have HF : Hid (∀ W, w.grownBy W none → s.kind 1 = false → Calls Tryz.prog 14 #[.pointer (some ⟨c.g, 0, none⟩), .int .i64 111] W fun e w' => e = .returned (.tuple #[]) ∧ c8 c w vt vp s.number bud w') := fun W G hb =>
  (M2 (h.keep G) _ (by decide) (by decide)).mono fun e w' ⟨he, R⟩ => ⟨he, by unfold Rt.number; rw [if_neg (by rw [hb]; simp)]; exact c8.of (GB.non G) (fun _ _ k => k) R⟩
 have HX : Hid (∀ B, s.kind 1 = B → s.num = if B = true then s.now.num else 0) := fun B hB => by unfold Rt.num; rw [hB]
 have HV := fun k p x n W => (o8 k p x n W).2.2.2
 unfold tkC at CN
 clear h
 generalize hB : s.kind 1 = B at *
 rw [HX.out B rfl]
 clear hB HX
 generalize s.now = t at *
 obtain ⟨tk, tp, tx, tn⟩ := t
 simp only at *
 generalize c.g = g at *
 cases B with
 | true =>
  go_enter Tryz.func58, Tryz.ntmps58
  go_wp2_with fail
  refine CK.mono ?_
  rintro e w1 ⟨rfl, G⟩
  clear CK
  go_wp2_with fail
  refine (CN.out w1 G).mono ?_
  rintro e w2 ⟨rfl, G2⟩
  have G3 := d5 G G2
  clear G G2 CN
  go_wp2_with fail
  refine (HN.out w2 G3 (by first | trivial | rfl)).mono ?_
  rintro e w3 ⟨rfl, R⟩
  clear HN HF G3
  go_wp2
  go_ret
  exact ⟨rfl, R⟩
 | false =>
  go_enter Tryz.func58, Tryz.ntmps58
  go_wp2_with fail
  refine CK.mono ?_
  rintro e w1 ⟨rfl, G⟩
  clear CK
  go_wp2_with fail
  refine (HF.out w1 G (by first | trivial | rfl)).mono ?_
  rintro e w3 ⟨rfl, R⟩
  clear HN HF G
  go_wp2
  go_ret
  exact ⟨rfl, R⟩
theorem a0V (h : RS c w i vt vp s bud) (he : s.er = none) (hk : (hdT s.ts).kind ≠ 0) :
  Calls Tryz.prog 22 #[.pointer (some ⟨c.g, 0, none⟩)] w fun e w' => e = .returned (.tuple #[]) ∧ c8 c w vt vp s.opn (bud + 1) w' := by
 have c5 : w.cell? ⟨c.g, 5, none⟩ = some (.int .i64 (erC s)) := h.mem.blk.cell 5
 have c4 : w.cell? ⟨c.g, 4, none⟩ = some (.int .i64 s.nest) := h.mem.blk.cell 4
 rw [L3 he] at c5
 by_cases hn : s.nest = 200
 ·have ho : s.opn = { s with er := some (s.now.pos, 113) } := by unfold Rt.opn; rw [if_pos ⟨he, hn⟩]
  rw [ho]
  rw [hn] at c4
  have CN := E6 h
  have HG := fun k p x n W => (o8 k p x n W).2.1
  have HP : Hid (RS c w i vt vp s bud) := h
  unfold tkC at CN
  clear h ho he hn hk
  generalize s.now = t at *
  obtain ⟨tk, tp, tx, tn⟩ := t
  simp only at *
  go_enter Tryz.func22, Tryz.ntmps22
  go_wp2_with fail
  refine CN.mono ?_
  rintro e w1 ⟨rfl, G⟩
  clear CN c5 c4
  have H1 := HP.out.keep G
  have H2 := H1.putP (tp : Int)
  have f6 := H1.mem.blk.free 6
  have c6 : w1.cell? ⟨c.g, 6, none⟩ = some (.int .i64 (erP s)) := H1.mem.blk.cell 6
  have f5 := H2.mem.blk.free 5
  have c5 : (w1.setCell ⟨c.g, 6, none⟩ (.int .i64 (tp : Int))).cell? ⟨c.g, 5, none⟩ = some (.int .i64 (erC s)) := H2.mem.blk.cell 5
  have HR : Hid (c8 c w vt vp { s with er := some (tp, 113) } (bud + 1) ((w1.setCell ⟨c.g, 6, none⟩ (.int .i64 (tp : Int))).setCell ⟨c.g, 5, none⟩ (.int .i64 113))) :=
   ⟨i, vt, vp, { H2.putC (e := 113) (by decide) (by decide) with bud_le := fun x => (by cases x) }, ((GB.non G).trans (GB.set w1 vt vp c.g 6 _) (fun _ _ k => k)).trans (GB.set _ vt vp c.g 5 _) (fun _ _ k => k), fun _ _ k => k⟩
  clear H1 H2 G
  go_wp2
  exact bodyPost_ret (results_none rfl _ _ _) rfl ⟨rfl, HR.out⟩
 ·have ho : s.opn = ({ s with nest := s.nest + 1 } : Rt).next := by unfold Rt.opn; rw [if_neg (fun x => hn x.2)]
  rw [ho]
  have f4 := h.mem.blk.free 4
  have h1 := h.hi
  have h2 := h.lo0 he
  have hw : IntKind.i64.wrap (s.nest + 1) = s.nest + 1 := by rw [IntKind.wrap_i64]; omega
  have H1 := h.putN (n := s.nest + 1) (by omega) (by omega) (fun _ => by omega)
  have HN : Hid (Calls Tryz.prog 27 #[.pointer (some ⟨c.g, 0, none⟩)] (w.setCell ⟨c.g, 4, none⟩ (.int .i64 (s.nest + 1))) fun e w' => e = .returned (.tuple #[]) ∧ c8 c w vt vp ({ s with nest := s.nest + 1 } : Rt).next (bud + 1) w') :=
   (q8 (s := { s with nest := s.nest + 1 }) H1 (fun _ => hk)).mono fun e w' ⟨e1, R⟩ => ⟨e1, c8.of (GB.set w vt vp c.g 4 _) (fun _ _ k => k) R⟩
  generalize ({ s with nest := s.nest + 1 } : Rt).next = s' at *
  generalize s.nest = nn at *
  clear h H1 ho hk he
  have hne : (nn == 200) = false := by simpa using hn
  go_enter Tryz.func22, Tryz.ntmps22
  go_wp2_with fail
  refine HN.out.mono ?_
  rintro e w3 ⟨rfl, R⟩
  clear HN
  go_wp2
  exact bodyPost_end (results_none rfl _ _ _) rfl ⟨rfl, R⟩
end
theorem a4n (x : Nd) (W : World) : (Instr.buildSlice 22 1 #[(0, .agg x.cells.toArray)]).run Tryz.prog W = .ok (.slice (some ⟨W.heap.size, 0, none⟩) 1 1) (W.alloc (.cells x.cells.toArray 54)) := by kernel_rfl
theorem a4l (z : Int) (W : World) : (Instr.buildSlice 23 1 #[(0, .int .i64 z)]).run Tryz.prog W = .ok (.slice (some ⟨W.heap.size, 0, none⟩) 1 1) (W.alloc (.cells #[.int .i64 z] 3)) := by kernel_rfl
theorem a3F (x : Nd) (W : World) : (Instr.box 54 (.agg x.cells.toArray)).run Tryz.prog W = .ok (.pointer (some ⟨W.heap.size, 0, none⟩)) (W.alloc (.cells x.cells.toArray 54)) := by kernel_rfl

section
variable {c : PC} {w : World} {i nest bud : Nat} {vt vp : Value} {ts : List Tk} {ns : List (Nd × Nat)}
theorem a50 {w5 w6 w7 : World} {v4 v7 : Value} {x : Nd} {tp : Nat} (h : PS c w i vt vp ts nest (bud + 1) ns) (HZ : HS c w5 i v4 vp nest (ns.map Prod.fst ++ [x]) (ns.map plc) ∧ GB w w5 (d3 c.g vt vp) ∧ ∀ y, y < w.heap.size → d3 c.g v4 vp y → d3 c.g vt vp y) (K6 : w5.grownBy w6 none)
  (O : w7.ownsRow c.w0.heap.size 3 1 v7 ((ns.map plc).length + 1) ((ns.map plc).map iv ++ [.int .i64 (tp : Int)])) (K : w6.grownBy w7 vp.ownBlock) (B : v7.ownBlock = vp.ownBlock ∨ v7.ownBlock = some w6.heap.size) : Ret c w vt vp ts nest bud (ns ++ [(x, tp)]) (w7.setCell ⟨c.g, 4, none⟩ v7) := by
 obtain ⟨h1, h2, h3⟩ := (HZ.1.keep K6).put_places O K B
 have hs6 := K6.size
 have hs5 := HZ.2.1.size
 refine ⟨i, v4, v7, h.of_hs (by rw [List.map_append, List.map_append]; exact h1) (by have := h.bud_le; rw [List.length_append, List.length_singleton]; omega), ?_, ?_⟩
 ·exact HZ.2.1.trans ((GB.non K6).trans h2 (fun _ _ h => h)) (fun y hy => HZ.2.2 y hy)
 ·intro y hy hf
  exact HZ.2.2 y hy (h3 y (by omega) hf)
theorem F0 (h : PS c w i vt vp ts nest (bud + 1) ns) (t : Tk) (x : Nd) :
  Calls Tryz.prog 67 #[.pointer (some ⟨c.g, 0, none⟩), .agg (tkC t), .agg x.cells.toArray] w fun e w' => e = .returned (.tuple #[]) ∧ Ret c w vt vp ts nest bud (ns ++ [(x, t.pos)]) w' := by
 obtain ⟨tk, tp, tx, tn⟩ := t
 unfold tkC
 simp only
 have HBX := a3F x
 obtain ⟨X, hX⟩ : ∃ X, x.cells.toArray = X := ⟨_, rfl⟩
 rw [hX] at HBX ⊢
 go_enter Tryz.func67, Tryz.ntmps67
 have VT := VAt.alloc w 42 #[.int .i64 (tk : Int), .int .i64 (tp : Int), str tx, .int .u32 (tn : Int)]
 have K1 := World.grownBy_alloc w (.cells #[.int .i64 (tk : Int), .int .i64 (tp : Int), str tx, .int .u32 (tn : Int)] 42) none
 have K2 := World.grownBy_alloc (w.alloc (.cells #[.int .i64 (tk : Int), .int .i64 (tp : Int), str tx, .int .u32 (tn : Int)] 42)) (.cells X 54) none
 have VN := VAt.alloc (w.alloc (.cells #[.int .i64 (tk : Int), .int .i64 (tp : Int), str tx, .int .u32 (tn : Int)] 42)) 54 X
 rw [show (w.alloc (.cells #[.int .i64 (tk : Int), .int .i64 (tp : Int), str tx, .int .u32 (tn : Int)] 42)).heap.size = w.heap.size + 1 by simp] at VN
 have VT2 := VT.kept K2
 have G := d5 K1 K2
 have H2 := h.keep G
 have HP : Hid (PS c w i vt vp ts nest (bud + 1) ns) := h
 go_upto_region 1 with fail
 generalize (w.alloc (.cells #[.int .i64 (tk : Int), .int .i64 (tp : Int), str tx, .int .u32 (tn : Int)] 42)).alloc (.cells X 54) = w2 at *
 obtain ⟨V1, hV1⟩ : ∃ V, w.heap.size = V := ⟨_, rfl⟩
 obtain ⟨V2, hV2⟩ : ∃ V, w.heap.size + 1 = V := ⟨_, rfl⟩
 rw [hV2] at VN ⊢
 rw [hV1] at VT2 ⊢
 have HV : Hid (w.heap.size ≤ V1 ∧ V1 < w2.heap.size ∧ w.heap.size < V2) := ⟨Nat.le_of_eq hV1, VT2.lt, by omega⟩
 clear hV1 hV2 VT K1 K2 h HBX
 have hXs : X.size = 24 := by rw [← hX]; rfl
 have HL : Hid (VAt w2.drew V2 54 X ∧ (Tryz.prog.info? 54).map (·.size) = some X.size) := ⟨VN, by rw [hXs]; exact a0W⟩
 have LN := a4n x
 rw [hX] at LN
 have LI := a4l
 have HLN : Hid (∀ W : World, (Instr.buildSlice 22 1 #[(0, .agg X)]).run Tryz.prog W = .ok (.slice (some ⟨W.heap.size, 0, none⟩) 1 1) (W.alloc (.cells x.cells.toArray 54))) := fun W => by rw [hX]; exact LN W
 have HX : Hid (x.cells.toArray = X) := hX
 have HB1 : Hid (((ns.map Prod.fst).length + 1 ≤ maxLen ∧ ((ns.map Prod.fst).length + 1) * 72 ≤ 140737488355328) ∧ ((ns.map plc).length + 1 ≤ maxLen ∧ ((ns.map plc).length + 1) * 8 ≤ 140737488355328)) := by
  have := HP.out.bud_le
  simp only [List.length_map]
  unfold maxLen
  exact ⟨⟨by omega, by omega⟩, by omega, by omega⟩
 have c3 : w2.cell? ⟨c.g, 3, none⟩ = some vt := H2.blk.cell 3
 have HQ : Hid (PS c w2 i vt vp ts nest (bud + 1) ns ∧ VAt w2 V1 42 #[.int .i64 (tk : Int), .int .i64 (tp : Int), str tx, .int .u32 (tn : Int)] ∧ w.grownBy w2 none) := ⟨H2, VT2, G⟩
 obtain ⟨i0, hi, hz0, hz1, hz2⟩ := info_parts a1K
 clear H2 VT2 G hX LN LI VN hXs
 refine wp_region_held_drew (S := fun W => VAt W V2 54 X) (by kernel_rfl) HL.out.1 (fun hHeld => ?_)
 refine wpT (i := 0) (v := .pointer (some ⟨c.g, 0, none⟩)) rfl (Or.inl ⟨by rfl, fun W hW => ?_⟩) hHeld ?_
 ·clear hW
  go_simp
 try simp only [Act.put, a0, a1, a3, a4, a5]
 refine wpT (i := 1) (v := .pointer (some ⟨c.g, 0, none⟩)) rfl (Or.inl ⟨by rfl, fun W hW => ?_⟩) hHeld ?_
 ·clear hW
  go_simp
 try simp only [Act.put, a0, a1, a2, a3, a4, a5]
 refine wpT (i := 2) (v := .pointer (some ⟨c.g, 0, none⟩)) rfl (Or.inl ⟨by rfl, fun W hW => ?_⟩) hHeld ?_
 ·clear hW
  go_simp
 try simp only [Act.put, a0, a1, a2, a3, a4, a5]
 refine wpT (i := 3) (v := .pointer (some ⟨c.g, 3, none⟩)) rfl (Or.inl ⟨by rfl, fun W hW => ?_⟩) hHeld ?_
 ·clear hW
  go_simp
 try simp only [Act.put, a0, a1, a2, a3, a4, a5]
 refine wpT (i := 5) (v := .agg X) rfl (E8 (by rfl) _ _ rfl V2 rfl 54 X _ (fun W hW => hW) Tryz.underlying54 rfl HL.out.2) hHeld ?_
 try simp only [Act.put, a0, a1, a2, a3, a4, a5]
 refine wpR (rs := [4, 6]) (AllReadyH.cons rfl (fun K hK => ?_) (AllReadyH.cons rfl (fun K hK => ?_) AllReadyH.nil))
 ·go_simp
  refine hK.out _ _ HL.out.1 (fun hHeld => ?_)
  clear hK K
  try simp only [Act.put, a0, a1, a2, a3, a4, a5]
  refine wpR (rs := [6]) (AllReadyH.cons rfl (fun K hK => ?_) AllReadyH.nil)
  refine a26 (by rfl) 22 1 _ (by rfl) _ (by kernel_rfl) x.cells 54 HLN.out ?_
  intro ad w3 C3 K3
  have Q3 := HQ.out.1.keep (d5 (f8 w2 1 none) K3)
  have c3b : w3.cell? ⟨c.g, 3, none⟩ = some vt := Q3.blk.cell 3
  refine hK.out _ _ (HL.out.1.kept K3) (fun hHeld => ?_)
  clear hK K
  try simp only [Act.put, a0, a1, a2, a3, a4, a5]
  refine wpR (rs := [7]) (AllReadyH.cons rfl (fun K hK => ?_) AllReadyH.nil)
  refine a0X (by rfl) (.tmp 10) (.tmp 12) 22 (by rfl) 54 i0 _ 24 72 Tryz.underlying22 hi hz0 hz1 hz2 rfl (by decide) c.w0.heap.size vt (ns.map Prod.fst).length (y6 (ns.map Prod.fst)) (by rfl) Q3.tree ad 1 1 x.cells (by rfl) rfl C3 x.cells_one HB1.out.1.1 HB1.out.1.2 (Nat.le_trans HQ.out.1.grown.size K3.size) ?_
  intro v4 w4 O4 K4 B4
  have hV2v : ¬ vt.ownBlock = some V2 := fun e => by have := HQ.out.1.tree.lt V2 e; have := HP.out.tree.lt V2 e; have := HV.out; omega
  have VN4 := hHeld.grown K4 (fun e => hV2v e)
  have G4 := Q3.blk.grown K4 Q3.ne_tree
  have c3c : w4.cell? ⟨c.g, 3, none⟩ = some vt := G4.cell 3
  have f3c := G4.free 3
  obtain ⟨Z4, Z5, Z6⟩ := Q3.hs.put_tree (x := x) O4 K4 B4
  have L4 : w.grownBy w3 none := d5 HQ.out.2.2 (d5 (f8 w2 1 none) K3)
  have V14 := (HQ.out.2.1.kept (d5 (f8 w2 1 none) K3)).grown K4 (fun e => by have := HP.out.tree.lt V1 e; have := HV.out; omega)
  obtain ⟨a4, l4, k4, hv4⟩ := S0 O4
  subst hv4
  refine hK.out _ _ VN4 (fun hHeld => ?_)
  clear hK K
  try simp only [Act.put, a0, a1, a2, a3, a4, a5]
  refine wpT (i := 8) (v := .pointer (some ⟨c.g, 0, none⟩)) rfl (Or.inl ⟨by rfl, fun W hW => ?_⟩) hHeld ?_
  ·clear hW
   go_simp
  try simp only [Act.put, a0, a1, a2, a3, a4, a5]
  refine wpT (i := 9) (v := .pointer (some ⟨c.g, 3, none⟩)) rfl (Or.inl ⟨by rfl, fun W hW => ?_⟩) hHeld ?_
  ·clear hW
   go_simp
  try simp only [Act.put, a0, a1, a2, a3, a4, a5]
  refine wpR (rs := [10]) (AllReadyH.cons rfl (fun K hK => ?_) AllReadyH.nil)
  go_simp
  refine hK.out _ _ (VN4.setOther (k := c.g) (i := 3) (.slice a4 l4 k4) (fun e => by have := HP.out.blk.lt; have := HV.out; omega)) (fun hHeld => ?_)
  refine wpAnyH_done (by kernel_rfl) ?_ _
  have V15 := V14.grown (D3 w4 c.g 3 (.slice a4 l4 k4)) (fun e => by have e2 := Option.some.inj e; have := HP.out.blk.lt; have := HV.out; omega)
  have HZ : Hid (HS c (w4.setCell ⟨c.g, 3, none⟩ (.slice a4 l4 k4)) i (.slice a4 l4 k4) vp nest (ns.map Prod.fst ++ [x]) (ns.map plc) ∧ GB w (w4.setCell ⟨c.g, 3, none⟩ (.slice a4 l4 k4)) (d3 c.g vt vp) ∧ ∀ y, y < w.heap.size → d3 c.g (.slice a4 l4 k4) vp y → d3 c.g vt vp y) := ⟨Z4, (GB.non L4).trans Z5 (fun _ _ h => h), fun y hy => Z6 y (Nat.lt_of_lt_of_le hy L4.size)⟩
  clear hK K hHeld O4 K4 B4 C3 K3 hV2v VN4 G4 c3c f3c Q3 c3 c3b Z4 Z5 Z6 L4 V14 hi hz0 hz1 hz2 i0 HQ HL HLN HX
  go_wp2_with fail
  generalize w4.setCell ⟨c.g, 3, none⟩ (.slice a4 l4 k4) = w5 at *
  have p1 : w5.cell? ⟨V1, 1, none⟩ = some (.int .i64 (tp : Int)) := V15.cell 1
  have p4 : w5.cell? ⟨c.g, 4, none⟩ = some vp := HZ.out.1.blk.cell 4
  obtain ⟨i0, hi, hz0, hz1, hz2⟩ := info_parts a1h
  clear V15
  have K6 : w5.grownBy (w5.drew.alloc (.cells #[.int .i64 (tp : Int)] 3)) none := d5 (f8 w5 1 none) (World.grownBy_alloc w5.drew (.cells #[.int .i64 (tp : Int)] 3) none)
  have HK6 : Hid (HS c (w5.drew.alloc (.cells #[.int .i64 (tp : Int)] 3)) i (.slice a4 l4 k4) vp nest (ns.map Prod.fst ++ [x]) (ns.map plc) ∧ CV (w5.drew.alloc (.cells #[.int .i64 (tp : Int)] 3)) (some ⟨w5.heap.size, 0, none⟩) [.int .i64 (tp : Int)] ∧ w5.grownBy (w5.drew.alloc (.cells #[.int .i64 (tp : Int)] 3)) none) := ⟨HZ.out.1.keep K6, m8 w5.drew _ _, K6⟩
  have p4b : (w5.alloc (.cells #[.int .i64 (tp : Int)] 3)).cell? ⟨c.g, 4, none⟩ = some vp := HK6.out.1.blk.cell 4
  clear K6
  go_region_law ((refine a0X rfl (.tmp 20) (.tmp 23) 23 rfl 3 i0 _ 1 8 Tryz.underlying23 hi hz0 hz1 hz2 rfl (by decide) c.w0.heap.size vp (ns.map plc).length ((ns.map plc).map iv) (by first | rfl | simp [Act.eval]) (by exact HK6.out.1.places) ⟨w5.heap.size, 0, none⟩ 1 1 [.int .i64 (tp : Int)] (by first | rfl | simp [Act.eval]) rfl (by exact HK6.out.2.1) (by simp [Value.oneCell']) HB1.out.2.1 HB1.out.2.2 (by exact HK6.out.1.grown.size) ?_; intro v7 w7 O7 K7' B7'; have K7 : (w5.drew.alloc (.cells #[.int .i64 (tp : Int)] 3)).grownBy w7 vp.ownBlock := K7'; have B7 : v7.ownBlock = vp.ownBlock ∨ v7.ownBlock = some (w5.drew.alloc (.cells #[.int .i64 (tp : Int)] 3)).heap.size := B7'; have A7 := a04 HK6.out.1.blk HK6.out.1.places (by decide) K7; have p4c : w7.cell? ⟨c.g, 4, none⟩ = some vp := A7.cell 4; have p4f := A7.free 4; obtain ⟨a7, l7, k7, hv7⟩ := S0 O7; subst hv7))
  all_goals (go_wp2; go_end0; exact ⟨rfl, a50 HP.out HZ.out HK6.out.2.2 O7 K7 B7⟩)
 ·skip
  refine a26 (by rfl) 22 1 _ (by rfl) _ (by kernel_rfl) x.cells 54 HLN.out ?_
  intro ad w3 C3 K3
  have Q3 := HQ.out.1.keep (d5 (f8 w2 1 none) K3)
  have c3b : w3.cell? ⟨c.g, 3, none⟩ = some vt := Q3.blk.cell 3
  refine hK.out _ _ (HL.out.1.kept K3) (fun hHeld => ?_)
  clear hK K
  try simp only [Act.put, a0, a1, a2, a3, a4, a5]
  refine wpR (rs := [4]) (AllReadyH.cons rfl (fun K hK => ?_) AllReadyH.nil)
  go_simp
  refine hK.out _ _ (HL.out.1.kept K3) (fun hHeld => ?_)
  clear hK K
  try simp only [Act.put, a0, a1, a2, a3, a4, a5]
  refine wpR (rs := [7]) (AllReadyH.cons rfl (fun K hK => ?_) AllReadyH.nil)
  refine a0X (by rfl) (.tmp 10) (.tmp 12) 22 (by rfl) 54 i0 _ 24 72 Tryz.underlying22 hi hz0 hz1 hz2 rfl (by decide) c.w0.heap.size vt (ns.map Prod.fst).length (y6 (ns.map Prod.fst)) (by rfl) Q3.tree ad 1 1 x.cells (by rfl) rfl C3 x.cells_one HB1.out.1.1 HB1.out.1.2 (Nat.le_trans HQ.out.1.grown.size K3.size) ?_
  intro v4 w4 O4 K4 B4
  have hV2v : ¬ vt.ownBlock = some V2 := fun e => by have := HQ.out.1.tree.lt V2 e; have := HP.out.tree.lt V2 e; have := HV.out; omega
  have VN4 := hHeld.grown K4 (fun e => hV2v e)
  have G4 := Q3.blk.grown K4 Q3.ne_tree
  have c3c : w4.cell? ⟨c.g, 3, none⟩ = some vt := G4.cell 3
  have f3c := G4.free 3
  obtain ⟨Z4, Z5, Z6⟩ := Q3.hs.put_tree (x := x) O4 K4 B4
  have L4 : w.grownBy w3 none := d5 HQ.out.2.2 (d5 (f8 w2 1 none) K3)
  have V14 := (HQ.out.2.1.kept (d5 (f8 w2 1 none) K3)).grown K4 (fun e => by have := HP.out.tree.lt V1 e; have := HV.out; omega)
  obtain ⟨a4, l4, k4, hv4⟩ := S0 O4
  subst hv4
  refine hK.out _ _ VN4 (fun hHeld => ?_)
  clear hK K
  try simp only [Act.put, a0, a1, a2, a3, a4, a5]
  refine wpT (i := 8) (v := .pointer (some ⟨c.g, 0, none⟩)) rfl (Or.inl ⟨by rfl, fun W hW => ?_⟩) hHeld ?_
  ·clear hW
   go_simp
  try simp only [Act.put, a0, a1, a2, a3, a4, a5]
  refine wpT (i := 9) (v := .pointer (some ⟨c.g, 3, none⟩)) rfl (Or.inl ⟨by rfl, fun W hW => ?_⟩) hHeld ?_
  ·clear hW
   go_simp
  try simp only [Act.put, a0, a1, a2, a3, a4, a5]
  refine wpR (rs := [10]) (AllReadyH.cons rfl (fun K hK => ?_) AllReadyH.nil)
  go_simp
  refine hK.out _ _ (VN4.setOther (k := c.g) (i := 3) (.slice a4 l4 k4) (fun e => by have := HP.out.blk.lt; have := HV.out; omega)) (fun hHeld => ?_)
  refine wpAnyH_done (by kernel_rfl) ?_ _
  have V15 := V14.grown (D3 w4 c.g 3 (.slice a4 l4 k4)) (fun e => by have e2 := Option.some.inj e; have := HP.out.blk.lt; have := HV.out; omega)
  have HZ : Hid (HS c (w4.setCell ⟨c.g, 3, none⟩ (.slice a4 l4 k4)) i (.slice a4 l4 k4) vp nest (ns.map Prod.fst ++ [x]) (ns.map plc) ∧ GB w (w4.setCell ⟨c.g, 3, none⟩ (.slice a4 l4 k4)) (d3 c.g vt vp) ∧ ∀ y, y < w.heap.size → d3 c.g (.slice a4 l4 k4) vp y → d3 c.g vt vp y) := ⟨Z4, (GB.non L4).trans Z5 (fun _ _ h => h), fun y hy => Z6 y (Nat.lt_of_lt_of_le hy L4.size)⟩
  clear hK K hHeld O4 K4 B4 C3 K3 hV2v VN4 G4 c3c f3c Q3 c3 c3b Z4 Z5 Z6 L4 V14 hi hz0 hz1 hz2 i0 HQ HL HLN HX
  go_wp2_with fail
  generalize w4.setCell ⟨c.g, 3, none⟩ (.slice a4 l4 k4) = w5 at *
  have p1 : w5.cell? ⟨V1, 1, none⟩ = some (.int .i64 (tp : Int)) := V15.cell 1
  have p4 : w5.cell? ⟨c.g, 4, none⟩ = some vp := HZ.out.1.blk.cell 4
  obtain ⟨i0, hi, hz0, hz1, hz2⟩ := info_parts a1h
  clear V15
  have K6 : w5.grownBy (w5.drew.alloc (.cells #[.int .i64 (tp : Int)] 3)) none := d5 (f8 w5 1 none) (World.grownBy_alloc w5.drew (.cells #[.int .i64 (tp : Int)] 3) none)
  have HK6 : Hid (HS c (w5.drew.alloc (.cells #[.int .i64 (tp : Int)] 3)) i (.slice a4 l4 k4) vp nest (ns.map Prod.fst ++ [x]) (ns.map plc) ∧ CV (w5.drew.alloc (.cells #[.int .i64 (tp : Int)] 3)) (some ⟨w5.heap.size, 0, none⟩) [.int .i64 (tp : Int)] ∧ w5.grownBy (w5.drew.alloc (.cells #[.int .i64 (tp : Int)] 3)) none) := ⟨HZ.out.1.keep K6, m8 w5.drew _ _, K6⟩
  have p4b : (w5.alloc (.cells #[.int .i64 (tp : Int)] 3)).cell? ⟨c.g, 4, none⟩ = some vp := HK6.out.1.blk.cell 4
  clear K6
  go_region_law ((refine a0X rfl (.tmp 20) (.tmp 23) 23 rfl 3 i0 _ 1 8 Tryz.underlying23 hi hz0 hz1 hz2 rfl (by decide) c.w0.heap.size vp (ns.map plc).length ((ns.map plc).map iv) (by first | rfl | simp [Act.eval]) (by exact HK6.out.1.places) ⟨w5.heap.size, 0, none⟩ 1 1 [.int .i64 (tp : Int)] (by first | rfl | simp [Act.eval]) rfl (by exact HK6.out.2.1) (by simp [Value.oneCell']) HB1.out.2.1 HB1.out.2.2 (by exact HK6.out.1.grown.size) ?_; intro v7 w7 O7 K7' B7'; have K7 : (w5.drew.alloc (.cells #[.int .i64 (tp : Int)] 3)).grownBy w7 vp.ownBlock := K7'; have B7 : v7.ownBlock = vp.ownBlock ∨ v7.ownBlock = some (w5.drew.alloc (.cells #[.int .i64 (tp : Int)] 3)).heap.size := B7'; have A7 := a04 HK6.out.1.blk HK6.out.1.places (by decide) K7; have p4c : w7.cell? ⟨c.g, 4, none⟩ = some vp := A7.cell 4; have p4f := A7.free 4; obtain ⟨a7, l7, k7, hv7⟩ := S0 O7; subst hv7))
  all_goals (go_wp2; go_end0; exact ⟨rfl, a50 HP.out HZ.out HK6.out.2.2 O7 K7 B7⟩)

end
end Go.Proofs.YtlfmddjppejmaaaGreatDoor
