import Derived.Test.YtlfmddjppejmaaaGreatDoorqAb
import Derived.Test.YtlfmddjppejmaaaGreatDoorqLotQ17
set_option maxHeartbeats 64000000
set_option maxRecDepth 100000
namespace Go.Proofs.YtlfmddjppejmaaaGreatDoor
open Go.RowKit
theorem a5C {P : Program} (w : World) {ops : Array Oper} {rest : List Oper} {o : Oper} {a : Act} {Q : Exit → Act → World → Prop} (hgd : o.guard = none) (s x : Operand) (t : TypeId)
  (ho : o.op = .call { callee := .builtin .append, args := #[s, x], argTypes := #[t, t] })
  (e : TypeId) (i : TypeInfo) (z : Value) (size bytes : Nat) (ht : P.underlying t = some (.slice e)) (hi : P.info? e = some i) (hz : i.zero = some z) (hsize : i.size = size) (hby : i.bytes = bytes) (hzs : z.cells.size = size) (hsz : 0 < size)
  (base : Nat) (v : Value) (n : Nat) (vs : List Value) (hs : a.eval s = v) (hown : w.ownsRow base e size v n vs)
  (ad : Addr) (m c : Nat) (us : List Value) (hx : a.eval x = .slice (some ad) m c) (hl : us.length = m * size) (hus : CV w (some ad) us) (h1 : ∀ u ∈ us, u.oneCell' = true)
  (h63 : n + m ≤ maxLen) (hbytes : (n + m) * bytes ≤ 140737488355328) (hbase : base ≤ w.heap.size)
  (h : ∀ v' w', w'.ownsRow base e size v' (n + m) (vs ++ us) → w.grownBy w' v.ownBlock → (v'.ownBlock = v.ownBlock ∨ v'.ownBlock = some w.heap.size) → wpList P ops Q rest (a.put o.dst v') w') : wpList P ops Q (o :: rest) a w := by
 refine wpList_plain hgd fun K hK' => ?_
 obtain ⟨v', w', hr, h2, h3, _, h5⟩ := run_append_own_at (P := P) w base t o.type e i z size bytes ht hi hz hsize hby hzs hsz v n vs hown ad m c us hl (by
  intro j u hj
  obtain ⟨hlt, e⟩ := List.getElem?_eq_some_iff.1 hj
  rw [hus.2 ad rfl j hlt, e]) h1 h63 hbytes hbase
 unfold Oper.wp
 simp [execOp, ho, resolve, invoke, builtin, hs, hx, hr, Result.andThen]
 exact hK' _ _ (h v' w' h2 h3 h5)

section
variable {c : PC} {w w' : World} {i : Nat} {vt vp : Value} {nest code place : Int} {xs : List Nd} {zs : List Int}
theorem RB.put_tree (h : RB c w i vt vp nest code place xs zs) {x : Nd} {v4 : Value} {w4 : World} (O : w4.ownsRow c.w0.heap.size 54 24 v4 (xs.length + 1) (y6 xs ++ x.cells)) (K : w.grownBy w4 vt.ownBlock) (B : v4.ownBlock = vt.ownBlock ∨ v4.ownBlock = some w.heap.size) :
  RB c (w4.setCell ⟨c.g, 2, none⟩ v4) i v4 vp nest code place (xs ++ [x]) zs ∧ GB w (w4.setCell ⟨c.g, 2, none⟩ v4) (d3 c.g vt vp) ∧ ∀ y, y < w.heap.size → d3 c.g v4 vp y → d3 c.g vt vp y := by
 have A := a04 h.blk h.tree (by decide) K
 have T := a08 h.toks h.tree (by decide) K
 have P := a08 h.places h.tree (by decide) K
 have G := D3 w4 c.g 2 v4
 have g4 : c.w0.grownBy w4 none := z6 h.grown K (fun y hy => (h.tree.lt y hy).1)
 refine ⟨⟨z6 g4 G (fun y hy => by cases hy; exact h.new), A.set 2 v4, h.new, H9 T G (J0 T A (by decide)), ?_, H9 P G (J0 P A (by decide))⟩, ?_, ?_⟩
 ·have := H9 O G (J0 O A (by decide))
  show World.ownsRow _ _ _ _ _ _ _
  rw [List.length_append, a3T, a3V]
  exact this
 ·exact (GB.of K (S := d3 c.g vt vp) (fun y hy => .inr (.inl hy))).trans (GB.set w4 vt vp c.g 2 v4) (fun _ _ h => h)
 ·rintro y hy (rfl | e | e)
  ·exact .inl rfl
  ·rcases B with B | B
   ·exact .inr (.inl (B ▸ e))
   ·rw [B] at e
    cases e
    omega
  ·exact .inr (.inr e)
theorem RB.put_places (h : RB c w i vt vp nest code place xs zs) {z : Int} {v4 : Value} {w4 : World} (O : w4.ownsRow c.w0.heap.size 3 1 v4 (zs.length + 1) (zs.map iv ++ [.int .i64 z])) (K : w.grownBy w4 vp.ownBlock) (B : v4.ownBlock = vp.ownBlock ∨ v4.ownBlock = some w.heap.size) :
  RB c (w4.setCell ⟨c.g, 3, none⟩ v4) i vt v4 nest code place xs (zs ++ [z]) ∧ GB w (w4.setCell ⟨c.g, 3, none⟩ v4) (d3 c.g vt vp) ∧ ∀ y, y < w.heap.size → d3 c.g vt v4 y → d3 c.g vt vp y := by
 have A := a04 h.blk h.places (by decide) K
 have T := a08 h.toks h.places (by decide) K
 have P := a08 h.tree h.places (by decide) K
 have G := D3 w4 c.g 3 v4
 have g4 : c.w0.grownBy w4 none := z6 h.grown K (fun y hy => (h.places.lt y hy).1)
 refine ⟨⟨z6 g4 G (fun y hy => by cases hy; exact h.new), A.set 3 v4, h.new, H9 T G (J0 T A (by decide)), H9 P G (J0 P A (by decide)), ?_⟩, ?_, ?_⟩
 ·have := H9 O G (J0 O A (by decide))
  show World.ownsRow _ _ _ _ _ _ _
  rw [List.length_append, List.map_append]
  exact this
 ·exact (GB.of K (S := d3 c.g vt vp) (fun y hy => .inr (.inr hy))).trans (GB.set w4 vt vp c.g 3 v4) (fun _ _ h => h)
 ·rintro y hy (rfl | e | e)
  ·exact .inl rfl
  ·exact .inr (.inl e)
  ·rcases B with B | B
   ·exact .inr (.inr (B ▸ e))
   ·rw [B] at e
    cases e
    omega
end

section
variable {c : PC} {w : World} {i bud : Nat} {vt vp : Value} {s : Rt}
theorem a4h {w5 w6 w7 : World} {v4 v7 : Value} {x : Nd} {tp : Nat} (h : RS c w i vt vp s (bud + 1)) (he : s.er = none) (HZ : RB c w5 i v4 vp s.nest 0 0 (s.ns.map Prod.fst ++ [x]) (s.ns.map plc) ∧ GB w w5 (d3 c.g vt vp) ∧ ∀ y, y < w.heap.size → d3 c.g v4 vp y → d3 c.g vt vp y) (K6 : w5.grownBy w6 none)
  (O : w7.ownsRow c.w0.heap.size 3 1 v7 ((s.ns.map plc).length + 1) ((s.ns.map plc).map iv ++ [.int .i64 (tp : Int)])) (K : w6.grownBy w7 vp.ownBlock) (B : v7.ownBlock = vp.ownBlock ∨ v7.ownBlock = some w6.heap.size) : c8 c w vt vp (s.lay x tp) bud (w7.setCell ⟨c.g, 3, none⟩ v7) := by
 obtain ⟨h1, h2, h3⟩ := (HZ.1.keep K6).put_places O K B
 have hs6 := K6.size
 have hs5 := HZ.2.1.size
 rw [X3 he]
 refine ⟨i, v4, v7, { h with mem := ?_, bud_le := fun e => by have := h.bud_le he; show (s.ns ++ [(x, tp)]).length + s.ts.length + bud ≤ 65537; rw [List.length_append, List.length_singleton]; omega }, ?_, ?_⟩
 ·show RB c _ i v4 v7 s.nest (erC { s with ns := s.ns ++ [(x, tp)] }) (erP s) ((s.ns ++ [(x, tp)]).map Prod.fst) ((s.ns ++ [(x, tp)]).map plc)
  rw [List.map_append, List.map_append, a3O he, L3 (s := { s with ns := s.ns ++ [(x, tp)] }) he]
  exact h1
 ·exact HZ.2.1.trans ((GB.non K6).trans h2 (fun _ _ h => h)) (fun y hy => HZ.2.2 y hy)
 ·intro y hy hf
  exact HZ.2.2 y hy (h3 y (by omega) hf)
theorem B9 (h : RS c w i vt vp s (bud + 1)) (x : Nd) (tp : Nat) :
  Calls Tryz.prog 23 #[.pointer (some ⟨c.g, 0, none⟩), .agg x.cells.toArray, .int .i64 (tp : Int)] w fun e w' => e = .returned (.tuple #[]) ∧ c8 c w vt vp (s.lay x tp) bud w' := by
 have HBX := a3F x
 obtain ⟨X, hX⟩ : ∃ X, x.cells.toArray = X := ⟨_, rfl⟩
 rw [hX] at HBX ⊢
 have K1 := World.grownBy_alloc w (.cells X 54) none
 have VN := VAt.alloc w 54 X
 have H2 := h.keep K1
 have c5 : (w.alloc (.cells X 54)).cell? ⟨c.g, 5, none⟩ = some (.int .i64 (erC s)) := H2.mem.blk.cell 5
 rcases he : s.er with _ | er
 ·rw [L3 he] at c5
  have HP : Hid (RS c w i vt vp s (bud + 1) ∧ s.er = none) := ⟨h, he⟩
  go_enter Tryz.func23, Tryz.ntmps23
  go_upto_region 2 with fail
  generalize (w.alloc (.cells X 54)) = w2 at *
  obtain ⟨V2, hV2⟩ : ∃ V, w.heap.size = V := ⟨_, rfl⟩
  rw [hV2] at VN ⊢
  have HV : Hid (w.heap.size ≤ V2 ∧ w.heap.size < w2.heap.size) := ⟨Nat.le_of_eq hV2, by have := VN.lt; omega⟩
  clear hV2 HBX
  have hXs : X.size = 24 := by rw [← hX]; rfl
  have HL : Hid (VAt w2.drew V2 54 X ∧ (Tryz.prog.info? 54).map (·.size) = some X.size) := ⟨VN, by rw [hXs]; exact a0W⟩
  have LN := a4n x
  rw [hX] at LN
  have LI := a4l
  have HLN : Hid (∀ W : World, (Instr.buildSlice 22 1 #[(0, .agg X)]).run Tryz.prog W = .ok (.slice (some ⟨W.heap.size, 0, none⟩) 1 1) (W.alloc (.cells x.cells.toArray 54))) := fun W => by rw [hX]; exact LN W
  have HX : Hid (x.cells.toArray = X) := hX
  have HB1 : Hid (((s.ns.map Prod.fst).length + 1 ≤ maxLen ∧ ((s.ns.map Prod.fst).length + 1) * 72 ≤ 140737488355328) ∧ ((s.ns.map plc).length + 1 ≤ maxLen ∧ ((s.ns.map plc).length + 1) * 8 ≤ 140737488355328)) := by
   have := HP.out.1.bud_le HP.out.2
   simp only [List.length_map]
   unfold maxLen
   exact ⟨⟨by omega, by omega⟩, by omega, by omega⟩
  have c3 : w2.cell? ⟨c.g, 2, none⟩ = some vt := H2.mem.blk.cell 2
  have HQ : Hid (RB c w2 i vt vp s.nest 0 0 (s.ns.map Prod.fst) (s.ns.map plc) ∧ w.grownBy w2 none) := ⟨by have := H2.mem; rw [L3 he, a3O he] at this; exact this, K1⟩
  obtain ⟨i0, hi, hz0, hz1, hz2⟩ := info_parts a1K
  clear H2 K1 hX LN LI VN hXs h he c5
  refine wp_region_held_drew (S := fun W => VAt W V2 54 X) (by kernel_rfl) HL.out.1 (fun hHeld => ?_)
  refine wpT (i := 0) (v := .pointer (some ⟨c.g, 0, none⟩)) rfl (Or.inl ⟨by rfl, fun W hW => ?_⟩) hHeld ?_
  ·clear hW
   go_simp
  try simp only [Act.put, a0, a1, a3, a4, a5]
  refine wpT (i := 1) (v := .pointer (some ⟨c.g, 0, none⟩)) rfl (Or.inl ⟨by rfl, fun W hW => ?_⟩) hHeld ?_
  ·clear hW
   go_simp
  try simp only [Act.put, a0, a1, a2, a3, a4, a5]
  refine wpT (i := 2) (v := .pointer (some ⟨c.g, 0, none⟩)) rfl (Or.inl ⟨by rfl, fun W hW => ?_⟩) hHeld ?_
  ·clear hW
   go_simp
  try simp only [Act.put, a0, a1, a2, a3, a4, a5]
  refine wpT (i := 3) (v := .pointer (some ⟨c.g, 2, none⟩)) rfl (Or.inl ⟨by rfl, fun W hW => ?_⟩) hHeld ?_
  ·clear hW
   go_simp
  try simp only [Act.put, a0, a1, a2, a3, a4, a5]
  refine wpT (i := 5) (v := .agg X) rfl (E8 (by rfl) _ _ rfl V2 rfl 54 X _ (fun W hW => hW) Tryz.underlying54 rfl HL.out.2) hHeld ?_
  try simp only [Act.put, a0, a1, a2, a3, a4, a5]
  refine wpR (rs := [4, 6]) (AllReadyH.cons rfl (fun K hK => ?_) (AllReadyH.cons rfl (fun K hK => ?_) AllReadyH.nil))
  ·go_simp
   refine hK.out _ _ HL.out.1 (fun hHeld => ?_)
   clear hK K
   try simp only [Act.put, a0, a1, a2, a3, a4, a5]
   refine wpR (rs := [6]) (AllReadyH.cons rfl (fun K hK => ?_) AllReadyH.nil)
   refine a26 (by rfl) 22 1 _ (by rfl) _ (by kernel_rfl) x.cells 54 HLN.out ?_
   intro ad w3 C3 K3
   have Q3 := HQ.out.1.keep (d5 (f8 w2 1 none) K3)
   have c3b : w3.cell? ⟨c.g, 2, none⟩ = some vt := Q3.blk.cell 2
   refine hK.out _ _ (HL.out.1.kept K3) (fun hHeld => ?_)
   clear hK K
   try simp only [Act.put, a0, a1, a2, a3, a4, a5]
   refine wpR (rs := [7]) (AllReadyH.cons rfl (fun K hK => ?_) AllReadyH.nil)
   refine a0X (by rfl) (.tmp 15) (.tmp 17) 22 (by rfl) 54 i0 _ 24 72 Tryz.underlying22 hi hz0 hz1 hz2 rfl (by decide) c.w0.heap.size vt (s.ns.map Prod.fst).length (y6 (s.ns.map Prod.fst)) (by rfl) Q3.tree ad 1 1 x.cells (by rfl) rfl C3 x.cells_one HB1.out.1.1 HB1.out.1.2 (Nat.le_trans HQ.out.1.grown.size K3.size) ?_
   intro v4 w4 O4 K4 B4
   have hV2v : ¬ vt.ownBlock = some V2 := fun e => by have := HQ.out.1.tree.lt V2 e; have := HP.out.1.mem.tree.lt V2 e; have := HV.out; omega
   have VN4 := hHeld.grown K4 (fun e => hV2v e)
   have G4 := Q3.blk.grown K4 Q3.ne_tree
   have c3c : w4.cell? ⟨c.g, 2, none⟩ = some vt := G4.cell 2
   have f3c := G4.free 2
   obtain ⟨Z4, Z5, Z6⟩ := Q3.put_tree (x := x) O4 K4 B4
   have L4 : w.grownBy w3 none := d5 HQ.out.2 (d5 (f8 w2 1 none) K3)
   obtain ⟨a4, l4, k4, hv4⟩ := S0 O4
   subst hv4
   refine hK.out _ _ VN4 (fun hHeld => ?_)
   clear hK K
   try simp only [Act.put, a0, a1, a2, a3, a4, a5]
   refine wpT (i := 8) (v := .pointer (some ⟨c.g, 0, none⟩)) rfl (Or.inl ⟨by rfl, fun W hW => ?_⟩) hHeld ?_
   ·clear hW
    go_simp
   try simp only [Act.put, a0, a1, a2, a3, a4, a5]
   refine wpT (i := 9) (v := .pointer (some ⟨c.g, 2, none⟩)) rfl (Or.inl ⟨by rfl, fun W hW => ?_⟩) hHeld ?_
   ·clear hW
    go_simp
   try simp only [Act.put, a0, a1, a2, a3, a4, a5]
   refine wpR (rs := [10]) (AllReadyH.cons rfl (fun K hK => ?_) AllReadyH.nil)
   go_simp
   refine hK.out _ _ (VN4.setOther (k := c.g) (i := 2) (.slice a4 l4 k4) (fun e => by have := HP.out.1.mem.blk.lt; have := HV.out; omega)) (fun hHeld => ?_)
   refine wpAnyH_done (by kernel_rfl) ?_ _
   have HZ : Hid (RB c (w4.setCell ⟨c.g, 2, none⟩ (.slice a4 l4 k4)) i (.slice a4 l4 k4) vp s.nest 0 0 (s.ns.map Prod.fst ++ [x]) (s.ns.map plc) ∧ GB w (w4.setCell ⟨c.g, 2, none⟩ (.slice a4 l4 k4)) (d3 c.g vt vp) ∧ ∀ y, y < w.heap.size → d3 c.g (.slice a4 l4 k4) vp y → d3 c.g vt vp y) := ⟨Z4, (GB.non L4).trans Z5 (fun _ _ h => h), fun y hy => Z6 y (Nat.lt_of_lt_of_le hy L4.size)⟩
   clear hK K hHeld O4 K4 B4 C3 K3 hV2v VN4 G4 c3c f3c Q3 c3 c3b Z4 Z5 Z6 L4 hi hz0 hz1 hz2 i0 HQ HL HLN HX
   generalize w4.setCell ⟨c.g, 2, none⟩ (.slice a4 l4 k4) = w5 at *
   have p4 : w5.cell? ⟨c.g, 3, none⟩ = some vp := HZ.out.1.blk.cell 3
   obtain ⟨i0, hi, hz0, hz1, hz2⟩ := info_parts a1h
   have K6 : w5.grownBy (w5.alloc (.cells #[.int .i64 (tp : Int)] 3)) none := World.grownBy_alloc w5 (.cells #[.int .i64 (tp : Int)] 3) none
   have HK6 : Hid (RB c (w5.alloc (.cells #[.int .i64 (tp : Int)] 3)) i (.slice a4 l4 k4) vp s.nest 0 0 (s.ns.map Prod.fst ++ [x]) (s.ns.map plc) ∧ CV (w5.alloc (.cells #[.int .i64 (tp : Int)] 3)) (some ⟨w5.heap.size, 0, none⟩) [.int .i64 (tp : Int)] ∧ w5.grownBy (w5.alloc (.cells #[.int .i64 (tp : Int)] 3)) none) := ⟨HZ.out.1.keep K6, m8 w5 _ _, K6⟩
   clear K6
   go_wp2_with (at_builtin; refine a5C _ rfl (.tmp 25) (.tmp 27) 23 rfl 3 i0 _ 1 8 Tryz.underlying23 hi hz0 hz1 hz2 rfl (by decide) c.w0.heap.size vp (s.ns.map plc).length ((s.ns.map plc).map iv) rfl HK6.out.1.places ⟨w5.heap.size, 0, none⟩ 1 1 [.int .i64 (tp : Int)] rfl rfl HK6.out.2.1 (by simp [Value.oneCell']) HB1.out.2.1 HB1.out.2.2 HK6.out.1.grown.size ?_)
   intro v7 w7 O7 K7 B7
   have A7 := a04 HK6.out.1.blk HK6.out.1.places (by decide) K7
   have p4c : w7.cell? ⟨c.g, 3, none⟩ = some vp := A7.cell 3
   have p4f := A7.free 3
   have HO : Hid (c8 c w vt vp (s.lay x tp) bud (w7.setCell ⟨c.g, 3, none⟩ v7)) := a4h HP.out.1 HP.out.2 HZ.out HK6.out.2.2 (by rw [List.map_map, List.length_map]; exact O7) K7 (by simpa using B7)
   obtain ⟨a7, l7, k7, hv7⟩ := S0 O7
   subst hv7
   clear A7 O7 K7 B7 hi hz0 hz1 hz2 p4
   go_wp2
   exact ⟨rfl, _, results_none rfl _ _ _, rfl, HO.out⟩
  ·skip
   refine a26 (by rfl) 22 1 _ (by rfl) _ (by kernel_rfl) x.cells 54 HLN.out ?_
   intro ad w3 C3 K3
   have Q3 := HQ.out.1.keep (d5 (f8 w2 1 none) K3)
   have c3b : w3.cell? ⟨c.g, 2, none⟩ = some vt := Q3.blk.cell 2
   refine hK.out _ _ (HL.out.1.kept K3) (fun hHeld => ?_)
   clear hK K
   try simp only [Act.put, a0, a1, a2, a3, a4, a5]
   refine wpR (rs := [4]) (AllReadyH.cons rfl (fun K hK => ?_) AllReadyH.nil)
   go_simp
   refine hK.out _ _ (HL.out.1.kept K3) (fun hHeld => ?_)
   clear hK K
   try simp only [Act.put, a0, a1, a2, a3, a4, a5]
   refine wpR (rs := [7]) (AllReadyH.cons rfl (fun K hK => ?_) AllReadyH.nil)
   refine a0X (by rfl) (.tmp 15) (.tmp 17) 22 (by rfl) 54 i0 _ 24 72 Tryz.underlying22 hi hz0 hz1 hz2 rfl (by decide) c.w0.heap.size vt (s.ns.map Prod.fst).length (y6 (s.ns.map Prod.fst)) (by rfl) Q3.tree ad 1 1 x.cells (by rfl) rfl C3 x.cells_one HB1.out.1.1 HB1.out.1.2 (Nat.le_trans HQ.out.1.grown.size K3.size) ?_
   intro v4 w4 O4 K4 B4
   have hV2v : ¬ vt.ownBlock = some V2 := fun e => by have := HQ.out.1.tree.lt V2 e; have := HP.out.1.mem.tree.lt V2 e; have := HV.out; omega
   have VN4 := hHeld.grown K4 (fun e => hV2v e)
   have G4 := Q3.blk.grown K4 Q3.ne_tree
   have c3c : w4.cell? ⟨c.g, 2, none⟩ = some vt := G4.cell 2
   have f3c := G4.free 2
   obtain ⟨Z4, Z5, Z6⟩ := Q3.put_tree (x := x) O4 K4 B4
   have L4 : w.grownBy w3 none := d5 HQ.out.2 (d5 (f8 w2 1 none) K3)
   obtain ⟨a4, l4, k4, hv4⟩ := S0 O4
   subst hv4
   refine hK.out _ _ VN4 (fun hHeld => ?_)
   clear hK K
   try simp only [Act.put, a0, a1, a2, a3, a4, a5]
   refine wpT (i := 8) (v := .pointer (some ⟨c.g, 0, none⟩)) rfl (Or.inl ⟨by rfl, fun W hW => ?_⟩) hHeld ?_
   ·clear hW
    go_simp
   try simp only [Act.put, a0, a1, a2, a3, a4, a5]
   refine wpT (i := 9) (v := .pointer (some ⟨c.g, 2, none⟩)) rfl (Or.inl ⟨by rfl, fun W hW => ?_⟩) hHeld ?_
   ·clear hW
    go_simp
   try simp only [Act.put, a0, a1, a2, a3, a4, a5]
   refine wpR (rs := [10]) (AllReadyH.cons rfl (fun K hK => ?_) AllReadyH.nil)
   go_simp
   refine hK.out _ _ (VN4.setOther (k := c.g) (i := 2) (.slice a4 l4 k4) (fun e => by have := HP.out.1.mem.blk.lt; have := HV.out; omega)) (fun hHeld => ?_)
   refine wpAnyH_done (by kernel_rfl) ?_ _
   have HZ : Hid (RB c (w4.setCell ⟨c.g, 2, none⟩ (.slice a4 l4 k4)) i (.slice a4 l4 k4) vp s.nest 0 0 (s.ns.map Prod.fst ++ [x]) (s.ns.map plc) ∧ GB w (w4.setCell ⟨c.g, 2, none⟩ (.slice a4 l4 k4)) (d3 c.g vt vp) ∧ ∀ y, y < w.heap.size → d3 c.g (.slice a4 l4 k4) vp y → d3 c.g vt vp y) := ⟨Z4, (GB.non L4).trans Z5 (fun _ _ h => h), fun y hy => Z6 y (Nat.lt_of_lt_of_le hy L4.size)⟩
   clear hK K hHeld O4 K4 B4 C3 K3 hV2v VN4 G4 c3c f3c Q3 c3 c3b Z4 Z5 Z6 L4 hi hz0 hz1 hz2 i0 HQ HL HLN HX
   generalize w4.setCell ⟨c.g, 2, none⟩ (.slice a4 l4 k4) = w5 at *
   have p4 : w5.cell? ⟨c.g, 3, none⟩ = some vp := HZ.out.1.blk.cell 3
   obtain ⟨i0, hi, hz0, hz1, hz2⟩ := info_parts a1h
   have K6 : w5.grownBy (w5.alloc (.cells #[.int .i64 (tp : Int)] 3)) none := World.grownBy_alloc w5 (.cells #[.int .i64 (tp : Int)] 3) none
   have HK6 : Hid (RB c (w5.alloc (.cells #[.int .i64 (tp : Int)] 3)) i (.slice a4 l4 k4) vp s.nest 0 0 (s.ns.map Prod.fst ++ [x]) (s.ns.map plc) ∧ CV (w5.alloc (.cells #[.int .i64 (tp : Int)] 3)) (some ⟨w5.heap.size, 0, none⟩) [.int .i64 (tp : Int)] ∧ w5.grownBy (w5.alloc (.cells #[.int .i64 (tp : Int)] 3)) none) := ⟨HZ.out.1.keep K6, m8 w5 _ _, K6⟩
   clear K6
   go_wp2_with (at_builtin; refine a5C _ rfl (.tmp 25) (.tmp 27) 23 rfl 3 i0 _ 1 8 Tryz.underlying23 hi hz0 hz1 hz2 rfl (by decide) c.w0.heap.size vp (s.ns.map plc).length ((s.ns.map plc).map iv) rfl HK6.out.1.places ⟨w5.heap.size, 0, none⟩ 1 1 [.int .i64 (tp : Int)] rfl rfl HK6.out.2.1 (by simp [Value.oneCell']) HB1.out.2.1 HB1.out.2.2 HK6.out.1.grown.size ?_)
   intro v7 w7 O7 K7 B7
   have A7 := a04 HK6.out.1.blk HK6.out.1.places (by decide) K7
   have p4c : w7.cell? ⟨c.g, 3, none⟩ = some vp := A7.cell 3
   have p4f := A7.free 3
   have HO : Hid (c8 c w vt vp (s.lay x tp) bud (w7.setCell ⟨c.g, 3, none⟩ v7)) := a4h HP.out.1 HP.out.2 HZ.out HK6.out.2.2 (by rw [List.map_map, List.length_map]; exact O7) K7 (by simpa using B7)
   obtain ⟨a7, l7, k7, hv7⟩ := S0 O7
   subst hv7
   clear A7 O7 K7 B7 hi hz0 hz1 hz2 p4
   go_wp2
   exact ⟨rfl, _, results_none rfl _ _ _, rfl, HO.out⟩
 ·have hn := h.erC_ne he
  have HQ : Hid (c8 c w vt vp (s.lay x tp) bud (w.alloc (.cells X 54))) := by
   rw [P8 he]
   exact ⟨i, vt, vp, (h.keep K1).less (Nat.le_succ bud), GB.non K1, fun _ _ k => k⟩
  generalize erC s = ec at *
  clear h he H2 VN K1
  go_enter Tryz.func23, Tryz.ntmps23
  go_wp2
  exact bodyPost_ret (results_none rfl _ _ _) rfl ⟨rfl, HQ.out⟩
end
theorem a55 (x : List UInt8) (w : World) :
  Calls Tryz.prog 43 #[str x] w fun e w' => e = .returned (.int .i64 (l9 x : Int)) ∧ w.grownBy w' none := by
 by_cases h0 : x = [112, 112, 112]
 ·subst h0
  go_enter Tryz.func43, Tryz.ntmps43
  go_wp2
  go_ret
  exact ⟨rfl, World.grownBy.refl _ _⟩
 by_cases h1 : x = [105, 112]
 ·subst h1
  go_enter Tryz.func43, Tryz.ntmps43
  go_wp2
  go_ret
  exact ⟨rfl, World.grownBy.refl _ _⟩
 by_cases h2 : x = [105, 112, 54]
 ·subst h2
  go_enter Tryz.func43, Tryz.ntmps43
  go_wp2
  go_ret
  exact ⟨rfl, World.grownBy.refl _ _⟩
 by_cases h3 : x = [116, 99, 112]
 ·subst h3
  go_enter Tryz.func43, Tryz.ntmps43
  go_wp2
  go_ret
  exact ⟨rfl, World.grownBy.refl _ _⟩
 by_cases h4 : x = [117, 100, 112]
 ·subst h4
  go_enter Tryz.func43, Tryz.ntmps43
  go_wp2
  go_ret
  exact ⟨rfl, World.grownBy.refl _ _⟩
 by_cases h5 : x = [105, 99, 109, 112]
 ·subst h5
  go_enter Tryz.func43, Tryz.ntmps43
  go_wp2
  go_ret
  exact ⟨rfl, World.grownBy.refl _ _⟩
 by_cases h6 : x = [105, 99, 109, 112, 54]
 ·subst h6
  go_enter Tryz.func43, Tryz.ntmps43
  go_wp2
  go_ret
  exact ⟨rfl, World.grownBy.refl _ _⟩
 by_cases h7 : x = [108, 99, 112]
 ·subst h7
  go_enter Tryz.func43, Tryz.ntmps43
  go_wp2
  go_ret
  exact ⟨rfl, World.grownBy.refl _ _⟩
 by_cases h8 : x = [112, 97, 112]
 ·subst h8
  go_enter Tryz.func43, Tryz.ntmps43
  go_wp2
  go_ret
  exact ⟨rfl, World.grownBy.refl _ _⟩
 by_cases h9 : x = [99, 104, 97, 112]
 ·subst h9
  go_enter Tryz.func43, Tryz.ntmps43
  go_wp2
  go_ret
  exact ⟨rfl, World.grownBy.refl _ _⟩
 by_cases h10 : x = [105, 112, 99, 112]
 ·subst h10
  go_enter Tryz.func43, Tryz.ntmps43
  go_wp2
  go_ret
  exact ⟨rfl, World.grownBy.refl _ _⟩
 by_cases h11 : x = [105, 112, 54, 99, 112]
 ·subst h11
  go_enter Tryz.func43, Tryz.ntmps43
  go_wp2
  go_ret
  exact ⟨rfl, World.grownBy.refl _ _⟩
 by_cases h12 : x = [109, 112]
 ·subst h12
  go_enter Tryz.func43, Tryz.ntmps43
  go_wp2
  go_ret
  exact ⟨rfl, World.grownBy.refl _ _⟩
 have hz : l9 x = 0 := by
  unfold l9
  rw [if_neg h0, if_neg h1, if_neg h2, if_neg h3, if_neg h4, if_neg h5, if_neg h6, if_neg h7, if_neg h8, if_neg h9, if_neg h10, if_neg h11, if_neg h12]
 rw [hz]
 have e0 : (x == [112, 112, 112]) = false := by simpa using h0
 have e1 : (x == [105, 112]) = false := by simpa using h1
 have e2 : (x == [105, 112, 54]) = false := by simpa using h2
 have e3 : (x == [116, 99, 112]) = false := by simpa using h3
 have e4 : (x == [117, 100, 112]) = false := by simpa using h4
 have e5 : (x == [105, 99, 109, 112]) = false := by simpa using h5
 have e6 : (x == [105, 99, 109, 112, 54]) = false := by simpa using h6
 have e7 : (x == [108, 99, 112]) = false := by simpa using h7
 have e8 : (x == [112, 97, 112]) = false := by simpa using h8
 have e9 : (x == [99, 104, 97, 112]) = false := by simpa using h9
 have e10 : (x == [105, 112, 99, 112]) = false := by simpa using h10
 have e11 : (x == [105, 112, 54, 99, 112]) = false := by simpa using h11
 have e12 : (x == [109, 112]) = false := by simpa using h12
 clear hz h0 h1 h2 h3 h4 h5 h6 h7 h8 h9 h10 h11 h12
 go_enter Tryz.func43, Tryz.ntmps43
 go_wp2
 go_ret
 exact ⟨rfl, World.grownBy.refl _ _⟩

end Go.Proofs.YtlfmddjppejmaaaGreatDoor
