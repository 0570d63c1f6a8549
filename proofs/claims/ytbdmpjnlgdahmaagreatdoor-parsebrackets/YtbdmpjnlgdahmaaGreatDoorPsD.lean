/-
  The landed parser puts down a node.
-/
import Derived.Test.YtbdmpjnlgdahmaaGreatDoorLotP26
import Derived.Maps.AppendAt
import Derived.Deep.RegionLaw
namespace Go.Proofs.YtbdmpjnlgdahmaaGreatDoor
open Go.RowKit
set_option maxRecDepth 100000

/-- A list of one element written down in a statement whose order is open. -/
theorem step_lit {P : Program} {ops : Array Oper} {o : Oper} {a : Act} {w : World} {K : Act → World → Prop} {Q : Exit → Act → World → Prop} {E : Prop}
    (hgd : o.guard = none) (t : TypeId) (n : Nat) (ps : Array (Nat × Operand)) (ho : o.op = .buildSlice t n ps) (qs : Array (Nat × Value)) (hq : ps.map (fun (i, x) => (i, a.eval x)) = qs) (cs : List Value) (e : TypeId)
    (hr : ∀ W : World, (Instr.buildSlice t n qs).run P W = .ok (.slice (some ⟨W.heap.size, 0, none⟩) n n) (W.alloc (.cells cs.toArray e)))
    (hK : ∀ ad w', CV w' (some ad) cs → w.grownBy w' none → K (a.put o.dst (.slice (some ad) n n)) w') :
    if Region.wanted o (yielded ops a.tmps) = true then Oper.wp P o a w K Q else E := by
  have hw : Region.wanted o (yielded ops a.tmps) = true := by simp [Region.wanted, hgd]
  rw [if_pos hw]
  unfold Oper.wp execOp
  have hr' := hr w
  rw [← hq] at hr'
  simp only [ho, Sem.run_bind, Sem.run_pure, Result.andThen_ok, hr']
  exact hK _ _ (cv_lit w e cs) (World.grownBy_alloc _ _ _)

/-- Elements appended in a statement whose order is open, and where they lie. -/
theorem step_append_own {P : Program} {ops : Array Oper} {o : Oper} {a : Act} {w : World} {K : Act → World → Prop} {Q : Exit → Act → World → Prop} {E : Prop}
    (hgd : o.guard = none) (s x : Operand) (t : TypeId) (ho : o.op = .call { callee := .builtin .append, args := #[s, x], argTypes := #[t, t] })
    (e : TypeId) (i : TypeInfo) (z : Value) (size bytes : Nat) (ht : P.underlying t = some (.slice e)) (hi : P.info? e = some i) (hz : i.zero = some z) (hsize : i.size = size) (hby : i.bytes = bytes) (hzs : z.cells.size = size) (hsz : 0 < size)
    (base : Nat) (v : Value) (n : Nat) (vs : List Value) (hs : a.eval s = v) (hown : w.ownsRow base e size v n vs)
    (ad : Addr) (m c : Nat) (us : List Value) (hx : a.eval x = .slice (some ad) m c) (hl : us.length = m * size) (hus : CV w (some ad) us) (h1 : ∀ u ∈ us, u.oneCell' = true)
    (h63 : n + m ≤ maxLen) (hbytes : (n + m) * bytes ≤ 140737488355328) (hbase : base ≤ w.heap.size)
    (hK : ∀ v' w', w'.ownsRow base e size v' (n + m) (vs ++ us) → w.grownBy w' v.ownBlock → (v'.ownBlock = v.ownBlock ∨ v'.ownBlock = some w.heap.size) → K (a.put o.dst v') w') :
    if Region.wanted o (yielded ops a.tmps) = true then Oper.wp P o a w K Q else E := by
  have hw : Region.wanted o (yielded ops a.tmps) = true := by simp [Region.wanted, hgd]
  rw [if_pos hw]
  obtain ⟨v', w', hr, h2, h3, _, h5⟩ := run_append_own_at (P := P) w base t o.type e i z size bytes ht hi hz hsize hby hzs hsz v n vs hown ad m c us hl (by
    intro j u hj
    obtain ⟨hlt, e⟩ := List.getElem?_eq_some_iff.1 hj
    rw [hus.2 ad rfl j hlt, e]) h1 h63 hbytes hbase
  unfold Oper.wp execOp
  simp only [ho, resolve, invoke, builtin, Sem.run_bind, Sem.run_pure, Result.andThen_ok, List.map_toArray, List.map_cons, List.map_nil, hs, hx, hr]
  exact hK v' w' h2 h3 h5

/-- A whole row read in a statement whose order is open. -/
theorem step_load_row {P : Program} {ops : Array Oper} {o : Oper} {a : Act} {w : World} {K : Act → World → Prop} {Q : Exit → Act → World → Prop} {E : Prop}
    (hgd : o.guard = none) (ty : TypeId) (x : Operand) (ho : o.op = .load ty x) (g : Nat) (hx : a.eval x = .pointer (some ⟨g, 0, none⟩)) (t : TypeId) (cs : Array Value) (d : TypeDesc) (A : VAt w g t cs)
    (hu : P.underlying ty = some d) (hd : (match d with | .struct _ | .array _ _ => true | _ => false) = true) (hi : (P.info? ty).map (·.size) = some cs.size) (hK : K (a.put o.dst (.agg cs)) w) :
    if Region.wanted o (yielded ops a.tmps) = true then Oper.wp P o a w K Q else E := by
  have hw : Region.wanted o (yielded ops a.tmps) = true := by simp [Region.wanted, hgd]
  rw [if_pos hw]
  unfold Oper.wp execOp
  simp only [ho, hx, Instr.loadAt, Instr.sureAddr, Sem.run_bind, Sem.run_pure, Result.andThen_ok, run_loadVar_row w g t ty cs (0, 0) d A hu hd hi]
  exact hK

theorem own_sl {w : World} {base e size n : Nat} {v : Value} {vs : List Value} (h : w.ownsRow base e size v n vs) : ∃ a l k, v = .slice a l k := by
  rcases h.2 with ⟨rfl, -⟩ | ⟨g, cap, cur, rfl, -⟩
  · exact ⟨_, _, _, rfl⟩
  · exact ⟨_, _, _, rfl⟩

theorem lit_node (x : Nd) (W : World) : (Instr.buildSlice 22 1 #[(0, .agg x.cells.toArray)]).run Tryz.prog W = .ok (.slice (some ⟨W.heap.size, 0, none⟩) 1 1) (W.alloc (.cells x.cells.toArray 46)) := by kernel_rfl
theorem lit_int (z : Int) (W : World) : (Instr.buildSlice 23 1 #[(0, .int .i64 z)]).run Tryz.prog W = .ok (.slice (some ⟨W.heap.size, 0, none⟩) 1 1) (W.alloc (.cells #[.int .i64 z] 3)) := by kernel_rfl
theorem box_node (x : Nd) (W : World) : (Instr.box 46 (.agg x.cells.toArray)).run Tryz.prog W = .ok (.pointer (some ⟨W.heap.size, 0, none⟩)) (W.alloc (.cells x.cells.toArray 46)) := by kernel_rfl

section
variable {c : PC} {w : World} {i nest bud : Nat} {vt vp : Value} {ts : List Tk} {ns : List (Nd × Nat)}

theorem put_end {w5 w6 w7 : World} {v4 v7 : Value} {x : Nd} {tp : Nat} (h : PS c w i vt vp ts nest (bud + 1) ns) (HZ : HS c w5 i v4 vp nest (ns.map Prod.fst ++ [x]) (ns.map plc) ∧ GB w w5 (foot c.g vt vp) ∧ ∀ y, y < w.heap.size → foot c.g v4 vp y → foot c.g vt vp y) (K6 : w5.grownBy w6 none)
    (O : w7.ownsRow c.w0.heap.size 3 1 v7 ((ns.map plc).length + 1) ((ns.map plc).map iv ++ [.int .i64 (tp : Int)])) (K : w6.grownBy w7 vp.ownBlock) (B : v7.ownBlock = vp.ownBlock ∨ v7.ownBlock = some w6.heap.size) : Ret c w vt vp ts nest bud (ns ++ [(x, tp)]) (w7.setCell ⟨c.g, 4, none⟩ v7) := by
  obtain ⟨h1, h2, h3⟩ := (HZ.1.keep K6).put_places O K B
  have hs6 := K6.size
  have hs5 := HZ.2.1.size
  refine ⟨i, v4, v7, h.of_hs (by rw [List.map_append, List.map_append]; exact h1) (by have := h.bud_le; rw [List.length_append, List.length_singleton]; omega), ?_, ?_⟩
  · exact HZ.2.1.trans ((GB.non K6).trans h2 (fun _ _ h => h)) (fun y hy => HZ.2.2 y hy)
  · intro y hy hf
    exact HZ.2.2 y hy (h3 y (by omega) hf)

set_option maxHeartbeats 4000000 in
theorem put_any (h : PS c w i vt vp ts nest (bud + 1) ns) (t : Tk) (x : Nd) :
    Calls Tryz.prog 89 #[.pointer (some ⟨c.g, 0, none⟩), .agg (tkC t), .agg x.cells.toArray] w fun e w' => e = .returned (.tuple #[]) ∧ Ret c w vt vp ts nest bud (ns ++ [(x, t.pos)]) w' := by
  obtain ⟨tk, tp, tx, tn⟩ := t
  unfold tkC
  simp only
  have HBX := box_node x
  obtain ⟨X, hX⟩ : ∃ X, x.cells.toArray = X := ⟨_, rfl⟩
  rw [hX] at HBX ⊢
  go_enter Tryz.func89, Tryz.ntmps89
  have VT := VAt.alloc w 42 #[.int .i64 (tk : Int), .int .i64 (tp : Int), str tx, .int .u32 (tn : Int)]
  have K1 := World.grownBy_alloc w (.cells #[.int .i64 (tk : Int), .int .i64 (tp : Int), str tx, .int .u32 (tn : Int)] 42) none
  have K2 := World.grownBy_alloc (w.alloc (.cells #[.int .i64 (tk : Int), .int .i64 (tp : Int), str tx, .int .u32 (tn : Int)] 42)) (.cells X 46) none
  have VN := VAt.alloc (w.alloc (.cells #[.int .i64 (tk : Int), .int .i64 (tp : Int), str tx, .int .u32 (tn : Int)] 42)) 46 X
  rw [show (w.alloc (.cells #[.int .i64 (tk : Int), .int .i64 (tp : Int), str tx, .int .u32 (tn : Int)] 42)).heap.size = w.heap.size + 1 by simp] at VN
  have VT2 := VT.kept K2
  have G := grown_trans K1 K2
  have H2 := h.keep G
  have HP : Hid (PS c w i vt vp ts nest (bud + 1) ns) := h
  go_upto_region 1 with fail
  generalize (w.alloc (.cells #[.int .i64 (tk : Int), .int .i64 (tp : Int), str tx, .int .u32 (tn : Int)] 42)).alloc (.cells X 46) = w2 at *
  obtain ⟨V1, hV1⟩ : ∃ V, w.heap.size = V := ⟨_, rfl⟩
  obtain ⟨V2, hV2⟩ : ∃ V, w.heap.size + 1 = V := ⟨_, rfl⟩
  rw [hV2] at VN ⊢
  rw [hV1] at VT2 ⊢
  have HV : Hid (w.heap.size ≤ V1 ∧ V1 < w2.heap.size ∧ w.heap.size < V2) := ⟨Nat.le_of_eq hV1, VT2.lt, by omega⟩
  clear hV1 hV2 VT K1 K2 h HBX
  have hXs : X.size = 24 := by rw [← hX]; rfl
  have HL : Hid (VAt w2.drew V2 46 X ∧ (Tryz.prog.info? 46).map (·.size) = some X.size) := ⟨VN, by rw [hXs]; exact size46⟩
  have LN := lit_node x
  rw [hX] at LN
  have LI := lit_int
  have HLN : Hid (∀ W : World, (Instr.buildSlice 22 1 #[(0, .agg X)]).run Tryz.prog W = .ok (.slice (some ⟨W.heap.size, 0, none⟩) 1 1) (W.alloc (.cells x.cells.toArray 46))) := fun W => by rw [hX]; exact LN W
  have HX : Hid (x.cells.toArray = X) := hX
  have HB1 : Hid (((ns.map Prod.fst).length + 1 ≤ maxLen ∧ ((ns.map Prod.fst).length + 1) * 72 ≤ 140737488355328) ∧ ((ns.map plc).length + 1 ≤ maxLen ∧ ((ns.map plc).length + 1) * 8 ≤ 140737488355328)) := by
    have := HP.out.bud_le
    simp only [List.length_map]
    unfold maxLen
    exact ⟨⟨by omega, by omega⟩, by omega, by omega⟩
  have c3 : w2.cell? ⟨c.g, 3, none⟩ = some vt := H2.blk.cell 3
  have HQ : Hid (PS c w2 i vt vp ts nest (bud + 1) ns ∧ VAt w2 V1 42 #[.int .i64 (tk : Int), .int .i64 (tp : Int), str tx, .int .u32 (tn : Int)] ∧ w.grownBy w2 none) := ⟨H2, VT2, G⟩
  obtain ⟨i0, hi, hz0, hz1, hz2⟩ := info_parts info46
  clear H2 VT2 G hX LN LI VN hXs
  refine wp_region_held_drew (S := fun W => VAt W V2 46 X) (by kernel_rfl) HL.out.1 (fun hHeld => ?_)
  refine wpAnyH_take (i := 0) (v := .pointer (some ⟨c.g, 0, none⟩)) rfl (by kernel_rfl) (by kernel_rfl) (by kernel_rfl) (fun _ _ _ h => h) (Or.inl ⟨by rfl, fun W hW => ?_⟩) hHeld ?_
  · clear hW
    go_simp
  try simp only [Act.put, List.getElem_toArray, List.getElem_cons_zero, List.setIfInBounds_toArray, List.set_cons_zero, List.set_cons_succ]
  refine wpAnyH_take (i := 1) (v := .pointer (some ⟨c.g, 0, none⟩)) rfl (by kernel_rfl) (by kernel_rfl) (by kernel_rfl) (fun _ _ _ h => h) (Or.inl ⟨by rfl, fun W hW => ?_⟩) hHeld ?_
  · clear hW
    go_simp
  try simp only [Act.put, List.getElem_toArray, List.getElem_cons_zero, List.getElem_cons_succ, List.setIfInBounds_toArray, List.set_cons_zero, List.set_cons_succ]
  refine wpAnyH_take (i := 2) (v := .pointer (some ⟨c.g, 0, none⟩)) rfl (by kernel_rfl) (by kernel_rfl) (by kernel_rfl) (fun _ _ _ h => h) (Or.inl ⟨by rfl, fun W hW => ?_⟩) hHeld ?_
  · clear hW
    go_simp
  try simp only [Act.put, List.getElem_toArray, List.getElem_cons_zero, List.getElem_cons_succ, List.setIfInBounds_toArray, List.set_cons_zero, List.set_cons_succ]
  refine wpAnyH_take (i := 3) (v := .pointer (some ⟨c.g, 3, none⟩)) rfl (by kernel_rfl) (by kernel_rfl) (by kernel_rfl) (fun _ _ _ h => h) (Or.inl ⟨by rfl, fun W hW => ?_⟩) hHeld ?_
  · clear hW
    go_simp
  try simp only [Act.put, List.getElem_toArray, List.getElem_cons_zero, List.getElem_cons_succ, List.setIfInBounds_toArray, List.set_cons_zero, List.set_cons_succ]
  refine wpAnyH_take (i := 5) (v := .agg X) rfl (by kernel_rfl) (by kernel_rfl) (by kernel_rfl) (fun _ _ _ h => h) (yieldsIf_load_row (by rfl) _ _ rfl V2 rfl 46 X _ (fun W hW => hW) Tryz.underlying46 rfl HL.out.2) hHeld ?_
  try simp only [Act.put, List.getElem_toArray, List.getElem_cons_zero, List.getElem_cons_succ, List.setIfInBounds_toArray, List.set_cons_zero, List.set_cons_succ]
  refine wpAnyH_ready (rs := [4, 6]) (by kernel_rfl) (by simp) (AllReadyH.cons rfl (fun K hK => ?_) (AllReadyH.cons rfl (fun K hK => ?_) AllReadyH.nil))
  · go_simp
    refine hK.out _ _ HL.out.1 (fun hHeld => ?_)
    clear hK K
    try simp only [Act.put, List.getElem_toArray, List.getElem_cons_zero, List.getElem_cons_succ, List.setIfInBounds_toArray, List.set_cons_zero, List.set_cons_succ]
    refine wpAnyH_ready (rs := [6]) (by kernel_rfl) (by simp) (AllReadyH.cons rfl (fun K hK => ?_) AllReadyH.nil)
    refine step_lit (by rfl) 22 1 _ (by rfl) _ (by kernel_rfl) x.cells 46 HLN.out ?_
    intro ad w3 C3 K3
    have Q3 := HQ.out.1.keep (grown_trans (grown_drewN w2 1 none) K3)
    have c3b : w3.cell? ⟨c.g, 3, none⟩ = some vt := Q3.blk.cell 3
    refine hK.out _ _ (HL.out.1.kept K3) (fun hHeld => ?_)
    clear hK K
    try simp only [Act.put, List.getElem_toArray, List.getElem_cons_zero, List.getElem_cons_succ, List.setIfInBounds_toArray, List.set_cons_zero, List.set_cons_succ]
    refine wpAnyH_ready (rs := [7]) (by kernel_rfl) (by simp) (AllReadyH.cons rfl (fun K hK => ?_) AllReadyH.nil)
    refine step_append_own (by rfl) (.tmp 10) (.tmp 12) 22 (by rfl) 46 i0 _ 24 72 Tryz.underlying22 hi hz0 hz1 hz2 rfl (by decide) c.w0.heap.size vt (ns.map Prod.fst).length (flatN (ns.map Prod.fst)) (by rfl) Q3.tree ad 1 1 x.cells (by rfl) rfl C3 x.cells_one HB1.out.1.1 HB1.out.1.2 (Nat.le_trans HQ.out.1.grown.size K3.size) ?_
    intro v4 w4 O4 K4 B4
    have hV2v : ¬ vt.ownBlock = some V2 := fun e => by have := HQ.out.1.tree.lt V2 e; have := HP.out.tree.lt V2 e; have := HV.out; omega
    have VN4 := hHeld.grown K4 (fun e => hV2v e)
    have G4 := Q3.blk.grown K4 Q3.ne_tree
    have c3c : w4.cell? ⟨c.g, 3, none⟩ = some vt := G4.cell 3
    have f3c := G4.free 3
    obtain ⟨Z4, Z5, Z6⟩ := Q3.hs.put_tree (x := x) O4 K4 B4
    have L4 : w.grownBy w3 none := grown_trans HQ.out.2.2 (grown_trans (grown_drewN w2 1 none) K3)
    have V14 := (HQ.out.2.1.kept (grown_trans (grown_drewN w2 1 none) K3)).grown K4 (fun e => by have := HP.out.tree.lt V1 e; have := HV.out; omega)
    obtain ⟨a4, l4, k4, hv4⟩ := own_sl O4
    subst hv4
    refine hK.out _ _ VN4 (fun hHeld => ?_)
    clear hK K
    try simp only [Act.put, List.getElem_toArray, List.getElem_cons_zero, List.getElem_cons_succ, List.setIfInBounds_toArray, List.set_cons_zero, List.set_cons_succ]
    refine wpAnyH_take (i := 8) (v := .pointer (some ⟨c.g, 0, none⟩)) rfl (by kernel_rfl) (by kernel_rfl) (by kernel_rfl) (fun _ _ _ h => h) (Or.inl ⟨by rfl, fun W hW => ?_⟩) hHeld ?_
    · clear hW
      go_simp
    try simp only [Act.put, List.getElem_toArray, List.getElem_cons_zero, List.getElem_cons_succ, List.setIfInBounds_toArray, List.set_cons_zero, List.set_cons_succ]
    refine wpAnyH_take (i := 9) (v := .pointer (some ⟨c.g, 3, none⟩)) rfl (by kernel_rfl) (by kernel_rfl) (by kernel_rfl) (fun _ _ _ h => h) (Or.inl ⟨by rfl, fun W hW => ?_⟩) hHeld ?_
    · clear hW
      go_simp
    try simp only [Act.put, List.getElem_toArray, List.getElem_cons_zero, List.getElem_cons_succ, List.setIfInBounds_toArray, List.set_cons_zero, List.set_cons_succ]
    refine wpAnyH_ready (rs := [10]) (by kernel_rfl) (by simp) (AllReadyH.cons rfl (fun K hK => ?_) AllReadyH.nil)
    go_simp
    refine hK.out _ _ (VN4.setOther (k := c.g) (i := 3) (.slice a4 l4 k4) (fun e => by have := HP.out.blk.lt; have := HV.out; omega)) (fun hHeld => ?_)
    refine wpAnyH_done (by kernel_rfl) ?_ _
    have V15 := V14.grown (grown_set w4 c.g 3 (.slice a4 l4 k4)) (fun e => by have e2 := Option.some.inj e; have := HP.out.blk.lt; have := HV.out; omega)
    have HZ : Hid (HS c (w4.setCell ⟨c.g, 3, none⟩ (.slice a4 l4 k4)) i (.slice a4 l4 k4) vp nest (ns.map Prod.fst ++ [x]) (ns.map plc) ∧ GB w (w4.setCell ⟨c.g, 3, none⟩ (.slice a4 l4 k4)) (foot c.g vt vp) ∧ ∀ y, y < w.heap.size → foot c.g (.slice a4 l4 k4) vp y → foot c.g vt vp y) := ⟨Z4, (GB.non L4).trans Z5 (fun _ _ h => h), fun y hy => Z6 y (Nat.lt_of_lt_of_le hy L4.size)⟩
    clear hK K hHeld O4 K4 B4 C3 K3 hV2v VN4 G4 c3c f3c Q3 c3 c3b Z4 Z5 Z6 L4 V14 hi hz0 hz1 hz2 i0 HQ HL HLN HX
    go_wp2_with fail
    generalize w4.setCell ⟨c.g, 3, none⟩ (.slice a4 l4 k4) = w5 at *
    have p1 : w5.cell? ⟨V1, 1, none⟩ = some (.int .i64 (tp : Int)) := V15.cell 1
    have p4 : w5.cell? ⟨c.g, 4, none⟩ = some vp := HZ.out.1.blk.cell 4
    obtain ⟨i0, hi, hz0, hz1, hz2⟩ := info_parts info3
    clear V15
    have K6 : w5.grownBy (w5.drew.alloc (.cells #[.int .i64 (tp : Int)] 3)) none := grown_trans (grown_drewN w5 1 none) (World.grownBy_alloc w5.drew (.cells #[.int .i64 (tp : Int)] 3) none)
    have HK6 : Hid (HS c (w5.drew.alloc (.cells #[.int .i64 (tp : Int)] 3)) i (.slice a4 l4 k4) vp nest (ns.map Prod.fst ++ [x]) (ns.map plc) ∧ CV (w5.drew.alloc (.cells #[.int .i64 (tp : Int)] 3)) (some ⟨w5.heap.size, 0, none⟩) [.int .i64 (tp : Int)] ∧ w5.grownBy (w5.drew.alloc (.cells #[.int .i64 (tp : Int)] 3)) none) := ⟨HZ.out.1.keep K6, cv_lit w5.drew _ _, K6⟩
    have p4b : (w5.alloc (.cells #[.int .i64 (tp : Int)] 3)).cell? ⟨c.g, 4, none⟩ = some vp := HK6.out.1.blk.cell 4
    clear K6
    go_region_law ((refine step_append_own rfl (.tmp 20) (.tmp 23) 23 rfl 3 i0 _ 1 8 Tryz.underlying23 hi hz0 hz1 hz2 rfl (by decide) c.w0.heap.size vp (ns.map plc).length ((ns.map plc).map iv) (by first | rfl | simp [Act.eval]) (by exact HK6.out.1.places) ⟨w5.heap.size, 0, none⟩ 1 1 [.int .i64 (tp : Int)] (by first | rfl | simp [Act.eval]) rfl (by exact HK6.out.2.1) (by simp [Value.oneCell']) HB1.out.2.1 HB1.out.2.2 (by exact HK6.out.1.grown.size) ?_; intro v7 w7 O7 K7' B7'; have K7 : (w5.drew.alloc (.cells #[.int .i64 (tp : Int)] 3)).grownBy w7 vp.ownBlock := K7'; have B7 : v7.ownBlock = vp.ownBlock ∨ v7.ownBlock = some (w5.drew.alloc (.cells #[.int .i64 (tp : Int)] 3)).heap.size := B7'; have A7 := blk_kept' HK6.out.1.blk HK6.out.1.places (by decide) K7; have p4c : w7.cell? ⟨c.g, 4, none⟩ = some vp := A7.cell 4; have p4f := A7.free 4; obtain ⟨a7, l7, k7, hv7⟩ := own_sl O7; subst hv7))
    all_goals (go_wp2; go_end0; exact ⟨rfl, put_end HP.out HZ.out HK6.out.2.2 O7 K7 B7⟩)
  · skip
    refine step_lit (by rfl) 22 1 _ (by rfl) _ (by kernel_rfl) x.cells 46 HLN.out ?_
    intro ad w3 C3 K3
    have Q3 := HQ.out.1.keep (grown_trans (grown_drewN w2 1 none) K3)
    have c3b : w3.cell? ⟨c.g, 3, none⟩ = some vt := Q3.blk.cell 3
    refine hK.out _ _ (HL.out.1.kept K3) (fun hHeld => ?_)
    clear hK K
    try simp only [Act.put, List.getElem_toArray, List.getElem_cons_zero, List.getElem_cons_succ, List.setIfInBounds_toArray, List.set_cons_zero, List.set_cons_succ]
    refine wpAnyH_ready (rs := [4]) (by kernel_rfl) (by simp) (AllReadyH.cons rfl (fun K hK => ?_) AllReadyH.nil)
    go_simp
    refine hK.out _ _ (HL.out.1.kept K3) (fun hHeld => ?_)
    clear hK K
    try simp only [Act.put, List.getElem_toArray, List.getElem_cons_zero, List.getElem_cons_succ, List.setIfInBounds_toArray, List.set_cons_zero, List.set_cons_succ]
    refine wpAnyH_ready (rs := [7]) (by kernel_rfl) (by simp) (AllReadyH.cons rfl (fun K hK => ?_) AllReadyH.nil)
    refine step_append_own (by rfl) (.tmp 10) (.tmp 12) 22 (by rfl) 46 i0 _ 24 72 Tryz.underlying22 hi hz0 hz1 hz2 rfl (by decide) c.w0.heap.size vt (ns.map Prod.fst).length (flatN (ns.map Prod.fst)) (by rfl) Q3.tree ad 1 1 x.cells (by rfl) rfl C3 x.cells_one HB1.out.1.1 HB1.out.1.2 (Nat.le_trans HQ.out.1.grown.size K3.size) ?_
    intro v4 w4 O4 K4 B4
    have hV2v : ¬ vt.ownBlock = some V2 := fun e => by have := HQ.out.1.tree.lt V2 e; have := HP.out.tree.lt V2 e; have := HV.out; omega
    have VN4 := hHeld.grown K4 (fun e => hV2v e)
    have G4 := Q3.blk.grown K4 Q3.ne_tree
    have c3c : w4.cell? ⟨c.g, 3, none⟩ = some vt := G4.cell 3
    have f3c := G4.free 3
    obtain ⟨Z4, Z5, Z6⟩ := Q3.hs.put_tree (x := x) O4 K4 B4
    have L4 : w.grownBy w3 none := grown_trans HQ.out.2.2 (grown_trans (grown_drewN w2 1 none) K3)
    have V14 := (HQ.out.2.1.kept (grown_trans (grown_drewN w2 1 none) K3)).grown K4 (fun e => by have := HP.out.tree.lt V1 e; have := HV.out; omega)
    obtain ⟨a4, l4, k4, hv4⟩ := own_sl O4
    subst hv4
    refine hK.out _ _ VN4 (fun hHeld => ?_)
    clear hK K
    try simp only [Act.put, List.getElem_toArray, List.getElem_cons_zero, List.getElem_cons_succ, List.setIfInBounds_toArray, List.set_cons_zero, List.set_cons_succ]
    refine wpAnyH_take (i := 8) (v := .pointer (some ⟨c.g, 0, none⟩)) rfl (by kernel_rfl) (by kernel_rfl) (by kernel_rfl) (fun _ _ _ h => h) (Or.inl ⟨by rfl, fun W hW => ?_⟩) hHeld ?_
    · clear hW
      go_simp
    try simp only [Act.put, List.getElem_toArray, List.getElem_cons_zero, List.getElem_cons_succ, List.setIfInBounds_toArray, List.set_cons_zero, List.set_cons_succ]
    refine wpAnyH_take (i := 9) (v := .pointer (some ⟨c.g, 3, none⟩)) rfl (by kernel_rfl) (by kernel_rfl) (by kernel_rfl) (fun _ _ _ h => h) (Or.inl ⟨by rfl, fun W hW => ?_⟩) hHeld ?_
    · clear hW
      go_simp
    try simp only [Act.put, List.getElem_toArray, List.getElem_cons_zero, List.getElem_cons_succ, List.setIfInBounds_toArray, List.set_cons_zero, List.set_cons_succ]
    refine wpAnyH_ready (rs := [10]) (by kernel_rfl) (by simp) (AllReadyH.cons rfl (fun K hK => ?_) AllReadyH.nil)
    go_simp
    refine hK.out _ _ (VN4.setOther (k := c.g) (i := 3) (.slice a4 l4 k4) (fun e => by have := HP.out.blk.lt; have := HV.out; omega)) (fun hHeld => ?_)
    refine wpAnyH_done (by kernel_rfl) ?_ _
    have V15 := V14.grown (grown_set w4 c.g 3 (.slice a4 l4 k4)) (fun e => by have e2 := Option.some.inj e; have := HP.out.blk.lt; have := HV.out; omega)
    have HZ : Hid (HS c (w4.setCell ⟨c.g, 3, none⟩ (.slice a4 l4 k4)) i (.slice a4 l4 k4) vp nest (ns.map Prod.fst ++ [x]) (ns.map plc) ∧ GB w (w4.setCell ⟨c.g, 3, none⟩ (.slice a4 l4 k4)) (foot c.g vt vp) ∧ ∀ y, y < w.heap.size → foot c.g (.slice a4 l4 k4) vp y → foot c.g vt vp y) := ⟨Z4, (GB.non L4).trans Z5 (fun _ _ h => h), fun y hy => Z6 y (Nat.lt_of_lt_of_le hy L4.size)⟩
    clear hK K hHeld O4 K4 B4 C3 K3 hV2v VN4 G4 c3c f3c Q3 c3 c3b Z4 Z5 Z6 L4 V14 hi hz0 hz1 hz2 i0 HQ HL HLN HX
    go_wp2_with fail
    generalize w4.setCell ⟨c.g, 3, none⟩ (.slice a4 l4 k4) = w5 at *
    have p1 : w5.cell? ⟨V1, 1, none⟩ = some (.int .i64 (tp : Int)) := V15.cell 1
    have p4 : w5.cell? ⟨c.g, 4, none⟩ = some vp := HZ.out.1.blk.cell 4
    obtain ⟨i0, hi, hz0, hz1, hz2⟩ := info_parts info3
    clear V15
    have K6 : w5.grownBy (w5.drew.alloc (.cells #[.int .i64 (tp : Int)] 3)) none := grown_trans (grown_drewN w5 1 none) (World.grownBy_alloc w5.drew (.cells #[.int .i64 (tp : Int)] 3) none)
    have HK6 : Hid (HS c (w5.drew.alloc (.cells #[.int .i64 (tp : Int)] 3)) i (.slice a4 l4 k4) vp nest (ns.map Prod.fst ++ [x]) (ns.map plc) ∧ CV (w5.drew.alloc (.cells #[.int .i64 (tp : Int)] 3)) (some ⟨w5.heap.size, 0, none⟩) [.int .i64 (tp : Int)] ∧ w5.grownBy (w5.drew.alloc (.cells #[.int .i64 (tp : Int)] 3)) none) := ⟨HZ.out.1.keep K6, cv_lit w5.drew _ _, K6⟩
    have p4b : (w5.alloc (.cells #[.int .i64 (tp : Int)] 3)).cell? ⟨c.g, 4, none⟩ = some vp := HK6.out.1.blk.cell 4
    clear K6
    go_region_law ((refine step_append_own rfl (.tmp 20) (.tmp 23) 23 rfl 3 i0 _ 1 8 Tryz.underlying23 hi hz0 hz1 hz2 rfl (by decide) c.w0.heap.size vp (ns.map plc).length ((ns.map plc).map iv) (by first | rfl | simp [Act.eval]) (by exact HK6.out.1.places) ⟨w5.heap.size, 0, none⟩ 1 1 [.int .i64 (tp : Int)] (by first | rfl | simp [Act.eval]) rfl (by exact HK6.out.2.1) (by simp [Value.oneCell']) HB1.out.2.1 HB1.out.2.2 (by exact HK6.out.1.grown.size) ?_; intro v7 w7 O7 K7' B7'; have K7 : (w5.drew.alloc (.cells #[.int .i64 (tp : Int)] 3)).grownBy w7 vp.ownBlock := K7'; have B7 : v7.ownBlock = vp.ownBlock ∨ v7.ownBlock = some (w5.drew.alloc (.cells #[.int .i64 (tp : Int)] 3)).heap.size := B7'; have A7 := blk_kept' HK6.out.1.blk HK6.out.1.places (by decide) K7; have p4c : w7.cell? ⟨c.g, 4, none⟩ = some vp := A7.cell 4; have p4f := A7.free 4; obtain ⟨a7, l7, k7, hv7⟩ := own_sl O7; subst hv7))
    all_goals (go_wp2; go_end0; exact ⟨rfl, put_end HP.out HZ.out HK6.out.2.2 O7 K7 B7⟩)

end
end Go.Proofs.YtbdmpjnlgdahmaaGreatDoor
