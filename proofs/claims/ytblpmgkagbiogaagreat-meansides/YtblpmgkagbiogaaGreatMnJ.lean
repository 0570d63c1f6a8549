/-
  Package mean as landed: two parts taken.
-/
import Derived.Test.YtblpmgkagbiogaaGreatMnI
namespace Go.Proofs.YtblpmgkagbiogaaGreat
open Go.RowKit
set_option maxRecDepth 100000

/-- A whole row written in a statement whose order is open. -/
theorem step_store_rowM {P : Program} {ops : Array Oper} {o : Oper} {a : Act} {w : World} {K : Act → World → Prop} {Q : Exit → Act → World → Prop} {E : Prop}
    (hgd : o.guard = none) (ty : TypeId) (x y : Operand) (ho : o.op = .store ty x y) (g : Nat) (cells : Array Value) (hx : a.eval x = .pointer (some ⟨g, 0, none⟩)) (hy : a.eval y = .agg cells) (t : TypeId) (old : Array Value) (A : VAt w g t old)
    (hi : (P.info? ty).map (·.size) = some cells.size) (hold : old.size = cells.size) (h1 : cells.all (·.oneCell') = true) (hK : K (a.put o.dst undef) (w.setRow g cells)) :
    if Region.wanted o (yielded ops a.tmps) = true then Oper.wp P o a w K Q else E := by
  have hw : Region.wanted o (yielded ops a.tmps) = true := by simp [Region.wanted, hgd]
  rw [if_pos hw]
  exact wp_store_row ty x y ho g cells hx hy t old A hi hold h1 hK

/-- Two results that lie in blocks of their own. -/
theorem ret_rows {P : Program} {fn : Func} {p q : Tmp} {ty te : TypeId} (h : fn.results = #[.cell p ty, .cell q te]) (tmps : Array Value) (w : World) (g e : Nat) (cs ds : Array Value) (d d' : TypeDesc) (hp : tmps.getD p undef = .pointer (some ⟨g, 0, none⟩)) (hq : tmps.getD q undef = .pointer (some ⟨e, 0, none⟩)) (A : VAt w g ty cs) (B : VAt w e te ds)
    (hu : P.underlying ty = some d) (hd : (match d with | .struct _ | .array _ _ => true | _ => false) = true) (hi : (P.info? ty).map (·.size) = some cs.size) (hu' : P.underlying te = some d') (hd' : (match d' with | .struct _ | .array _ _ => true | _ => false) = true) (hi' : (P.info? te).map (·.size) = some ds.size) : (results fn tmps).run P w = .ok (.tuple #[.agg cs, .agg ds]) w := by
  have hp' : tmps[p]?.getD undef = .pointer (some ⟨g, 0, none⟩) := by simpa using hp
  have hq' : tmps[q]?.getD undef = .pointer (some ⟨e, 0, none⟩) := by simpa using hq
  have h1 := run_loadVar_row (P := P) w g ty ty cs (0, 0) _ A hu hd hi
  have h2 := run_loadVar_row (P := P) w e te te ds (0, 0) _ B hu' hd' hi'
  simp [results, h, hp', hq', asAddr, h1, h2, Sem.run_bind]

/-- What lies beside a reader at work: the blocks of a caller. -/
theorem Lft.vat {w0 w w' : World} {g : Nat} {s : Sg} {a : Option Addr} {ca : Nat} {v : Value} {st : List Pm} (h : Lft w0 w g s a ca v st w') {B t : Nat} {cs : Array Value} (V : VAt w B t cs) (hB : ¬ ft g v B) : VAt w' B t cs := by
  obtain ⟨v', -, G, -⟩ := h
  exact G.vat V hB

set_option maxHeartbeats 4000000 in
theorem pair_any14 (w0 : World) (s : Sg) (a : Option Addr) (ca : Nat) (g : Nat) (v : Value) (st : List Pm) (p q : Pm) (w : World) (R : RS w0 w g s a ca v (st ++ [p, q])) :
    Calls Tryz.prog 111 #[.pointer (some ⟨g, 0, none⟩)] w fun e w' => e = .returned (.tuple #[pmA p, pmA q]) ∧ Lft w0 w g s a ca v st w' := by
  obtain ⟨w1, hw1, T1, U1, G1⟩ := two_parts w pm0 pm0
  have R1 := R.keep G1
  rw [show st ++ [p, q] = (st ++ [p]) ++ [q] by simp] at R1
  have CT := take_any14 w0 s a ca g v (st ++ [p]) q w1 R1
  have HNT : Hid (¬ ft g v w.heap.size ∧ ¬ ft g v (w.heap.size + 1)) := ⟨R.not (Nat.le_refl _), R.not (Nat.le_succ _)⟩
  have HG1 : Hid (GB w w1 (ft g v)) := GB.non G1
  have HPS := mpart_size
  have HW0 : Hid (w0.heap.size ≤ w.heap.size ∧ w.heap.size + 1 < w1.heap.size) := ⟨R.grown.size, VAt.lt U1⟩
  have e2 : (w.alloc (.cells #[.int .i64 0, .int .u32 0] 71)).alloc (.cells #[.int .i64 0, .int .u32 0] 71) = w1 := hw1
  clear R R1 hw1 G1
  go_enter Tryz.func111, Tryz.ntmps111
  go_upto_region 1 with fail
  try rw [e2]
  clear e2
  generalize hU : w.heap.size + 1 = U at *
  generalize hT : w.heap.size = T at *
  go_wp2_with fail
  refine CT.mono ?_
  rintro e w2 ⟨rfl, v2, R2, G2, F2⟩
  have T2 : VAt w2 T 71 (pmC pm0) := G2.vat T1 HNT.out.1
  have U2 : VAt w2 U 71 (pmC pm0) := G2.vat U1 HNT.out.2
  have HN2 : Hid (¬ ft g v2 T ∧ ¬ ft g v2 U) := ⟨fun e => HNT.out.1 (F2 T (VAt.lt T1) e), fun e => HNT.out.2 (F2 U (VAt.lt U1) e)⟩
  have HF2 : Hid (∀ x, x < w1.heap.size → ft g v2 x → ft g v x) := F2
  have HG2 : Hid (GB w w2 (ft g v)) := HG1.out.trans G2 (fun _ _ h => h)
  have HS2 : Hid (w1.heap.size ≤ w2.heap.size) := G2.size
  clear CT T1 U1 G2 F2
  go_upto_region 2 with (refine wpList_store_row rfl 71 (.tmp 4) (.tmp 6) rfl w2.heap.size (pmC q) rfl rfl 71 _ (VAt.alloc w2 _ _) (HPS _) rfl (part_all _) ?_)
  rw [World.setRow_alloc_new]
  have A3 := (QB.alloc w2 q).vat
  have K3 := World.grownBy_alloc w2 (.cells (pmC q) 71) none
  have R3 := R2.keep K3
  have T3 := T2.kept K3
  have U3 := U2.kept K3
  have HNB : Hid (¬ ft g v2 w2.heap.size) := R2.not (Nat.le_refl _)
  have HG3 : Hid (GB w (w2.alloc (.cells (pmC q) 71)) (ft g v)) := HG2.out.trans (GB.non (S := ft g v) K3) (fun _ _ h => h)
  have HBT : Hid (w2.heap.size ≠ T ∧ w2.heap.size ≠ U ∧ T ≠ U) := ⟨fun e => by have := T2.lt; omega, fun e => by have := U2.lt; omega, by omega⟩
  clear T2 U2 R2 HG1 HG2 K3
  generalize w2.alloc (.cells (pmC q) 71) = w3 at *
  generalize w2.heap.size = Bb at *
  have CT := take_any14 w0 s a ca g v2 st p w3.drew (R3.keep (grown_drewN w3 1 none))
  have HA3 : Hid (VAt w3.drew Bb 71 (pmC q)) := A3.kept (grown_drewN w3 1 none)
  have HT3 : Hid (VAt w3.drew T 71 (pmC pm0)) := T3.kept (grown_drewN w3 1 none)
  have HU3 : Hid (VAt w3.drew U 71 (pmC pm0)) := U3.kept (grown_drewN w3 1 none)
  have HG4 : Hid (GB w w3.drew (ft g v)) := HG3.out.trans (GB.non (S := ft g v) (grown_drewN w3 1 none)) (fun _ _ h => h)
  clear A3 T3 U3 R3 HG3
  refine wp_region_held_drew (S := fun W => VAt W Bb 71 (pmC q)) (by kernel_rfl) (HA3.out) (fun hHeld => ?_)
  refine wpAnyH_take (i := 0) (v := .pointer (some ⟨g, 0, none⟩)) rfl (by kernel_rfl) (by kernel_rfl) (by kernel_rfl) (fun _ _ _ h => h) (Or.inl ⟨by rfl, fun W hW => ?_⟩) hHeld ?_
  · clear hW
    go_simp
  try simp only [Act.put, List.getElem_toArray, List.getElem_cons_zero, List.setIfInBounds_toArray, List.set_cons_zero, List.set_cons_succ]
  refine wpAnyH_take (i := 2) (v := .agg (pmC q)) rfl (by kernel_rfl) (by kernel_rfl) (by kernel_rfl) (fun _ _ _ h => h) (yieldsIf_load_row (by rfl) _ _ rfl Bb rfl 71 (pmC q) _ (fun W hW => hW) Tryz.underlying71 rfl (HPS _)) hHeld ?_
  try simp only [Act.put, List.getElem_toArray, List.getElem_cons_zero, List.getElem_cons_succ, List.setIfInBounds_toArray, List.set_cons_zero, List.set_cons_succ]
  refine wpAnyH_ready (rs := [1]) (by kernel_rfl) (by simp) (AllReadyH.cons rfl (fun K hK => ?_) AllReadyH.nil)
  go_simp
  refine CT.mono ?_
  rintro e w5 ⟨rfl, L5⟩
  have A5 := L5.vat HA3.out HNB.out
  have T5 := L5.vat HT3.out HN2.out.1
  have U5 := L5.vat HU3.out HN2.out.2
  go_wp2_with fail
  refine hK.out _ _ A5 (fun hHeld => ?_)
  clear hK K
  try simp only [Act.put, List.getElem_toArray, List.getElem_cons_zero, List.getElem_cons_succ, List.setIfInBounds_toArray, List.set_cons_zero, List.set_cons_succ]
  refine wpAnyH_ready (rs := [3]) (by kernel_rfl) (by simp) (AllReadyH.cons rfl (fun K hK => ?_) AllReadyH.nil)
  refine step_store_rowM (by rfl) 71 (.tmp 2) (.tmp 8) (by rfl) T (pmC p) (by rfl) (by rfl) 71 _ T5 (HPS _) rfl (part_all _) ?_
  refine hK.out _ _ (VAt.other hHeld _ HBT.out.1) (fun hHeld => ?_)
  clear hK K
  try simp only [Act.put]
  have U6 := VAt.other U5 (pmC p) (Ne.symm HBT.out.2.2)
  have T6 := T5.setRow (pmC p)
  refine wpAnyH_ready (rs := [4]) (by kernel_rfl) (by simp) (AllReadyH.cons rfl (fun K hK => ?_) AllReadyH.nil)
  refine step_store_rowM (by rfl) 71 (.tmp 3) (.tmp 9) (by rfl) U (pmC q) (by rfl) (by rfl) 71 _ U6 (HPS _) rfl (part_all _) ?_
  refine hK.out _ _ (VAt.other hHeld _ HBT.out.2.1) (fun hHeld => ?_)
  clear hK K
  try simp only [Act.put]
  refine wpAnyH_done (by kernel_rfl) ?_ _

  have U7 := U6.setRow (pmC q)
  have T7 := VAt.other T6 (pmC q) HBT.out.2.2
  have HL : Hid (Lft w0 w g s a ca v st ((w5.setRow T (pmC p)).setRow U (pmC q))) := by
    obtain ⟨v5, R5, G5, F5⟩ := L5
    have hT0 := HW0.out.1
    have nT : ¬ ft g v5 T := fun e => HN2.out.1 (F5 T HT3.out.lt e)
    have nU : ¬ ft g v5 U := fun e => HN2.out.2 (F5 U HU3.out.lt e)
    have k1 : w5.grownBy (w5.setRow T (pmC p)) (some T) := vgrown_setRow (World.grownBy.refl _ _) T _ (.inl rfl)
    have k2 : (w5.setRow T (pmC p)).grownBy ((w5.setRow T (pmC p)).setRow U (pmC q)) (some U) := vgrown_setRow (World.grownBy.refl _ _) U _ (.inl rfl)
    have R6 := R5.away k1 nT hT0
    have R7 := R6.away k2 nU (by omega)
    have hsz := HG4.out.size
    have f3 : ∀ x, x < w.heap.size → ft g v2 x → ft g v x := fun x hx e => HF2.out x (by have := HW0.out.2; omega) e
    refine ⟨v5, R7, ((HG4.out.trans G5 f3).trans (GB.of k1 (S := fun x => x = T) (fun x hx => by cases hx; rfl)) (fun x hx e => by omega)).trans (GB.of k2 (S := fun x => x = U) (fun x hx => by cases hx; rfl)) (fun x hx e => by omega), fun x hx e => f3 x hx (F5 x (by omega) e)⟩
  clear hHeld L5 T5 U5 A5 U6 T6
  generalize (w5.setRow T (pmC p)).setRow U (pmC q) = w7 at *
  go_wp2
  refine bodyPost_ret (ret_rows rfl _ _ T U (pmC p) (pmC q) _ _ rfl rfl T7 U7 Tryz.underlying71 rfl (HPS _) Tryz.underlying71 rfl (HPS _)) rfl ?_
  exact ⟨rfl, HL.out⟩

end Go.Proofs.YtblpmgkagbiogaaGreat
