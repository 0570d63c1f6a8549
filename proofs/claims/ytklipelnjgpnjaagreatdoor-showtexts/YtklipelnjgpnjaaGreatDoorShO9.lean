import Derived.Test.YtklipelnjgpnjaaGreatDoorAb
import Derived.Test.YtklipelnjgpnjaaGreatDoorLotP20
import Derived.Test.YtklipelnjgpnjaaGreatDoorLotP30
namespace Go.Proofs.YtklipelnjgpnjaaGreatDoor
open Go.RowKit
set_option maxRecDepth 100000
theorem step_store_rowX {P : Program} {ops : Array Oper} {o : Oper} {a : Act} {w : World} {K : Act → World → Prop} {Q : Exit → Act → World → Prop} {E : Prop}
  (hgd : o.guard = none) (ty : TypeId) (x y : Operand) (ho : o.op = .store ty x y) (g : Nat) (cells : Array Value) (hx : a.eval x = .pointer (some ⟨g, 0, none⟩)) (hy : a.eval y = .agg cells) (t : TypeId) (old : Array Value) (A : VAt w g t old)
  (hi : (P.info? ty).map (·.size) = some cells.size) (hold : old.size = cells.size) (h1 : cells.all (·.oneCell') = true) (hK : K (a.put o.dst undef) (w.setRow g cells)) :
  if Region.wanted o (yielded ops a.tmps) = true then Oper.wp P o a w K Q else E := step_store_rowT hgd ty x y ho g cells hx hy t old A hi hold h1 hK
theorem OW.setRow {w W : World} {B V : Nat} {x : Ng} {Y : Array Value} (h : OW w W B x) (hV : B + 1 < V) : OW w (W.setRow V Y) B x := by
 have hb := h.base
 exact ⟨vat_setRow h.nb (by omega), vat_setRow h.res (by omega), vgrown_setRow h.up V _ (.inr (by omega)), h.base⟩
theorem OW.lt {w W : World} {B : Nat} {x : Ng} (h : OW w W B x) : B + 1 < W.heap.size := by
 have := h.res
 unfold VAt at this
 exact (Array.getElem?_eq_some_iff.1 this).1
set_option maxRecDepth 100000 in
set_option maxHeartbeats 16000000 in
theorem over_not (x : Ng) (p : Tx) (ao : Option Addr) (cap : Nat) (full : Bool) (w : World) (C : CV w ao (flatX [p])) (hk : x.kind = 9) (hl : p.s.length ≤ 1099511627000) (hd : p.deep ≤ 1099511627000) :
  Calls Tryz.prog 23 #[.agg x.cells.toArray, .slice ao 1 cap, .bool full] w fun e w' => e = .returned (.agg (overX x [p] full).cells.toArray) ∧ w.grownBy w' none := by
 have HC : Hid (CV w ao (flatX [p])) := C
 have hrow : rowG x = 3 := by unfold rowG; rw [hk]; rfl
 have HE : Hid (overX x [p] full = ⟨[110, 111, 116, 32] ++ (putX p (wantT full p.row 3)).s, 3, (putX p (wantT full p.row 3)).deep + 1⟩) := by
  unfold Hid overX
  rw [hrow, hk]
  rfl
 have HBX := box_ng x
 have h1 := OW.alloc w x
 have HZ : Hid ((Tryz.prog.info? 43).map (·.size) = some x.cells.toArray.size) := ng_size x
 have CR := row13_any x
 rw [hrow] at CR
 have HK : Hid (x.kind = 9) := hk
 obtain ⟨X, hX⟩ : ∃ X, x.cells.toArray = X := ⟨_, rfl⟩
 rw [hX] at HBX CR HZ ⊢
 go_enter Tryz.func23, Tryz.ntmps23
 go_upto_region 1 with fail
 rw [hX] at h1
 generalize (w.alloc (.cells X 43)).alloc (.cells #[.string ⟨#[]⟩, .int .i64 0, .int .i64 0] 47) = w1 at *
 generalize w.heap.size = B at *
 have HV : VAt w1 B 43 X := hX ▸ h1.nb
 clear HBX hX C hrow
 go_wp2_with (refine wpList_load_row rfl 43 (.tmp 3) rfl B rfl 43 X (0, 0) _ HV Tryz.underlying43 rfl HZ.out ?_)
 refine (CR _).mono ?_
 rintro e w2 ⟨rfl, K2⟩
 have HO2 : Hid (OW w w2 B x) := h1.kept K2
 have k0 := HO2.out.nb.kind
 rw [hk] at k0
 obtain ⟨b, off, rfl, -⟩ := CV.txs HC.out (k := 0) (by simp)
 obtain ⟨pr, hpr⟩ : ∃ pr, p.row = pr := ⟨_, rfl⟩
 rw [hpr] at HE
 have HRW : Hid (∀ W, OW w W B x → W.cell? ⟨b, off + 1, none⟩ = some (.int .i64 pr)) := fun W hW => by
  have := (tx_cell HC.out hW.up (i := 0) (by simp)).2.1
  rw [← hpr]
  simpa using this
 have HRG : Hid (∀ W, OW w W B x → W.rangeAt b off p.cells) := fun W hW => by
  have := (tx_cell HC.out hW.up (i := 0) (by simp)).2.2.2
  simpa using this
 have HSZ : Hid ((Tryz.prog.info? 47).map (·.size) = some p.cells.length) := by unfold Hid; exact tx_size p
 have HCP : Hid (∀ (want : Bool) (W : World), Calls Tryz.prog 43 #[.agg p.cells.toArray, .bool want] W fun e w' => e = .returned (.agg (putX p want).cells.toArray) ∧ W.grownBy w' none) := fun want W => put13_any p want W (by omega) (by omega)
 have HPL : Hid (∀ want, (putX p want).s.length ≤ 1099511627002 ∧ (putX p want).deep ≤ 1099511627001) := fun want => by
  cases want with
  | true => exact ⟨by show ([40] ++ p.s ++ [41]).length ≤ _; simp; omega, by show p.deep + 1 ≤ _; omega⟩
  | false => exact ⟨by show p.s.length ≤ _; omega, by show p.deep ≤ _; omega⟩
 obtain ⟨cs, hcs⟩ : ∃ cs, p.cells = cs := ⟨_, rfl⟩
 rw [hcs] at HRG HSZ HCP
 clear CR h1 K2 HV hcs hpr hk HC hl hd
 obtain ⟨bb, hbb⟩ : ∃ bb, decide (pr < 3) = bb := ⟨_, rfl⟩
 go_upto_region 10 with fail
 clear k0
 have HD2 : OW w w2.drew B x := HO2.out.kept (grown_drewN w2 1 none)
 clear HO2
 cases full with
 | false =>
  have CP := HCP.out bb
  have hpl := HPL.out bb
  obtain ⟨q, hq⟩ : ∃ q, putX p bb = q := ⟨_, rfl⟩
  have HWW : Hid (putX p (wantT false pr 3) = q) := by
   unfold Hid wantT
   rw [hbb]
   exact hq
  rw [hq] at CP hpl
  have HYZ : Hid ((Tryz.prog.info? 47).map (·.size) = some q.cells.toArray.size ∧ 3 = q.cells.toArray.size ∧ q.cells.toArray.all (·.oneCell') = true) := ⟨tx_size _, rfl, tx_all _⟩
  obtain ⟨Y, hY⟩ : ∃ Y, q.cells.toArray = Y := ⟨_, rfl⟩
  have HYY : Hid (q.cells.toArray = Y) := hY
  rw [hY] at HYZ CP
  clear hY hq HCP HPL
  refine wp_region_held_drew (S := fun W => OW w W B x) (by kernel_rfl) HD2 (fun hHeld => ?_)
  clear HD2
  refine wpT (i := 0) (v := .slice (some ⟨b, off, none⟩) 1 cap) rfl (Or.inl ⟨by rfl, fun W hW => ?_⟩) hHeld ?_
  ·clear hW
   go_simp
  try simp only [Act.put, a0, a1, a3, a4, a5]
  refine wpT (i := 1) (v := .pointer (some ⟨b, off, none⟩)) rfl (Or.inl ⟨by rfl, fun W hW => ?_⟩) hHeld ?_
  ·clear hW
   go_simp
  try simp only [Act.put, a0, a1, a2, a3, a4, a5]
  refine wpT (i := 2) (v := .agg cs.toArray) rfl (yieldsIf_load_mid (by rfl) _ _ rfl _ _ rfl cs _ (fun W hW => HRG.out W hW) Tryz.underlying47 rfl HSZ.out) hHeld ?_
  try simp only [Act.put, a0, a1, a2, a3, a4, a5]
  refine wpT (i := 3) (v := .bool false) rfl (Or.inl ⟨by rfl, fun W hW => ?_⟩) hHeld ?_
  ·clear hW
   go_simp
  try simp only [Act.put, a0, a1, a2, a3, a4, a5]
  refine wpT (i := 4) (v := .bool false) rfl (Or.inl ⟨by rfl, fun W hW => ?_⟩) hHeld ?_
  ·clear hW
   go_simp
  try simp only [Act.put, a0, a1, a2, a3, a4, a5]
  refine wpT (i := 5) (v := undef) rfl (Or.inr ⟨by rfl, rfl⟩) hHeld ?_
  try simp only [Act.put, a0, a1, a2, a3, a4, a5]
  refine wpT (i := 6) (v := undef) rfl (Or.inr ⟨by rfl, rfl⟩) hHeld ?_
  try simp only [Act.put, a0, a1, a2, a3, a4, a5]
  refine wpT (i := 7) (v := undef) rfl (Or.inr ⟨by rfl, rfl⟩) hHeld ?_
  try simp only [Act.put, a0, a1, a2, a3, a4, a5]
  refine wpT (i := 8) (v := undef) rfl (Or.inr ⟨by rfl, rfl⟩) hHeld ?_
  try simp only [Act.put, a0, a1, a2, a3, a4, a5]
  refine wpT (i := 9) (v := undef) rfl (Or.inr ⟨by rfl, rfl⟩) hHeld ?_
  try simp only [Act.put, a0, a1, a2, a3, a4, a5]
  refine wpT (i := 10) (v := .bool false) rfl (Or.inl ⟨by rfl, fun W hW => ?_⟩) hHeld ?_
  ·clear hW
   go_simp
  try simp only [Act.put, a0, a1, a2, a3, a4, a5]
  refine wpT (i := 11) (v := .bool false) rfl (Or.inl ⟨by rfl, fun W hW => ?_⟩) hHeld ?_
  ·clear hW
   go_simp
  try simp only [Act.put, a0, a1, a2, a3, a4, a5]
  refine wpT (i := 12) (v := .slice (some ⟨b, off, none⟩) 1 cap) rfl (Or.inl ⟨by rfl, fun W hW => ?_⟩) hHeld ?_
  ·clear hW
   go_simp
  try simp only [Act.put, a0, a1, a2, a3, a4, a5]
  refine wpT (i := 13) (v := .pointer (some ⟨b, off, none⟩)) rfl (Or.inl ⟨by rfl, fun W hW => ?_⟩) hHeld ?_
  ·clear hW
   go_simp
  try simp only [Act.put, a0, a1, a2, a3, a4, a5]
  refine wpT (i := 14) (v := .pointer (some ⟨b, off + 1, none⟩)) rfl (Or.inl ⟨by rfl, fun W hW => ?_⟩) hHeld ?_
  ·clear hW
   go_simp
  try simp only [Act.put, a0, a1, a2, a3, a4, a5]
  refine wpT (i := 15) (v := .int .i64 pr) rfl (Or.inl ⟨by rfl, fun W hW => ?_⟩) hHeld ?_
  ·have e1 := HRW.out W hW
   clear hW
   go_simp
  try simp only [Act.put, a0, a1, a2, a3, a4, a5]
  refine wpT (i := 16) (v := .int .i64 3) rfl (Or.inl ⟨by rfl, fun W hW => ?_⟩) hHeld ?_
  ·clear hW
   go_simp
  try simp only [Act.put, a0, a1, a2, a3, a4, a5]
  refine wpT (i := 17) (v := .bool bb) rfl (Or.inl ⟨by rfl, fun W hW => ?_⟩) hHeld ?_
  ·clear hW
   go_simp
  try simp only [Act.put, a0, a1, a2, a3, a4, a5]
  refine wpT (i := 18) (v := .bool bb) rfl (Or.inl ⟨by rfl, fun W hW => ?_⟩) hHeld ?_
  ·clear hW
   go_simp
  try simp only [Act.put, a0, a1, a2, a3, a4, a5]
  refine wpR (rs := [19, 20]) (AllReadyH.cons rfl (fun K hK => ?_) (AllReadyH.cons rfl (fun K hK => ?_) AllReadyH.nil))
  ·go_simp
   refine (CP _).mono ?_
   rintro e w7 ⟨rfl, K7⟩
   go_wp2_with fail
   refine hK.out _ _ (hHeld.kept K7) (fun hHeld => ?_)
   clear hK K K7
   try simp only [Act.put, a0, a1, a2, a3, a4, a5]
   refine wpR (rs := [20]) (AllReadyH.cons rfl (fun K hK => ?_) AllReadyH.nil)
   refine step_alloc rfl 47 rfl #[.string ⟨#[]⟩, .int .i64 0, .int .i64 0] (fun W => by kernel_rfl) ?_
   intro V w8 V8 K8 hV8
   have HVL : Hid (B + 1 < V) := by have := hHeld.lt; show B + 1 < V; omega
   refine hK.out _ _ (hHeld.kept K8) (fun hHeld => ?_)
   clear hK K K8 hV8
   try simp only [Act.put, a0, a1, a2, a3, a4, a5]
   refine wpR (rs := [21]) (AllReadyH.cons rfl (fun K hK => ?_) AllReadyH.nil)
   refine step_store_rowX rfl 47 (.tmp 9) (.tmp 70) rfl V Y rfl rfl 47 _ V8 HYZ.out.1 HYZ.out.2.1 HYZ.out.2.2 ?_
   have HQ9 : Hid (OW w (w8.setRow V Y) B x ∧ VAt (w8.setRow V Y) V 47 Y) := ⟨hHeld.setRow HVL.out, VAt.setRow V8 _⟩
   refine hK.out _ _ HQ9.out.1 (fun hHeld => ?_)
   clear hK K V8 hHeld
   generalize w8.setRow V Y = w9 at *
   try simp only [Act.put, List.getElem_toArray, List.getElem_cons_zero, List.getElem_cons_succ]
   refine wpAnyH_done (by kernel_rfl) ?_ _
   have HQW : Hid (OW w w9 B x) := HQ9.out.1
   have v0 : w9.cell? ⟨V, 0, none⟩ = some (.string ⟨q.s.toArray⟩) := by rw [HQ9.out.2.cell 0, ← HYY.out]; rfl
   have v2 : w9.cell? ⟨V, 2, none⟩ = some (.int .i64 (q.deep : Int)) := by rw [HQ9.out.2.cell 2, ← HYY.out]; rfl
   have k0 := HQW.out.nb.kind
   rw [HK.out] at k0
   have r0 : w9.cell? ⟨B + 1, 0, none⟩ = some (.string ⟨#[]⟩) := HQW.out.res.cell 0
   have r1 : w9.cell? ⟨B + 1, 1, none⟩ = some (.int .i64 0) := HQW.out.res.cell 1
   have r2 : w9.cell? ⟨B + 1, 2, none⟩ = some (.int .i64 0) := HQW.out.res.cell 2
   have f0 := HQW.out.res.free 0
   have f1 := HQW.out.res.free 1
   have f2 := HQW.out.res.free 2
   have wd : IntKind.i64.wrap ((q.deep : Int) + 1) = (q.deep : Int) + 1 := by rw [IntKind.wrap_i64]; omega
   have q3 : ¬ (9223372036854775807 < 4 + q.s.length) := by omega
   have HP : Hid (VAt (((w9.setCell ⟨B + 1, 0, none⟩ (.string ((⟨#[110, 111, 116, 32]⟩ : ByteArray) ++ ⟨q.s.toArray⟩))).setCell ⟨B + 1, 1, none⟩ (.int .i64 3)).setCell ⟨B + 1, 2, none⟩ (.int .i64 ((q.deep : Int) + 1))) (B + 1) 47 (overX x [p] false).cells.toArray) := by
    have := tx_put HQW.out.res rfl (overX x [p] false)
    rw [HE.out, HWW.out] at this
    unfold Hid
    rw [HE.out, HWW.out]
    have e0 : Value.string ((⟨#[110, 111, 116, 32]⟩ : ByteArray) ++ ⟨q.s.toArray⟩) = str ([110, 111, 116, 32] ++ q.s) := by
     have := cat [110, 111, 116, 32] q.s
     unfold str
     rw [← this]
    rw [e0]
    exact this
   have HGF : Hid (w.grownBy (((w9.setCell ⟨B + 1, 0, none⟩ (.string ((⟨#[110, 111, 116, 32]⟩ : ByteArray) ++ ⟨q.s.toArray⟩))).setCell ⟨B + 1, 1, none⟩ (.int .i64 3)).setCell ⟨B + 1, 2, none⟩ (.int .i64 ((q.deep : Int) + 1))) none) := grown_three HQW.out.up (by have := HQW.out.base; omega) _ _ _
   have HZ2 : Hid ((Tryz.prog.info? 47).map (·.size) = some (overX x [p] false).cells.toArray.size) := tx_size _
   clear HQ9 HQW
   go_wp2
   refine bodyPost_ret (results_cell_row rfl _ _ (B + 1) 47 _ (0, 0) _ rfl HP.out Tryz.underlying47 rfl HZ2.out) rfl ?_
   exact ⟨rfl, HGF.out⟩
  ·refine step_alloc rfl 47 rfl #[.string ⟨#[]⟩, .int .i64 0, .int .i64 0] (fun W => by kernel_rfl) ?_
   intro V w7 V7 K7 hV8
   have HVL : Hid (B + 1 < V) := by have := hHeld.lt; show B + 1 < V; omega
   refine hK.out _ _ (hHeld.kept K7) (fun hHeld => ?_)
   clear hK K K7 hV8
   try simp only [Act.put, a0, a1, a2, a3, a4, a5]
   refine wpR (rs := [19]) (AllReadyH.cons rfl (fun K hK => ?_) AllReadyH.nil)
   go_simp
   refine (CP _).mono ?_
   rintro e w8 ⟨rfl, K8⟩
   have V8 := V7.kept K8
   go_wp2_with fail
   refine hK.out _ _ (hHeld.kept K8) (fun hHeld => ?_)
   clear hK K K8 V7
   try simp only [Act.put, a0, a1, a2, a3, a4, a5]
   refine wpR (rs := [21]) (AllReadyH.cons rfl (fun K hK => ?_) AllReadyH.nil)
   refine step_store_rowX rfl 47 (.tmp 9) (.tmp 70) rfl V Y rfl rfl 47 _ V8 HYZ.out.1 HYZ.out.2.1 HYZ.out.2.2 ?_
   have HQ9 : Hid (OW w (w8.setRow V Y) B x ∧ VAt (w8.setRow V Y) V 47 Y) := ⟨hHeld.setRow HVL.out, VAt.setRow V8 _⟩
   refine hK.out _ _ HQ9.out.1 (fun hHeld => ?_)
   clear hK K V8 hHeld
   generalize w8.setRow V Y = w9 at *
   try simp only [Act.put, List.getElem_toArray, List.getElem_cons_zero, List.getElem_cons_succ]
   refine wpAnyH_done (by kernel_rfl) ?_ _
   have HQW : Hid (OW w w9 B x) := HQ9.out.1
   have v0 : w9.cell? ⟨V, 0, none⟩ = some (.string ⟨q.s.toArray⟩) := by rw [HQ9.out.2.cell 0, ← HYY.out]; rfl
   have v2 : w9.cell? ⟨V, 2, none⟩ = some (.int .i64 (q.deep : Int)) := by rw [HQ9.out.2.cell 2, ← HYY.out]; rfl
   have k0 := HQW.out.nb.kind
   rw [HK.out] at k0
   have r0 : w9.cell? ⟨B + 1, 0, none⟩ = some (.string ⟨#[]⟩) := HQW.out.res.cell 0
   have r1 : w9.cell? ⟨B + 1, 1, none⟩ = some (.int .i64 0) := HQW.out.res.cell 1
   have r2 : w9.cell? ⟨B + 1, 2, none⟩ = some (.int .i64 0) := HQW.out.res.cell 2
   have f0 := HQW.out.res.free 0
   have f1 := HQW.out.res.free 1
   have f2 := HQW.out.res.free 2
   have wd : IntKind.i64.wrap ((q.deep : Int) + 1) = (q.deep : Int) + 1 := by rw [IntKind.wrap_i64]; omega
   have q3 : ¬ (9223372036854775807 < 4 + q.s.length) := by omega
   have HP : Hid (VAt (((w9.setCell ⟨B + 1, 0, none⟩ (.string ((⟨#[110, 111, 116, 32]⟩ : ByteArray) ++ ⟨q.s.toArray⟩))).setCell ⟨B + 1, 1, none⟩ (.int .i64 3)).setCell ⟨B + 1, 2, none⟩ (.int .i64 ((q.deep : Int) + 1))) (B + 1) 47 (overX x [p] false).cells.toArray) := by
    have := tx_put HQW.out.res rfl (overX x [p] false)
    rw [HE.out, HWW.out] at this
    unfold Hid
    rw [HE.out, HWW.out]
    have e0 : Value.string ((⟨#[110, 111, 116, 32]⟩ : ByteArray) ++ ⟨q.s.toArray⟩) = str ([110, 111, 116, 32] ++ q.s) := by
     have := cat [110, 111, 116, 32] q.s
     unfold str
     rw [← this]
    rw [e0]
    exact this
   have HGF : Hid (w.grownBy (((w9.setCell ⟨B + 1, 0, none⟩ (.string ((⟨#[110, 111, 116, 32]⟩ : ByteArray) ++ ⟨q.s.toArray⟩))).setCell ⟨B + 1, 1, none⟩ (.int .i64 3)).setCell ⟨B + 1, 2, none⟩ (.int .i64 ((q.deep : Int) + 1))) none) := grown_three HQW.out.up (by have := HQW.out.base; omega) _ _ _
   have HZ2 : Hid ((Tryz.prog.info? 47).map (·.size) = some (overX x [p] false).cells.toArray.size) := tx_size _
   clear HQ9 HQW
   go_wp2
   refine bodyPost_ret (results_cell_row rfl _ _ (B + 1) 47 _ (0, 0) _ rfl HP.out Tryz.underlying47 rfl HZ2.out) rfl ?_
   exact ⟨rfl, HGF.out⟩
 | true =>
  cases hA : decide (pr < 12) with
  | true =>
   have CP := HCP.out true
   have hpl := HPL.out true
   obtain ⟨q, hq⟩ : ∃ q, putX p true = q := ⟨_, rfl⟩
   have HWW : Hid (putX p (wantT true pr 3) = q) := by
    unfold Hid wantT
    rw [hbb, hA]
    exact hq
   rw [hq] at CP hpl
   have HYZ : Hid ((Tryz.prog.info? 47).map (·.size) = some q.cells.toArray.size ∧ 3 = q.cells.toArray.size ∧ q.cells.toArray.all (·.oneCell') = true) := ⟨tx_size _, rfl, tx_all _⟩
   obtain ⟨Y, hY⟩ : ∃ Y, q.cells.toArray = Y := ⟨_, rfl⟩
   have HYY : Hid (q.cells.toArray = Y) := hY
   rw [hY] at HYZ CP
   clear hY hq HCP HPL
   refine wp_region_held_drew (S := fun W => OW w W B x) (by kernel_rfl) HD2 (fun hHeld => ?_)
   clear HD2
   refine wpT (i := 0) (v := .slice (some ⟨b, off, none⟩) 1 cap) rfl (Or.inl ⟨by rfl, fun W hW => ?_⟩) hHeld ?_
   ·clear hW
    go_simp
   try simp only [Act.put, a0, a1, a3, a4, a5]
   refine wpT (i := 1) (v := .pointer (some ⟨b, off, none⟩)) rfl (Or.inl ⟨by rfl, fun W hW => ?_⟩) hHeld ?_
   ·clear hW
    go_simp
   try simp only [Act.put, a0, a1, a2, a3, a4, a5]
   refine wpT (i := 2) (v := .agg cs.toArray) rfl (yieldsIf_load_mid (by rfl) _ _ rfl _ _ rfl cs _ (fun W hW => HRG.out W hW) Tryz.underlying47 rfl HSZ.out) hHeld ?_
   try simp only [Act.put, a0, a1, a2, a3, a4, a5]
   refine wpT (i := 3) (v := .bool true) rfl (Or.inl ⟨by rfl, fun W hW => ?_⟩) hHeld ?_
   ·clear hW
    go_simp
   try simp only [Act.put, a0, a1, a2, a3, a4, a5]
   refine wpT (i := 4) (v := .bool true) rfl (Or.inl ⟨by rfl, fun W hW => ?_⟩) hHeld ?_
   ·clear hW
    go_simp
   try simp only [Act.put, a0, a1, a2, a3, a4, a5]
   refine wpT (i := 5) (v := .slice (some ⟨b, off, none⟩) 1 cap) rfl (Or.inl ⟨by rfl, fun W hW => ?_⟩) hHeld ?_
   ·clear hW
    go_simp
   try simp only [Act.put, a0, a1, a2, a3, a4, a5]
   refine wpT (i := 6) (v := .pointer (some ⟨b, off, none⟩)) rfl (Or.inl ⟨by rfl, fun W hW => ?_⟩) hHeld ?_
   ·clear hW
    go_simp
   try simp only [Act.put, a0, a1, a2, a3, a4, a5]
   refine wpT (i := 7) (v := .pointer (some ⟨b, off + 1, none⟩)) rfl (Or.inl ⟨by rfl, fun W hW => ?_⟩) hHeld ?_
   ·clear hW
    go_simp
   try simp only [Act.put, a0, a1, a2, a3, a4, a5]
   refine wpT (i := 8) (v := .int .i64 pr) rfl (Or.inl ⟨by rfl, fun W hW => ?_⟩) hHeld ?_
   ·have e1 := HRW.out W hW
    clear hW
    go_simp
   try simp only [Act.put, a0, a1, a2, a3, a4, a5]
   refine wpT (i := 9) (v := .bool true) rfl (Or.inl ⟨by rfl, fun W hW => ?_⟩) hHeld ?_
   ·clear hW
    go_simp
   try simp only [Act.put, a0, a1, a2, a3, a4, a5]
   refine wpT (i := 10) (v := .bool true) rfl (Or.inl ⟨by rfl, fun W hW => ?_⟩) hHeld ?_
   ·clear hW
    go_simp
   try simp only [Act.put, a0, a1, a2, a3, a4, a5]
   refine wpT (i := 11) (v := .bool true) rfl (Or.inl ⟨by rfl, fun W hW => ?_⟩) hHeld ?_
   ·clear hW
    go_simp
   try simp only [Act.put, a0, a1, a2, a3, a4, a5]
   refine wpT (i := 12) (v := undef) rfl (Or.inr ⟨by rfl, rfl⟩) hHeld ?_
   try simp only [Act.put, a0, a1, a2, a3, a4, a5]
   refine wpT (i := 13) (v := undef) rfl (Or.inr ⟨by rfl, rfl⟩) hHeld ?_
   try simp only [Act.put, a0, a1, a2, a3, a4, a5]
   refine wpT (i := 14) (v := undef) rfl (Or.inr ⟨by rfl, rfl⟩) hHeld ?_
   try simp only [Act.put, a0, a1, a2, a3, a4, a5]
   refine wpT (i := 15) (v := undef) rfl (Or.inr ⟨by rfl, rfl⟩) hHeld ?_
   try simp only [Act.put, a0, a1, a2, a3, a4, a5]
   refine wpT (i := 16) (v := undef) rfl (Or.inr ⟨by rfl, rfl⟩) hHeld ?_
   try simp only [Act.put, a0, a1, a2, a3, a4, a5]
   refine wpT (i := 17) (v := undef) rfl (Or.inr ⟨by rfl, rfl⟩) hHeld ?_
   try simp only [Act.put, a0, a1, a2, a3, a4, a5]
   refine wpT (i := 18) (v := .bool true) rfl (Or.inl ⟨by rfl, fun W hW => ?_⟩) hHeld ?_
   ·clear hW
    go_simp
   try simp only [Act.put, a0, a1, a2, a3, a4, a5]
   refine wpR (rs := [19, 20]) (AllReadyH.cons rfl (fun K hK => ?_) (AllReadyH.cons rfl (fun K hK => ?_) AllReadyH.nil))
   ·go_simp
    refine (CP _).mono ?_
    rintro e w7 ⟨rfl, K7⟩
    go_wp2_with fail
    refine hK.out _ _ (hHeld.kept K7) (fun hHeld => ?_)
    clear hK K K7
    try simp only [Act.put, a0, a1, a2, a3, a4, a5]
    refine wpR (rs := [20]) (AllReadyH.cons rfl (fun K hK => ?_) AllReadyH.nil)
    refine step_alloc rfl 47 rfl #[.string ⟨#[]⟩, .int .i64 0, .int .i64 0] (fun W => by kernel_rfl) ?_
    intro V w8 V8 K8 hV8
    have HVL : Hid (B + 1 < V) := by have := hHeld.lt; show B + 1 < V; omega
    refine hK.out _ _ (hHeld.kept K8) (fun hHeld => ?_)
    clear hK K K8 hV8
    try simp only [Act.put, a0, a1, a2, a3, a4, a5]
    refine wpR (rs := [21]) (AllReadyH.cons rfl (fun K hK => ?_) AllReadyH.nil)
    refine step_store_rowX rfl 47 (.tmp 9) (.tmp 70) rfl V Y rfl rfl 47 _ V8 HYZ.out.1 HYZ.out.2.1 HYZ.out.2.2 ?_
    have HQ9 : Hid (OW w (w8.setRow V Y) B x ∧ VAt (w8.setRow V Y) V 47 Y) := ⟨hHeld.setRow HVL.out, VAt.setRow V8 _⟩
    refine hK.out _ _ HQ9.out.1 (fun hHeld => ?_)
    clear hK K V8 hHeld
    generalize w8.setRow V Y = w9 at *
    try simp only [Act.put, List.getElem_toArray, List.getElem_cons_zero, List.getElem_cons_succ]
    refine wpAnyH_done (by kernel_rfl) ?_ _
    have HQW : Hid (OW w w9 B x) := HQ9.out.1
    have v0 : w9.cell? ⟨V, 0, none⟩ = some (.string ⟨q.s.toArray⟩) := by rw [HQ9.out.2.cell 0, ← HYY.out]; rfl
    have v2 : w9.cell? ⟨V, 2, none⟩ = some (.int .i64 (q.deep : Int)) := by rw [HQ9.out.2.cell 2, ← HYY.out]; rfl
    have k0 := HQW.out.nb.kind
    rw [HK.out] at k0
    have r0 : w9.cell? ⟨B + 1, 0, none⟩ = some (.string ⟨#[]⟩) := HQW.out.res.cell 0
    have r1 : w9.cell? ⟨B + 1, 1, none⟩ = some (.int .i64 0) := HQW.out.res.cell 1
    have r2 : w9.cell? ⟨B + 1, 2, none⟩ = some (.int .i64 0) := HQW.out.res.cell 2
    have f0 := HQW.out.res.free 0
    have f1 := HQW.out.res.free 1
    have f2 := HQW.out.res.free 2
    have wd : IntKind.i64.wrap ((q.deep : Int) + 1) = (q.deep : Int) + 1 := by rw [IntKind.wrap_i64]; omega
    have q3 : ¬ (9223372036854775807 < 4 + q.s.length) := by omega
    have HP : Hid (VAt (((w9.setCell ⟨B + 1, 0, none⟩ (.string ((⟨#[110, 111, 116, 32]⟩ : ByteArray) ++ ⟨q.s.toArray⟩))).setCell ⟨B + 1, 1, none⟩ (.int .i64 3)).setCell ⟨B + 1, 2, none⟩ (.int .i64 ((q.deep : Int) + 1))) (B + 1) 47 (overX x [p] true).cells.toArray) := by
     have := tx_put HQW.out.res rfl (overX x [p] true)
     rw [HE.out, HWW.out] at this
     unfold Hid
     rw [HE.out, HWW.out]
     have e0 : Value.string ((⟨#[110, 111, 116, 32]⟩ : ByteArray) ++ ⟨q.s.toArray⟩) = str ([110, 111, 116, 32] ++ q.s) := by
      have := cat [110, 111, 116, 32] q.s
      unfold str
      rw [← this]
     rw [e0]
     exact this
    have HGF : Hid (w.grownBy (((w9.setCell ⟨B + 1, 0, none⟩ (.string ((⟨#[110, 111, 116, 32]⟩ : ByteArray) ++ ⟨q.s.toArray⟩))).setCell ⟨B + 1, 1, none⟩ (.int .i64 3)).setCell ⟨B + 1, 2, none⟩ (.int .i64 ((q.deep : Int) + 1))) none) := grown_three HQW.out.up (by have := HQW.out.base; omega) _ _ _
    have HZ2 : Hid ((Tryz.prog.info? 47).map (·.size) = some (overX x [p] true).cells.toArray.size) := tx_size _
    clear HQ9 HQW
    go_wp2
    refine bodyPost_ret (results_cell_row rfl _ _ (B + 1) 47 _ (0, 0) _ rfl HP.out Tryz.underlying47 rfl HZ2.out) rfl ?_
    exact ⟨rfl, HGF.out⟩
   ·refine step_alloc rfl 47 rfl #[.string ⟨#[]⟩, .int .i64 0, .int .i64 0] (fun W => by kernel_rfl) ?_
    intro V w7 V7 K7 hV8
    have HVL : Hid (B + 1 < V) := by have := hHeld.lt; show B + 1 < V; omega
    refine hK.out _ _ (hHeld.kept K7) (fun hHeld => ?_)
    clear hK K K7 hV8
    try simp only [Act.put, a0, a1, a2, a3, a4, a5]
    refine wpR (rs := [19]) (AllReadyH.cons rfl (fun K hK => ?_) AllReadyH.nil)
    go_simp
    refine (CP _).mono ?_
    rintro e w8 ⟨rfl, K8⟩
    have V8 := V7.kept K8
    go_wp2_with fail
    refine hK.out _ _ (hHeld.kept K8) (fun hHeld => ?_)
    clear hK K K8 V7
    try simp only [Act.put, a0, a1, a2, a3, a4, a5]
    refine wpR (rs := [21]) (AllReadyH.cons rfl (fun K hK => ?_) AllReadyH.nil)
    refine step_store_rowX rfl 47 (.tmp 9) (.tmp 70) rfl V Y rfl rfl 47 _ V8 HYZ.out.1 HYZ.out.2.1 HYZ.out.2.2 ?_
    have HQ9 : Hid (OW w (w8.setRow V Y) B x ∧ VAt (w8.setRow V Y) V 47 Y) := ⟨hHeld.setRow HVL.out, VAt.setRow V8 _⟩
    refine hK.out _ _ HQ9.out.1 (fun hHeld => ?_)
    clear hK K V8 hHeld
    generalize w8.setRow V Y = w9 at *
    try simp only [Act.put, List.getElem_toArray, List.getElem_cons_zero, List.getElem_cons_succ]
    refine wpAnyH_done (by kernel_rfl) ?_ _
    have HQW : Hid (OW w w9 B x) := HQ9.out.1
    have v0 : w9.cell? ⟨V, 0, none⟩ = some (.string ⟨q.s.toArray⟩) := by rw [HQ9.out.2.cell 0, ← HYY.out]; rfl
    have v2 : w9.cell? ⟨V, 2, none⟩ = some (.int .i64 (q.deep : Int)) := by rw [HQ9.out.2.cell 2, ← HYY.out]; rfl
    have k0 := HQW.out.nb.kind
    rw [HK.out] at k0
    have r0 : w9.cell? ⟨B + 1, 0, none⟩ = some (.string ⟨#[]⟩) := HQW.out.res.cell 0
    have r1 : w9.cell? ⟨B + 1, 1, none⟩ = some (.int .i64 0) := HQW.out.res.cell 1
    have r2 : w9.cell? ⟨B + 1, 2, none⟩ = some (.int .i64 0) := HQW.out.res.cell 2
    have f0 := HQW.out.res.free 0
    have f1 := HQW.out.res.free 1
    have f2 := HQW.out.res.free 2
    have wd : IntKind.i64.wrap ((q.deep : Int) + 1) = (q.deep : Int) + 1 := by rw [IntKind.wrap_i64]; omega
    have q3 : ¬ (9223372036854775807 < 4 + q.s.length) := by omega
    have HP : Hid (VAt (((w9.setCell ⟨B + 1, 0, none⟩ (.string ((⟨#[110, 111, 116, 32]⟩ : ByteArray) ++ ⟨q.s.toArray⟩))).setCell ⟨B + 1, 1, none⟩ (.int .i64 3)).setCell ⟨B + 1, 2, none⟩ (.int .i64 ((q.deep : Int) + 1))) (B + 1) 47 (overX x [p] true).cells.toArray) := by
     have := tx_put HQW.out.res rfl (overX x [p] true)
     rw [HE.out, HWW.out] at this
     unfold Hid
     rw [HE.out, HWW.out]
     have e0 : Value.string ((⟨#[110, 111, 116, 32]⟩ : ByteArray) ++ ⟨q.s.toArray⟩) = str ([110, 111, 116, 32] ++ q.s) := by
      have := cat [110, 111, 116, 32] q.s
      unfold str
      rw [← this]
     rw [e0]
     exact this
    have HGF : Hid (w.grownBy (((w9.setCell ⟨B + 1, 0, none⟩ (.string ((⟨#[110, 111, 116, 32]⟩ : ByteArray) ++ ⟨q.s.toArray⟩))).setCell ⟨B + 1, 1, none⟩ (.int .i64 3)).setCell ⟨B + 1, 2, none⟩ (.int .i64 ((q.deep : Int) + 1))) none) := grown_three HQW.out.up (by have := HQW.out.base; omega) _ _ _
    have HZ2 : Hid ((Tryz.prog.info? 47).map (·.size) = some (overX x [p] true).cells.toArray.size) := tx_size _
    clear HQ9 HQW
    go_wp2
    refine bodyPost_ret (results_cell_row rfl _ _ (B + 1) 47 _ (0, 0) _ rfl HP.out Tryz.underlying47 rfl HZ2.out) rfl ?_
    exact ⟨rfl, HGF.out⟩
  | false =>
   have CP := HCP.out bb
   have hpl := HPL.out bb
   obtain ⟨q, hq⟩ : ∃ q, putX p bb = q := ⟨_, rfl⟩
   have HWW : Hid (putX p (wantT true pr 3) = q) := by
    unfold Hid wantT
    rw [hbb, hA]
    exact hq
   rw [hq] at CP hpl
   have HYZ : Hid ((Tryz.prog.info? 47).map (·.size) = some q.cells.toArray.size ∧ 3 = q.cells.toArray.size ∧ q.cells.toArray.all (·.oneCell') = true) := ⟨tx_size _, rfl, tx_all _⟩
   obtain ⟨Y, hY⟩ : ∃ Y, q.cells.toArray = Y := ⟨_, rfl⟩
   have HYY : Hid (q.cells.toArray = Y) := hY
   rw [hY] at HYZ CP
   clear hY hq HCP HPL
   refine wp_region_held_drew (S := fun W => OW w W B x) (by kernel_rfl) HD2 (fun hHeld => ?_)
   clear HD2
   refine wpT (i := 0) (v := .slice (some ⟨b, off, none⟩) 1 cap) rfl (Or.inl ⟨by rfl, fun W hW => ?_⟩) hHeld ?_
   ·clear hW
    go_simp
   try simp only [Act.put, a0, a1, a3, a4, a5]
   refine wpT (i := 1) (v := .pointer (some ⟨b, off, none⟩)) rfl (Or.inl ⟨by rfl, fun W hW => ?_⟩) hHeld ?_
   ·clear hW
    go_simp
   try simp only [Act.put, a0, a1, a2, a3, a4, a5]
   refine wpT (i := 2) (v := .agg cs.toArray) rfl (yieldsIf_load_mid (by rfl) _ _ rfl _ _ rfl cs _ (fun W hW => HRG.out W hW) Tryz.underlying47 rfl HSZ.out) hHeld ?_
   try simp only [Act.put, a0, a1, a2, a3, a4, a5]
   refine wpT (i := 3) (v := .bool true) rfl (Or.inl ⟨by rfl, fun W hW => ?_⟩) hHeld ?_
   ·clear hW
    go_simp
   try simp only [Act.put, a0, a1, a2, a3, a4, a5]
   refine wpT (i := 4) (v := .bool true) rfl (Or.inl ⟨by rfl, fun W hW => ?_⟩) hHeld ?_
   ·clear hW
    go_simp
   try simp only [Act.put, a0, a1, a2, a3, a4, a5]
   refine wpT (i := 5) (v := .slice (some ⟨b, off, none⟩) 1 cap) rfl (Or.inl ⟨by rfl, fun W hW => ?_⟩) hHeld ?_
   ·clear hW
    go_simp
   try simp only [Act.put, a0, a1, a2, a3, a4, a5]
   refine wpT (i := 6) (v := .pointer (some ⟨b, off, none⟩)) rfl (Or.inl ⟨by rfl, fun W hW => ?_⟩) hHeld ?_
   ·clear hW
    go_simp
   try simp only [Act.put, a0, a1, a2, a3, a4, a5]
   refine wpT (i := 7) (v := .pointer (some ⟨b, off + 1, none⟩)) rfl (Or.inl ⟨by rfl, fun W hW => ?_⟩) hHeld ?_
   ·clear hW
    go_simp
   try simp only [Act.put, a0, a1, a2, a3, a4, a5]
   refine wpT (i := 8) (v := .int .i64 pr) rfl (Or.inl ⟨by rfl, fun W hW => ?_⟩) hHeld ?_
   ·have e1 := HRW.out W hW
    clear hW
    go_simp
   try simp only [Act.put, a0, a1, a2, a3, a4, a5]
   refine wpT (i := 9) (v := .bool false) rfl (Or.inl ⟨by rfl, fun W hW => ?_⟩) hHeld ?_
   ·clear hW
    go_simp
   try simp only [Act.put, a0, a1, a2, a3, a4, a5]
   refine wpT (i := 10) (v := .bool false) rfl (Or.inl ⟨by rfl, fun W hW => ?_⟩) hHeld ?_
   ·clear hW
    go_simp
   try simp only [Act.put, a0, a1, a2, a3, a4, a5]
   refine wpT (i := 11) (v := .bool false) rfl (Or.inl ⟨by rfl, fun W hW => ?_⟩) hHeld ?_
   ·clear hW
    go_simp
   try simp only [Act.put, a0, a1, a2, a3, a4, a5]
   refine wpT (i := 12) (v := .slice (some ⟨b, off, none⟩) 1 cap) rfl (Or.inl ⟨by rfl, fun W hW => ?_⟩) hHeld ?_
   ·clear hW
    go_simp
   try simp only [Act.put, a0, a1, a2, a3, a4, a5]
   refine wpT (i := 13) (v := .pointer (some ⟨b, off, none⟩)) rfl (Or.inl ⟨by rfl, fun W hW => ?_⟩) hHeld ?_
   ·clear hW
    go_simp
   try simp only [Act.put, a0, a1, a2, a3, a4, a5]
   refine wpT (i := 14) (v := .pointer (some ⟨b, off + 1, none⟩)) rfl (Or.inl ⟨by rfl, fun W hW => ?_⟩) hHeld ?_
   ·clear hW
    go_simp
   try simp only [Act.put, a0, a1, a2, a3, a4, a5]
   refine wpT (i := 15) (v := .int .i64 pr) rfl (Or.inl ⟨by rfl, fun W hW => ?_⟩) hHeld ?_
   ·have e1 := HRW.out W hW
    clear hW
    go_simp
   try simp only [Act.put, a0, a1, a2, a3, a4, a5]
   refine wpT (i := 16) (v := .int .i64 3) rfl (Or.inl ⟨by rfl, fun W hW => ?_⟩) hHeld ?_
   ·clear hW
    go_simp
   try simp only [Act.put, a0, a1, a2, a3, a4, a5]
   refine wpT (i := 17) (v := .bool bb) rfl (Or.inl ⟨by rfl, fun W hW => ?_⟩) hHeld ?_
   ·clear hW
    go_simp
   try simp only [Act.put, a0, a1, a2, a3, a4, a5]
   refine wpT (i := 18) (v := .bool bb) rfl (Or.inl ⟨by rfl, fun W hW => ?_⟩) hHeld ?_
   ·clear hW
    go_simp
   try simp only [Act.put, a0, a1, a2, a3, a4, a5]
   refine wpR (rs := [19, 20]) (AllReadyH.cons rfl (fun K hK => ?_) (AllReadyH.cons rfl (fun K hK => ?_) AllReadyH.nil))
   ·go_simp
    refine (CP _).mono ?_
    rintro e w7 ⟨rfl, K7⟩
    go_wp2_with fail
    refine hK.out _ _ (hHeld.kept K7) (fun hHeld => ?_)
    clear hK K K7
    try simp only [Act.put, a0, a1, a2, a3, a4, a5]
    refine wpR (rs := [20]) (AllReadyH.cons rfl (fun K hK => ?_) AllReadyH.nil)
    refine step_alloc rfl 47 rfl #[.string ⟨#[]⟩, .int .i64 0, .int .i64 0] (fun W => by kernel_rfl) ?_
    intro V w8 V8 K8 hV8
    have HVL : Hid (B + 1 < V) := by have := hHeld.lt; show B + 1 < V; omega
    refine hK.out _ _ (hHeld.kept K8) (fun hHeld => ?_)
    clear hK K K8 hV8
    try simp only [Act.put, a0, a1, a2, a3, a4, a5]
    refine wpR (rs := [21]) (AllReadyH.cons rfl (fun K hK => ?_) AllReadyH.nil)
    refine step_store_rowX rfl 47 (.tmp 9) (.tmp 70) rfl V Y rfl rfl 47 _ V8 HYZ.out.1 HYZ.out.2.1 HYZ.out.2.2 ?_
    have HQ9 : Hid (OW w (w8.setRow V Y) B x ∧ VAt (w8.setRow V Y) V 47 Y) := ⟨hHeld.setRow HVL.out, VAt.setRow V8 _⟩
    refine hK.out _ _ HQ9.out.1 (fun hHeld => ?_)
    clear hK K V8 hHeld
    generalize w8.setRow V Y = w9 at *
    try simp only [Act.put, List.getElem_toArray, List.getElem_cons_zero, List.getElem_cons_succ]
    refine wpAnyH_done (by kernel_rfl) ?_ _
    have HQW : Hid (OW w w9 B x) := HQ9.out.1
    have v0 : w9.cell? ⟨V, 0, none⟩ = some (.string ⟨q.s.toArray⟩) := by rw [HQ9.out.2.cell 0, ← HYY.out]; rfl
    have v2 : w9.cell? ⟨V, 2, none⟩ = some (.int .i64 (q.deep : Int)) := by rw [HQ9.out.2.cell 2, ← HYY.out]; rfl
    have k0 := HQW.out.nb.kind
    rw [HK.out] at k0
    have r0 : w9.cell? ⟨B + 1, 0, none⟩ = some (.string ⟨#[]⟩) := HQW.out.res.cell 0
    have r1 : w9.cell? ⟨B + 1, 1, none⟩ = some (.int .i64 0) := HQW.out.res.cell 1
    have r2 : w9.cell? ⟨B + 1, 2, none⟩ = some (.int .i64 0) := HQW.out.res.cell 2
    have f0 := HQW.out.res.free 0
    have f1 := HQW.out.res.free 1
    have f2 := HQW.out.res.free 2
    have wd : IntKind.i64.wrap ((q.deep : Int) + 1) = (q.deep : Int) + 1 := by rw [IntKind.wrap_i64]; omega
    have q3 : ¬ (9223372036854775807 < 4 + q.s.length) := by omega
    have HP : Hid (VAt (((w9.setCell ⟨B + 1, 0, none⟩ (.string ((⟨#[110, 111, 116, 32]⟩ : ByteArray) ++ ⟨q.s.toArray⟩))).setCell ⟨B + 1, 1, none⟩ (.int .i64 3)).setCell ⟨B + 1, 2, none⟩ (.int .i64 ((q.deep : Int) + 1))) (B + 1) 47 (overX x [p] true).cells.toArray) := by
     have := tx_put HQW.out.res rfl (overX x [p] true)
     rw [HE.out, HWW.out] at this
     unfold Hid
     rw [HE.out, HWW.out]
     have e0 : Value.string ((⟨#[110, 111, 116, 32]⟩ : ByteArray) ++ ⟨q.s.toArray⟩) = str ([110, 111, 116, 32] ++ q.s) := by
      have := cat [110, 111, 116, 32] q.s
      unfold str
      rw [← this]
     rw [e0]
     exact this
    have HGF : Hid (w.grownBy (((w9.setCell ⟨B + 1, 0, none⟩ (.string ((⟨#[110, 111, 116, 32]⟩ : ByteArray) ++ ⟨q.s.toArray⟩))).setCell ⟨B + 1, 1, none⟩ (.int .i64 3)).setCell ⟨B + 1, 2, none⟩ (.int .i64 ((q.deep : Int) + 1))) none) := grown_three HQW.out.up (by have := HQW.out.base; omega) _ _ _
    have HZ2 : Hid ((Tryz.prog.info? 47).map (·.size) = some (overX x [p] true).cells.toArray.size) := tx_size _
    clear HQ9 HQW
    go_wp2
    refine bodyPost_ret (results_cell_row rfl _ _ (B + 1) 47 _ (0, 0) _ rfl HP.out Tryz.underlying47 rfl HZ2.out) rfl ?_
    exact ⟨rfl, HGF.out⟩
   ·refine step_alloc rfl 47 rfl #[.string ⟨#[]⟩, .int .i64 0, .int .i64 0] (fun W => by kernel_rfl) ?_
    intro V w7 V7 K7 hV8
    have HVL : Hid (B + 1 < V) := by have := hHeld.lt; show B + 1 < V; omega
    refine hK.out _ _ (hHeld.kept K7) (fun hHeld => ?_)
    clear hK K K7 hV8
    try simp only [Act.put, a0, a1, a2, a3, a4, a5]
    refine wpR (rs := [19]) (AllReadyH.cons rfl (fun K hK => ?_) AllReadyH.nil)
    go_simp
    refine (CP _).mono ?_
    rintro e w8 ⟨rfl, K8⟩
    have V8 := V7.kept K8
    go_wp2_with fail
    refine hK.out _ _ (hHeld.kept K8) (fun hHeld => ?_)
    clear hK K K8 V7
    try simp only [Act.put, a0, a1, a2, a3, a4, a5]
    refine wpR (rs := [21]) (AllReadyH.cons rfl (fun K hK => ?_) AllReadyH.nil)
    refine step_store_rowX rfl 47 (.tmp 9) (.tmp 70) rfl V Y rfl rfl 47 _ V8 HYZ.out.1 HYZ.out.2.1 HYZ.out.2.2 ?_
    have HQ9 : Hid (OW w (w8.setRow V Y) B x ∧ VAt (w8.setRow V Y) V 47 Y) := ⟨hHeld.setRow HVL.out, VAt.setRow V8 _⟩
    refine hK.out _ _ HQ9.out.1 (fun hHeld => ?_)
    clear hK K V8 hHeld
    generalize w8.setRow V Y = w9 at *
    try simp only [Act.put, List.getElem_toArray, List.getElem_cons_zero, List.getElem_cons_succ]
    refine wpAnyH_done (by kernel_rfl) ?_ _
    have HQW : Hid (OW w w9 B x) := HQ9.out.1
    have v0 : w9.cell? ⟨V, 0, none⟩ = some (.string ⟨q.s.toArray⟩) := by rw [HQ9.out.2.cell 0, ← HYY.out]; rfl
    have v2 : w9.cell? ⟨V, 2, none⟩ = some (.int .i64 (q.deep : Int)) := by rw [HQ9.out.2.cell 2, ← HYY.out]; rfl
    have k0 := HQW.out.nb.kind
    rw [HK.out] at k0
    have r0 : w9.cell? ⟨B + 1, 0, none⟩ = some (.string ⟨#[]⟩) := HQW.out.res.cell 0
    have r1 : w9.cell? ⟨B + 1, 1, none⟩ = some (.int .i64 0) := HQW.out.res.cell 1
    have r2 : w9.cell? ⟨B + 1, 2, none⟩ = some (.int .i64 0) := HQW.out.res.cell 2
    have f0 := HQW.out.res.free 0
    have f1 := HQW.out.res.free 1
    have f2 := HQW.out.res.free 2
    have wd : IntKind.i64.wrap ((q.deep : Int) + 1) = (q.deep : Int) + 1 := by rw [IntKind.wrap_i64]; omega
    have q3 : ¬ (9223372036854775807 < 4 + q.s.length) := by omega
    have HP : Hid (VAt (((w9.setCell ⟨B + 1, 0, none⟩ (.string ((⟨#[110, 111, 116, 32]⟩ : ByteArray) ++ ⟨q.s.toArray⟩))).setCell ⟨B + 1, 1, none⟩ (.int .i64 3)).setCell ⟨B + 1, 2, none⟩ (.int .i64 ((q.deep : Int) + 1))) (B + 1) 47 (overX x [p] true).cells.toArray) := by
     have := tx_put HQW.out.res rfl (overX x [p] true)
     rw [HE.out, HWW.out] at this
     unfold Hid
     rw [HE.out, HWW.out]
     have e0 : Value.string ((⟨#[110, 111, 116, 32]⟩ : ByteArray) ++ ⟨q.s.toArray⟩) = str ([110, 111, 116, 32] ++ q.s) := by
      have := cat [110, 111, 116, 32] q.s
      unfold str
      rw [← this]
     rw [e0]
     exact this
    have HGF : Hid (w.grownBy (((w9.setCell ⟨B + 1, 0, none⟩ (.string ((⟨#[110, 111, 116, 32]⟩ : ByteArray) ++ ⟨q.s.toArray⟩))).setCell ⟨B + 1, 1, none⟩ (.int .i64 3)).setCell ⟨B + 1, 2, none⟩ (.int .i64 ((q.deep : Int) + 1))) none) := grown_three HQW.out.up (by have := HQW.out.base; omega) _ _ _
    have HZ2 : Hid ((Tryz.prog.info? 47).map (·.size) = some (overX x [p] true).cells.toArray.size) := tx_size _
    clear HQ9 HQW
    go_wp2
    refine bodyPost_ret (results_cell_row rfl _ _ (B + 1) 47 _ (0, 0) _ rfl HP.out Tryz.underlying47 rfl HZ2.out) rfl ?_
    exact ⟨rfl, HGF.out⟩

end Go.Proofs.YtklipelnjgpnjaaGreatDoor
