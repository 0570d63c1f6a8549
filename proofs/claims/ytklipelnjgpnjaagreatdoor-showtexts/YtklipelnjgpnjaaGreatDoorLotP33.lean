import Derived.Test.YtklipelnjgpnjaaGreatDoorAb
import Derived.Test.YtklipelnjgpnjaaGreatDoorShO9
import Derived.Deep.DeepCutAuto
namespace Go.Proofs.YtklipelnjgpnjaaGreatDoor
open Go.RowKit
set_option maxRecDepth 100000
theorem shsign_len (x : Ng) (hk : x.kind = 7 ∨ x.kind = 8 ∨ (x.kind = 6 ∧ 1 ≤ x.op ∧ x.op ≤ 6) ∨ (x.kind = 4 ∧ 1 ≤ x.op ∧ x.op ≤ 10)) : (signT x).length ≤ 3 := by
 unfold signT
 rcases hk with h | h | ⟨h, h1, h2⟩ | ⟨h, h1, h2⟩
 ·rw [h]; simp
 ·rw [h]; simp
 ·rw [h]
  have : x.op = 1 ∨ x.op = 2 ∨ x.op = 3 ∨ x.op = 4 ∨ x.op = 5 ∨ x.op = 6 := by omega
  rcases this with e | e | e | e | e | e <;> rw [e] <;> decide
 ·rw [h]
  have : x.op = 1 ∨ x.op = 2 ∨ x.op = 3 ∨ x.op = 4 ∨ x.op = 5 ∨ x.op = 6 ∨ x.op = 7 ∨ x.op = 8 ∨ x.op = 9 ∨ x.op = 10 := by omega
  rcases this with e | e | e | e | e | e | e | e | e | e <;> rw [e] <;> decide
structure OA (w W : World) (B : Nat) (x : Ng) (Va : Nat) (qa : Tx) : Prop where
 ow : OW w W B x
 va : VAt W Va 47 qa.cells.toArray
 lo : B + 1 < Va
theorem OA.kept {w W W' : World} {B : Nat} {x : Ng} {Va : Nat} {qa : Tx} (h : OA w W B x Va qa) (K : W.grownBy W' none) : OA w W' B x Va qa := ⟨h.ow.kept K, h.va.kept K, h.lo⟩
theorem OA.setRow {w W : World} {B V : Nat} {x : Ng} {Va : Nat} {qa : Tx} {Y : Array Value} (h : OA w W B x Va qa) (hV : B + 1 < V ∧ Va < V) : OA w (W.setRow V Y) B x Va qa := ⟨h.ow.setRow hV.1, vat_setRow h.va (by omega), h.lo⟩
theorem OA.lt {w W : World} {B : Nat} {x : Ng} {Va : Nat} {qa : Tx} (h : OA w W B x Va qa) : B + 1 < W.heap.size ∧ Va < W.heap.size := ⟨h.ow.lt, h.va.lt⟩
structure OB (w W : World) (B : Nat) (x : Ng) (Va Vb : Nat) (qa qb : Tx) : Prop where
 oa : OA w W B x Va qa
 vb : VAt W Vb 47 qb.cells.toArray
 lob : B + 1 < Vb
theorem OB.kept {w W W' : World} {B : Nat} {x : Ng} {Va Vb : Nat} {qa qb : Tx} (h : OB w W B x Va Vb qa qb) (K : W.grownBy W' none) : OB w W' B x Va Vb qa qb := ⟨h.oa.kept K, h.vb.kept K, h.lob⟩
set_option maxRecDepth 100000 in
set_option maxHeartbeats 16000000 in
theorem over_two_f (x : Ng) (p r : Tx) (ao : Option Addr) (cap : Nat) (w : World) (C : CV w ao (flatX [p, r])) (hk : x.kind = 7 ∨ x.kind = 8 ∨ (x.kind = 6 ∧ 1 ≤ x.op ∧ x.op ≤ 6) ∨ (x.kind = 4 ∧ 1 ≤ x.op ∧ x.op ≤ 10)) (hlp : p.s.length ≤ 1099511627000) (hdp : p.deep ≤ 1099511627000) (hlr : r.s.length ≤ 1099511627000) (hdr : r.deep ≤ 1099511627000) :
  Calls Tryz.prog 23 #[.agg x.cells.toArray, .slice ao 2 cap, .bool false] w fun e w' => e = .returned (.agg (overX x [p, r] false).cells.toArray) ∧ w.grownBy w' none := by
 have HC : Hid (CV w ao (flatX [p, r])) := C
 have hrb : 1 ≤ rowG x ∧ rowG x ≤ 10 := by
  unfold rowG
  rcases hk with h | h | ⟨h, -⟩ | ⟨h, -⟩
  ·rw [h]; simp
  ·rw [h]; simp
  ·rw [h]; simp
  ·rw [h]
   simp only [if_neg (show ¬ ((4 : Int) = 8) by decide), if_neg (show ¬ ((4 : Int) = 7) by decide), if_neg (show ¬ ((4 : Int) = 9) by decide), if_neg (show ¬ ((4 : Int) = 6) by decide), if_neg (show ¬ ((4 : Int) = 5) by decide), if_neg (show ¬ ((4 : Int) ≠ 4) by decide)]
   repeat' split
   all_goals decide
 have HE : Hid (overX x [p, r] false = ⟨(putX p (wantT false p.row (if rowG x = 4 then 5 else rowG x))).s ++ [32] ++ signT x ++ [32] ++ (putX r (wantT false r.row (rowG x + 1))).s, rowG x, max (putX p (wantT false p.row (if rowG x = 4 then 5 else rowG x))).deep (putX r (wantT false r.row (rowG x + 1))).deep⟩) := by
  unfold Hid overX
  rw [if_neg (by omega), if_neg (by omega)]
  rfl
 have HBX := box_ng x
 have h1 := OW.alloc w x
 have HZ : Hid ((Tryz.prog.info? 43).map (·.size) = some x.cells.toArray.size) := ng_size x
 have CR := row13_any x
 have CSG := fun W => sign13_any x W hk
 have hkk : x.kind = 4 ∨ x.kind = 6 ∨ x.kind = 7 ∨ x.kind = 8 := by omega
 obtain ⟨X, hX⟩ : ∃ X, x.cells.toArray = X := ⟨_, rfl⟩
 rw [hX] at HBX CR HZ CSG ⊢
 have HXX : Hid (x.cells.toArray = X) := hX
 obtain ⟨rr, hrr⟩ : ∃ rr, rowG x = rr := ⟨_, rfl⟩
 rw [hrr] at hrb HE CR
 obtain ⟨sg, hsg⟩ : ∃ sg, signT x = sg := ⟨_, rfl⟩
 rw [hsg] at HE CSG
 have hsl : sg.length ≤ 3 := by
  rw [← hsg]
  exact shsign_len x hk
 go_enter Tryz.func23, Tryz.ntmps23
 go_upto_region 1 with fail
 rw [hX] at h1
 generalize (w.alloc (.cells X 43)).alloc (.cells #[.string ⟨#[]⟩, .int .i64 0, .int .i64 0] 47) = w1 at *
 generalize w.heap.size = B at *
 have HV : VAt w1 B 43 X := hX ▸ h1.nb
 clear HBX hX C hrr hsg
 go_wp2_with (refine wpList_load_row rfl 43 (.tmp 3) rfl B rfl 43 X (0, 0) _ HV Tryz.underlying43 rfl HZ.out ?_)
 refine (CR _).mono ?_
 rintro e w2 ⟨rfl, K2⟩
 have HO2 : Hid (OW w w2 B x) := h1.kept K2
 have k0 := HO2.out.nb.kind
 obtain ⟨kk, hkkk⟩ : ∃ kk, x.kind = kk := ⟨_, rfl⟩
 rw [hkkk] at k0 hkk
 have t3 : (kk == 3) = false := by rw [beq_eq_false_iff_ne]; omega
 have t9 : (kk == 9) = false := by rw [beq_eq_false_iff_ne]; omega
 have t5 : (kk == 5) = false := by rw [beq_eq_false_iff_ne]; omega
 obtain ⟨b, off, rfl, -⟩ := CV.txs HC.out (k := 0) (by simp)
 obtain ⟨pa, hpa⟩ : ∃ pa, p.row = pa := ⟨_, rfl⟩
 obtain ⟨pb, hpb⟩ : ∃ pb, r.row = pb := ⟨_, rfl⟩
 rw [hpa, hpb] at HE
 have HRWa : Hid (∀ W, OW w W B x → W.cell? ⟨b, off + 1, none⟩ = some (.int .i64 pa)) := fun W hW => by
  have := (tx_cell HC.out hW.up (i := 0) (by simp)).2.1
  rw [← hpa]
  simpa using this
 have HRWb : Hid (∀ W, OW w W B x → W.cell? ⟨b, off + 3 + 1, none⟩ = some (.int .i64 pb)) := fun W hW => by
  have := (tx_cell HC.out hW.up (i := 1) (by simp)).2.1
  rw [← hpb]
  simpa using this
 have HRGa : Hid (∀ W, OW w W B x → W.rangeAt b off p.cells) := fun W hW => by
  have := (tx_cell HC.out hW.up (i := 0) (by simp)).2.2.2
  simpa using this
 have HRGb : Hid (∀ W, OW w W B x → W.rangeAt b (off + 3) r.cells) := fun W hW => by
  have := (tx_cell HC.out hW.up (i := 1) (by simp)).2.2.2
  simpa using this
 have HSZa : Hid ((Tryz.prog.info? 47).map (·.size) = some p.cells.length) := by unfold Hid; exact tx_size p
 have HSZb : Hid ((Tryz.prog.info? 47).map (·.size) = some r.cells.length) := by unfold Hid; exact tx_size r
 have HCPa : Hid (∀ (want : Bool) (W : World), Calls Tryz.prog 43 #[.agg p.cells.toArray, .bool want] W fun e w' => e = .returned (.agg (putX p want).cells.toArray) ∧ W.grownBy w' none) := fun want W => put13_any p want W (by omega) (by omega)
 have HCPb : Hid (∀ (want : Bool) (W : World), Calls Tryz.prog 43 #[.agg r.cells.toArray, .bool want] W fun e w' => e = .returned (.agg (putX r want).cells.toArray) ∧ W.grownBy w' none) := fun want W => put13_any r want W (by omega) (by omega)
 have HPLa : Hid (∀ want, (putX p want).s.length ≤ 1099511627002 ∧ (putX p want).deep ≤ 1099511627001) := fun want => by
  cases want with
  | true => exact ⟨by show ([40] ++ p.s ++ [41]).length ≤ _; simp; omega, by show p.deep + 1 ≤ _; omega⟩
  | false => exact ⟨by show p.s.length ≤ _; omega, by show p.deep ≤ _; omega⟩
 have HPLb : Hid (∀ want, (putX r want).s.length ≤ 1099511627002 ∧ (putX r want).deep ≤ 1099511627001) := fun want => by
  cases want with
  | true => exact ⟨by show ([40] ++ r.s ++ [41]).length ≤ _; simp; omega, by show r.deep + 1 ≤ _; omega⟩
  | false => exact ⟨by show r.s.length ≤ _; omega, by show r.deep ≤ _; omega⟩
 obtain ⟨ca, hca⟩ : ∃ ca, p.cells = ca := ⟨_, rfl⟩
 obtain ⟨cb, hcb⟩ : ∃ cb, r.cells = cb := ⟨_, rfl⟩
 rw [hca] at HRGa HSZa HCPa
 rw [hcb] at HRGb HSZb HCPb
 have w1' : IntKind.i64.wrap (rr + 1) = rr + 1 := by rw [IntKind.wrap_i64]; omega
 obtain ⟨la, hla⟩ : ∃ la : Int, (if rr = 4 then 5 else rr) = la := ⟨_, rfl⟩
 rw [hla] at HE
 clear CR h1 K2 HV hca hcb hpa hpb hk HC hlp hdp hlr hdr hkk hkkk
 have h4 : rr = 4 ∨ rr ≠ 4 := by omega
 have key : ∀ (tmps : Unit), True := fun _ => trivial
 go_upto_if 87 with fail
 go_cut [11] (fun v wx => v = .int .i64 la ∧ wx = w2)
 case first =>
  rcases h4 with h | h
  ·have t4 : (rr == 4) = true := by simpa using h
   obtain rfl : la = 5 := by rw [← hla, if_pos h]
   clear h hla
   go_wp2
   go_meet
   exact ⟨rfl, rfl⟩
  ·have t4 : (rr == 4) = false := by simpa using h
   obtain rfl : la = rr := by rw [← hla, if_neg h]
   clear h
   go_wp2
   go_meet
   exact ⟨rfl, rfl⟩
 case rest =>
 obtain ⟨rfl, rfl⟩ := hcut
 clear h4 hla key
 go_upto_region 18 with fail
 have HD2 : OW w wc.drew B x := HO2.out.kept (grown_drewN wc 1 none)
 clear k0 HO2
 go_cut [13] from 88 to 107 (fun v wx => ∃ (V : Nat) (q : Tx), v = .pointer (some ⟨V, 0, none⟩) ∧ Hid (OA w wx B x V q ∧ putX p (wantT false pa la) = q))
 case first =>
  obtain ⟨bb, hbb⟩ : ∃ bb, decide (pa < la) = bb := ⟨_, rfl⟩
  clear HE HPLa HPLb CSG
  have CP := HCPa.out bb
  obtain ⟨q, hq⟩ : ∃ q, putX p bb = q := ⟨_, rfl⟩
  have HWW : Hid (putX p (wantT false pa la) = q) := by
   unfold Hid wantT
   rw [hbb]
   exact hq
  rw [hq] at CP
  have HYZ : Hid ((Tryz.prog.info? 47).map (·.size) = some q.cells.toArray.size ∧ 3 = q.cells.toArray.size ∧ q.cells.toArray.all (·.oneCell') = true) := ⟨tx_size _, rfl, tx_all _⟩
  obtain ⟨Y, hY⟩ : ∃ Y, q.cells.toArray = Y := ⟨_, rfl⟩
  have HYY : Hid (q.cells.toArray = Y) := hY
  rw [hY] at HYZ CP
  clear hY hq
  refine wp_region_held_drew (S := fun W => OW w W B x) (by kernel_rfl) HD2 (fun hHeld => ?_)
  clear HD2
  refine wpT (i := 0) (v := .slice (some ⟨b, off, none⟩) 2 cap) rfl (Or.inl ⟨by rfl, fun W hW => ?_⟩) hHeld ?_
  ·clear hW
   go_simp
  try simp only [Act.put, a0, a1, a3, a4, a5]
  refine wpT (i := 1) (v := .pointer (some ⟨b, off, none⟩)) rfl (Or.inl ⟨by rfl, fun W hW => ?_⟩) hHeld ?_
  ·clear hW
   go_simp
  try simp only [Act.put, a0, a1, a2, a3, a4, a5]
  refine wpT (i := 2) (v := .agg ca.toArray) rfl (yieldsIf_load_mid (by rfl) _ _ rfl _ _ rfl ca _ (fun W hW => HRGa.out W hW) Tryz.underlying47 rfl HSZa.out) hHeld ?_
  try simp only [Act.put, a0, a1, a2, a3, a4, a5]
  refine wpT (i := 3) (v := .bool false) rfl (Or.inl ⟨by rfl, fun W hW => ?_⟩) hHeld ?_
  ·clear hW
   go_simp
  try simp only [Act.put, a0, a1, a2, a3, a4, a5]
  refine wpT (i := 4) (v := .bool false) rfl (Or.inl ⟨by rfl, fun W hW => ?_⟩) hHeld ?_
  ·clear hW
   go_simp
  try simp only [Act.put, a0, a1, a2, a3, a4, a5]
  refine wpT (i := 5) (v := undef) rfl (Or.inr ⟨by rfl, rfl⟩) hHeld ?_
  try simp only [Act.put, a0, a1, a2, a3, a4, a5]
  refine wpT (i := 6) (v := undef) rfl (Or.inr ⟨by rfl, rfl⟩) hHeld ?_
  try simp only [Act.put, a0, a1, a2, a3, a4, a5]
  refine wpT (i := 7) (v := undef) rfl (Or.inr ⟨by rfl, rfl⟩) hHeld ?_
  try simp only [Act.put, a0, a1, a2, a3, a4, a5]
  refine wpT (i := 8) (v := undef) rfl (Or.inr ⟨by rfl, rfl⟩) hHeld ?_
  try simp only [Act.put, a0, a1, a2, a3, a4, a5]
  refine wpT (i := 9) (v := undef) rfl (Or.inr ⟨by rfl, rfl⟩) hHeld ?_
  try simp only [Act.put, a0, a1, a2, a3, a4, a5]
  refine wpT (i := 10) (v := .bool false) rfl (Or.inl ⟨by rfl, fun W hW => ?_⟩) hHeld ?_
  ·clear hW
   go_simp
  try simp only [Act.put, a0, a1, a2, a3, a4, a5]
  refine wpT (i := 11) (v := .bool false) rfl (Or.inl ⟨by rfl, fun W hW => ?_⟩) hHeld ?_
  ·clear hW
   go_simp
  try simp only [Act.put, a0, a1, a2, a3, a4, a5]
  refine wpT (i := 12) (v := .slice (some ⟨b, off, none⟩) 2 cap) rfl (Or.inl ⟨by rfl, fun W hW => ?_⟩) hHeld ?_
  ·clear hW
   go_simp
  try simp only [Act.put, a0, a1, a2, a3, a4, a5]
  refine wpT (i := 13) (v := .pointer (some ⟨b, off, none⟩)) rfl (Or.inl ⟨by rfl, fun W hW => ?_⟩) hHeld ?_
  ·clear hW
   go_simp
  try simp only [Act.put, a0, a1, a2, a3, a4, a5]
  refine wpT (i := 14) (v := .pointer (some ⟨b, off + 1, none⟩)) rfl (Or.inl ⟨by rfl, fun W hW => ?_⟩) hHeld ?_
  ·clear hW
   go_simp
  try simp only [Act.put, a0, a1, a2, a3, a4, a5]
  refine wpT (i := 15) (v := .int .i64 pa) rfl (Or.inl ⟨by rfl, fun W hW => ?_⟩) hHeld ?_
  ·have e1 := HRWa.out W hW
   clear hW
   go_simp
  try simp only [Act.put, a0, a1, a2, a3, a4, a5]
  refine wpT (i := 16) (v := .int .i64 la) rfl (Or.inl ⟨by rfl, fun W hW => ?_⟩) hHeld ?_
  ·clear hW
   go_simp
  try simp only [Act.put, a0, a1, a2, a3, a4, a5]
  refine wpT (i := 17) (v := .bool bb) rfl (Or.inl ⟨by rfl, fun W hW => ?_⟩) hHeld ?_
  ·clear hW
   go_simp
  try simp only [Act.put, a0, a1, a2, a3, a4, a5]
  refine wpT (i := 18) (v := .bool bb) rfl (Or.inl ⟨by rfl, fun W hW => ?_⟩) hHeld ?_
  ·clear hW
   go_simp
  try simp only [Act.put, a0, a1, a2, a3, a4, a5]
  refine wpR (rs := [19, 20]) (AllReadyH.cons rfl (fun K hK => ?_) (AllReadyH.cons rfl (fun K hK => ?_) AllReadyH.nil))
  ·go_simp
   refine (CP _).mono ?_
   rintro e w7 ⟨rfl, K7⟩
   go_wp2_with fail
   refine hK.out _ _ (hHeld.kept K7) (fun hHeld => ?_)
   clear hK K K7
   try simp only [Act.put, a0, a1, a2, a3, a4, a5]
   refine wpR (rs := [20]) (AllReadyH.cons rfl (fun K hK => ?_) AllReadyH.nil)
   refine step_alloc rfl 47 rfl #[.string ⟨#[]⟩, .int .i64 0, .int .i64 0] (fun W => by kernel_rfl) ?_
   intro V w8 V8 K8 hV8
   have HVL : Hid (B + 1 < V) := by have := hHeld.lt; show B + 1 < V; omega
   refine hK.out _ _ (hHeld.kept K8) (fun hHeld => ?_)
   clear hK K K8 hV8
   try simp only [Act.put, a0, a1, a2, a3, a4, a5]
   refine wpR (rs := [21]) (AllReadyH.cons rfl (fun K hK => ?_) AllReadyH.nil)
   refine step_store_rowX rfl 47 (.tmp 13) (.tmp 107) rfl V Y rfl rfl 47 _ V8 HYZ.out.1 HYZ.out.2.1 HYZ.out.2.2 ?_
   have HQ9 : Hid (OW w (w8.setRow V Y) B x ∧ VAt (w8.setRow V Y) V 47 Y) := ⟨hHeld.setRow HVL.out, VAt.setRow V8 _⟩
   refine hK.out _ _ HQ9.out.1 (fun hHeld => ?_)
   clear hK K V8 hHeld
   generalize w8.setRow V Y = w9 at *
   try simp only [Act.put, List.getElem_toArray, List.getElem_cons_zero, List.getElem_cons_succ]
   refine wpAnyH_done (by kernel_rfl) ?_ _
   go_wp2
   go_meet
   refine ⟨V, q, rfl, ⟨?_, HWW.out⟩⟩
   exact ⟨HQ9.out.1, HYY.out ▸ HQ9.out.2, HVL.out⟩
  ·refine step_alloc rfl 47 rfl #[.string ⟨#[]⟩, .int .i64 0, .int .i64 0] (fun W => by kernel_rfl) ?_
   intro V w7 V7 K7 hV8
   have HVL : Hid (B + 1 < V) := by have := hHeld.lt; show B + 1 < V; omega
   refine hK.out _ _ (hHeld.kept K7) (fun hHeld => ?_)
   clear hK K K7 hV8
   try simp only [Act.put, a0, a1, a2, a3, a4, a5]
   refine wpR (rs := [19]) (AllReadyH.cons rfl (fun K hK => ?_) AllReadyH.nil)
   go_simp
   refine (CP _).mono ?_
   rintro e w8 ⟨rfl, K8⟩
   have V8 := V7.kept K8
   go_wp2_with fail
   refine hK.out _ _ (hHeld.kept K8) (fun hHeld => ?_)
   clear hK K K8 V7
   try simp only [Act.put, a0, a1, a2, a3, a4, a5]
   refine wpR (rs := [21]) (AllReadyH.cons rfl (fun K hK => ?_) AllReadyH.nil)
   refine step_store_rowX rfl 47 (.tmp 13) (.tmp 107) rfl V Y rfl rfl 47 _ V8 HYZ.out.1 HYZ.out.2.1 HYZ.out.2.2 ?_
   have HQ9 : Hid (OW w (w8.setRow V Y) B x ∧ VAt (w8.setRow V Y) V 47 Y) := ⟨hHeld.setRow HVL.out, VAt.setRow V8 _⟩
   refine hK.out _ _ HQ9.out.1 (fun hHeld => ?_)
   clear hK K V8 hHeld
   generalize w8.setRow V Y = w9 at *
   try simp only [Act.put, List.getElem_toArray, List.getElem_cons_zero, List.getElem_cons_succ]
   refine wpAnyH_done (by kernel_rfl) ?_ _
   go_wp2
   go_meet
   refine ⟨V, q, rfl, ⟨?_, HWW.out⟩⟩
   exact ⟨HQ9.out.1, HYY.out ▸ HQ9.out.2, HVL.out⟩
 case rest =>
 obtain ⟨Va, qa, rfl, HQA⟩ := hcut
 have hla2 := HPLa.out (wantT false pa la)
 rw [HQA.out.2] at HE hla2
 have HOA : OA w wc B x Va qa := HQA.out.1
 clear HQA HD2 HRWa HRGa HSZa HCPa HPLa
 go_upto_region 19 with fail
 have HD3 : OA w wc.drew B x Va qa := HOA.kept (grown_drewN wc 1 none)
 clear HOA
 go_cut [14] from 108 to 127 (fun v wx => ∃ (V : Nat) (q : Tx), v = .pointer (some ⟨V, 0, none⟩) ∧ Hid (OB w wx B x Va V qa q ∧ putX r (wantT false pb (rr + 1)) = q))
 case first =>
  obtain ⟨bb, hbb⟩ : ∃ bb, decide (pb < rr + 1) = bb := ⟨_, rfl⟩
  clear HE HPLb CSG
  have CP := HCPb.out bb
  obtain ⟨q, hq⟩ : ∃ q, putX r bb = q := ⟨_, rfl⟩
  have HWW : Hid (putX r (wantT false pb (rr + 1)) = q) := by
   unfold Hid wantT
   rw [hbb]
   exact hq
  rw [hq] at CP
  have HYZ : Hid ((Tryz.prog.info? 47).map (·.size) = some q.cells.toArray.size ∧ 3 = q.cells.toArray.size ∧ q.cells.toArray.all (·.oneCell') = true) := ⟨tx_size _, rfl, tx_all _⟩
  obtain ⟨Y, hY⟩ : ∃ Y, q.cells.toArray = Y := ⟨_, rfl⟩
  have HYY : Hid (q.cells.toArray = Y) := hY
  rw [hY] at HYZ CP
  clear hY hq
  refine wp_region_held_drew (S := fun W => OA w W B x Va qa) (by kernel_rfl) HD3 (fun hHeld => ?_)
  clear HD3
  refine wpT (i := 0) (v := .slice (some ⟨b, off, none⟩) 2 cap) rfl (Or.inl ⟨by rfl, fun W hW => ?_⟩) hHeld ?_
  ·clear hW
   go_simp
  try simp only [Act.put, a0, a1, a3, a4, a5]
  refine wpT (i := 1) (v := .pointer (some ⟨b, off + 3, none⟩)) rfl (Or.inl ⟨by rfl, fun W hW => ?_⟩) hHeld ?_
  ·clear hW
   go_simp
  try simp only [Act.put, a0, a1, a2, a3, a4, a5]
  refine wpT (i := 2) (v := .agg cb.toArray) rfl (yieldsIf_load_mid (by rfl) _ _ rfl _ _ rfl cb _ (fun W hW => HRGb.out W hW.ow) Tryz.underlying47 rfl HSZb.out) hHeld ?_
  try simp only [Act.put, a0, a1, a2, a3, a4, a5]
  refine wpT (i := 3) (v := .bool false) rfl (Or.inl ⟨by rfl, fun W hW => ?_⟩) hHeld ?_
  ·clear hW
   go_simp
  try simp only [Act.put, a0, a1, a2, a3, a4, a5]
  refine wpT (i := 4) (v := .bool false) rfl (Or.inl ⟨by rfl, fun W hW => ?_⟩) hHeld ?_
  ·clear hW
   go_simp
  try simp only [Act.put, a0, a1, a2, a3, a4, a5]
  refine wpT (i := 5) (v := undef) rfl (Or.inr ⟨by rfl, rfl⟩) hHeld ?_
  try simp only [Act.put, a0, a1, a2, a3, a4, a5]
  refine wpT (i := 6) (v := undef) rfl (Or.inr ⟨by rfl, rfl⟩) hHeld ?_
  try simp only [Act.put, a0, a1, a2, a3, a4, a5]
  refine wpT (i := 7) (v := undef) rfl (Or.inr ⟨by rfl, rfl⟩) hHeld ?_
  try simp only [Act.put, a0, a1, a2, a3, a4, a5]
  refine wpT (i := 8) (v := undef) rfl (Or.inr ⟨by rfl, rfl⟩) hHeld ?_
  try simp only [Act.put, a0, a1, a2, a3, a4, a5]
  refine wpT (i := 9) (v := undef) rfl (Or.inr ⟨by rfl, rfl⟩) hHeld ?_
  try simp only [Act.put, a0, a1, a2, a3, a4, a5]
  refine wpT (i := 10) (v := .bool false) rfl (Or.inl ⟨by rfl, fun W hW => ?_⟩) hHeld ?_
  ·clear hW
   go_simp
  try simp only [Act.put, a0, a1, a2, a3, a4, a5]
  refine wpT (i := 11) (v := .bool false) rfl (Or.inl ⟨by rfl, fun W hW => ?_⟩) hHeld ?_
  ·clear hW
   go_simp
  try simp only [Act.put, a0, a1, a2, a3, a4, a5]
  refine wpT (i := 12) (v := .slice (some ⟨b, off, none⟩) 2 cap) rfl (Or.inl ⟨by rfl, fun W hW => ?_⟩) hHeld ?_
  ·clear hW
   go_simp
  try simp only [Act.put, a0, a1, a2, a3, a4, a5]
  refine wpT (i := 13) (v := .pointer (some ⟨b, off + 3, none⟩)) rfl (Or.inl ⟨by rfl, fun W hW => ?_⟩) hHeld ?_
  ·clear hW
   go_simp
  try simp only [Act.put, a0, a1, a2, a3, a4, a5]
  refine wpT (i := 14) (v := .pointer (some ⟨b, off + 3 + 1, none⟩)) rfl (Or.inl ⟨by rfl, fun W hW => ?_⟩) hHeld ?_
  ·clear hW
   go_simp
  try simp only [Act.put, a0, a1, a2, a3, a4, a5]
  refine wpT (i := 15) (v := .int .i64 pb) rfl (Or.inl ⟨by rfl, fun W hW => ?_⟩) hHeld ?_
  ·have e1 := HRWb.out W hW.ow
   clear hW
   go_simp
  try simp only [Act.put, a0, a1, a2, a3, a4, a5]
  refine wpT (i := 16) (v := .int .i64 (rr + 1)) rfl (Or.inl ⟨by rfl, fun W hW => ?_⟩) hHeld ?_
  ·clear hW
   go_simp
  try simp only [Act.put, a0, a1, a2, a3, a4, a5]
  refine wpT (i := 17) (v := .bool bb) rfl (Or.inl ⟨by rfl, fun W hW => ?_⟩) hHeld ?_
  ·clear hW
   go_simp
  try simp only [Act.put, a0, a1, a2, a3, a4, a5]
  refine wpT (i := 18) (v := .bool bb) rfl (Or.inl ⟨by rfl, fun W hW => ?_⟩) hHeld ?_
  ·clear hW
   go_simp
  try simp only [Act.put, a0, a1, a2, a3, a4, a5]
  refine wpR (rs := [19, 20]) (AllReadyH.cons rfl (fun K hK => ?_) (AllReadyH.cons rfl (fun K hK => ?_) AllReadyH.nil))
  ·go_simp
   refine (CP _).mono ?_
   rintro e w7 ⟨rfl, K7⟩
   go_wp2_with fail
   refine hK.out _ _ (hHeld.kept K7) (fun hHeld => ?_)
   clear hK K K7
   try simp only [Act.put, a0, a1, a2, a3, a4, a5]
   refine wpR (rs := [20]) (AllReadyH.cons rfl (fun K hK => ?_) AllReadyH.nil)
   refine step_alloc rfl 47 rfl #[.string ⟨#[]⟩, .int .i64 0, .int .i64 0] (fun W => by kernel_rfl) ?_
   intro V w8 V8 K8 hV8
   have HVL : Hid (B + 1 < V ∧ Va < V) := by have := hHeld.lt; exact ⟨by omega, by omega⟩
   refine hK.out _ _ (hHeld.kept K8) (fun hHeld => ?_)
   clear hK K K8 hV8
   try simp only [Act.put, a0, a1, a2, a3, a4, a5]
   refine wpR (rs := [21]) (AllReadyH.cons rfl (fun K hK => ?_) AllReadyH.nil)
   refine step_store_rowX rfl 47 (.tmp 14) (.tmp 127) rfl V Y rfl rfl 47 _ V8 HYZ.out.1 HYZ.out.2.1 HYZ.out.2.2 ?_
   have HQ9 : Hid (OA w (w8.setRow V Y) B x Va qa ∧ VAt (w8.setRow V Y) V 47 Y) := ⟨hHeld.setRow HVL.out, VAt.setRow V8 _⟩
   refine hK.out _ _ HQ9.out.1 (fun hHeld => ?_)
   clear hK K V8 hHeld
   generalize w8.setRow V Y = w9 at *
   try simp only [Act.put, List.getElem_toArray, List.getElem_cons_zero, List.getElem_cons_succ]
   refine wpAnyH_done (by kernel_rfl) ?_ _
   go_wp2
   go_meet
   refine ⟨V, q, rfl, ⟨?_, HWW.out⟩⟩
   exact ⟨HQ9.out.1, HYY.out ▸ HQ9.out.2, HVL.out.1⟩
  ·refine step_alloc rfl 47 rfl #[.string ⟨#[]⟩, .int .i64 0, .int .i64 0] (fun W => by kernel_rfl) ?_
   intro V w7 V7 K7 hV8
   have HVL : Hid (B + 1 < V ∧ Va < V) := by have := hHeld.lt; exact ⟨by omega, by omega⟩
   refine hK.out _ _ (hHeld.kept K7) (fun hHeld => ?_)
   clear hK K K7 hV8
   try simp only [Act.put, a0, a1, a2, a3, a4, a5]
   refine wpR (rs := [19]) (AllReadyH.cons rfl (fun K hK => ?_) AllReadyH.nil)
   go_simp
   refine (CP _).mono ?_
   rintro e w8 ⟨rfl, K8⟩
   have V8 := V7.kept K8
   go_wp2_with fail
   refine hK.out _ _ (hHeld.kept K8) (fun hHeld => ?_)
   clear hK K K8 V7
   try simp only [Act.put, a0, a1, a2, a3, a4, a5]
   refine wpR (rs := [21]) (AllReadyH.cons rfl (fun K hK => ?_) AllReadyH.nil)
   refine step_store_rowX rfl 47 (.tmp 14) (.tmp 127) rfl V Y rfl rfl 47 _ V8 HYZ.out.1 HYZ.out.2.1 HYZ.out.2.2 ?_
   have HQ9 : Hid (OA w (w8.setRow V Y) B x Va qa ∧ VAt (w8.setRow V Y) V 47 Y) := ⟨hHeld.setRow HVL.out, VAt.setRow V8 _⟩
   refine hK.out _ _ HQ9.out.1 (fun hHeld => ?_)
   clear hK K V8 hHeld
   generalize w8.setRow V Y = w9 at *
   try simp only [Act.put, List.getElem_toArray, List.getElem_cons_zero, List.getElem_cons_succ]
   refine wpAnyH_done (by kernel_rfl) ?_ _
   go_wp2
   go_meet
   refine ⟨V, q, rfl, ⟨?_, HWW.out⟩⟩
   exact ⟨HQ9.out.1, HYY.out ▸ HQ9.out.2, HVL.out.1⟩
 case rest =>
 obtain ⟨Vb, qb, rfl, HQB⟩ := hcut
 have hlb2 := HPLb.out (wantT false pb (rr + 1))
 rw [HQB.out.2] at HE hlb2
 have HOB : OB w wc B x Va Vb qa qb := HQB.out.1
 clear HQB HD3 HRWb HRGb HSZb HCPb HPLb
 go_upto_region 20 with fail
 have HD4 : Hid (OB w wc.drew B x Va Vb qa qb) := HOB.kept (grown_drewN wc 1 none)
 clear HOB
 have q1 : ¬ (9223372036854775807 < qa.s.length + 1) := by omega
 have q2 : ¬ (9223372036854775807 < qa.s.length + 1 + sg.length) := by omega
 have q3 : ¬ (9223372036854775807 < qa.s.length + 1 + sg.length + 1) := by omega
 have q4 : ¬ (9223372036854775807 < qa.s.length + 1 + sg.length + 1 + qb.s.length) := by omega
 have HS20 : VAt wc.drew Va 47 qa.cells.toArray ∧ VAt wc.drew Vb 47 qb.cells.toArray ∧ VAt wc.drew B 43 X := ⟨HD4.out.oa.va, HD4.out.vb, HXX.out ▸ HD4.out.oa.ow.nb⟩
 refine wp_region_held_drew (S := fun W => VAt W Va 47 qa.cells.toArray ∧ VAt W Vb 47 qb.cells.toArray ∧ VAt W B 43 X) (by kernel_rfl) HS20 (fun hHeld => ?_)
 clear HS20
 refine wpT (i := 0) (v := .pointer (some ⟨Va, 0, none⟩)) rfl (Or.inl ⟨by rfl, fun W hW => ?_⟩) hHeld ?_
 ·clear hW
  go_simp
 try simp only [Act.put, a0, a1, a3, a4, a5]
 refine wpT (i := 1) (v := .string ⟨qa.s.toArray⟩) rfl (Or.inl ⟨by rfl, fun W hW => ?_⟩) hHeld ?_
 ·have e1 : W.cell? ⟨Va, 0, none⟩ = some (.string ⟨qa.s.toArray⟩) := hW.1.cell 0
  clear hW
  go_simp
 try simp only [Act.put, a0, a1, a2, a3, a4, a5]
 refine wpT (i := 2) (v := .string ((⟨qa.s.toArray⟩ : ByteArray) ++ ⟨#[32]⟩)) rfl (Or.inl ⟨by rfl, fun W hW => ?_⟩) hHeld ?_
 ·clear hW
  go_simp
 try simp only [Act.put, a0, a1, a2, a3, a4, a5]
 refine wpT (i := 3) (v := .agg X) rfl (yieldsIf_load_row (by rfl) _ _ rfl B rfl 43 X _ (fun W hW => hW.2.2) Tryz.underlying43 rfl HZ.out) hHeld ?_
 try simp only [Act.put, a0, a1, a2, a3, a4, a5]
 refine wpT (i := 7) (v := .pointer (some ⟨Vb, 0, none⟩)) rfl (Or.inl ⟨by rfl, fun W hW => ?_⟩) hHeld ?_
 ·clear hW
  go_simp
 try simp only [Act.put, a0, a1, a2, a3, a4, a5]
 refine wpT (i := 8) (v := .string ⟨qb.s.toArray⟩) rfl (Or.inl ⟨by rfl, fun W hW => ?_⟩) hHeld ?_
 ·have e1 : W.cell? ⟨Vb, 0, none⟩ = some (.string ⟨qb.s.toArray⟩) := hW.2.1.cell 0
  clear hW
  go_simp
 try simp only [Act.put, a0, a1, a2, a3, a4, a5]
 refine wpT (i := 10) (v := .int .i64 rr) rfl (Or.inl ⟨by rfl, fun W hW => ?_⟩) hHeld ?_
 ·clear hW
  go_simp
 try simp only [Act.put, a0, a1, a2, a3, a4, a5]
 refine wpT (i := 11) (v := .pointer (some ⟨Va, 2, none⟩)) rfl (Or.inl ⟨by rfl, fun W hW => ?_⟩) hHeld ?_
 ·clear hW
  go_simp
 try simp only [Act.put, a0, a1, a2, a3, a4, a5]
 refine wpT (i := 12) (v := .int .i64 (qa.deep : Int)) rfl (Or.inl ⟨by rfl, fun W hW => ?_⟩) hHeld ?_
 ·have e1 : W.cell? ⟨Va, 2, none⟩ = some (.int .i64 (qa.deep : Int)) := hW.1.cell 2
  clear hW
  go_simp
 try simp only [Act.put, a0, a1, a2, a3, a4, a5]
 refine wpT (i := 13) (v := .pointer (some ⟨Vb, 2, none⟩)) rfl (Or.inl ⟨by rfl, fun W hW => ?_⟩) hHeld ?_
 ·clear hW
  go_simp
 try simp only [Act.put, a0, a1, a2, a3, a4, a5]
 refine wpT (i := 14) (v := .int .i64 (qb.deep : Int)) rfl (Or.inl ⟨by rfl, fun W hW => ?_⟩) hHeld ?_
 ·have e1 : W.cell? ⟨Vb, 2, none⟩ = some (.int .i64 (qb.deep : Int)) := hW.2.1.cell 2
  clear hW
  go_simp
 try simp only [Act.put, a0, a1, a2, a3, a4, a5]
 refine wpT (i := 15) (v := .int .i64 (if qa.deep < qb.deep then (qb.deep : Int) else (qa.deep : Int))) rfl (Or.inl ⟨by rfl, fun W hW => ?_⟩) hHeld ?_
 ·clear hW
  go_simp
  all_goals omega
 try simp only [Act.put, a0, a1, a2, a3, a4, a5]
 obtain ⟨mx, hmx⟩ : ∃ mx : Int, (if qa.deep < qb.deep then (qb.deep : Int) else (qa.deep : Int)) = mx := ⟨_, rfl⟩
 have HMX : Hid ((if qa.deep < qb.deep then (qb.deep : Int) else (qa.deep : Int)) = mx) := hmx
 rw [hmx]
 clear hmx
 refine wpR (rs := [4]) (AllReadyH.cons rfl (fun K hK => ?_) AllReadyH.nil)
 go_simp
 refine (CSG _).mono ?_
 rintro e w7 ⟨rfl, K7⟩
 go_wp2_with fail
 refine hK.out _ _ ⟨hHeld.1.kept K7, hHeld.2.1.kept K7, hHeld.2.2.kept K7⟩ (fun hHeld => ?_)
 have HD7 : Hid (OB w w7 B x Va Vb qa qb) := HD4.out.kept K7
 clear hK K K7 HD4 CSG
 try simp only [Act.put, a0, a1, a2, a3, a4, a5]
 refine wpT (i := 5) (v := .string ((⟨qa.s.toArray⟩ : ByteArray) ++ ⟨#[32]⟩ ++ ⟨sg.toArray⟩)) rfl (Or.inl ⟨by rfl, fun W hW => ?_⟩) hHeld ?_
 ·clear hW
  go_simp
 try simp only [Act.put, a0, a1, a2, a3, a4, a5]
 refine wpT (i := 6) (v := .string ((⟨qa.s.toArray⟩ : ByteArray) ++ ⟨#[32]⟩ ++ ⟨sg.toArray⟩ ++ ⟨#[32]⟩)) rfl (Or.inl ⟨by rfl, fun W hW => ?_⟩) hHeld ?_
 ·clear hW
  go_simp
 try simp only [Act.put, a0, a1, a2, a3, a4, a5]
 refine wpT (i := 9) (v := .string ((⟨qa.s.toArray⟩ : ByteArray) ++ ⟨#[32]⟩ ++ ⟨sg.toArray⟩ ++ ⟨#[32]⟩ ++ ⟨qb.s.toArray⟩)) rfl (Or.inl ⟨by rfl, fun W hW => ?_⟩) hHeld ?_
 ·clear hW
  go_simp
 try simp only [Act.put, a0, a1, a2, a3, a4, a5]
 obtain ⟨S4, hS4⟩ : ∃ S4 : ByteArray, (⟨qa.s.toArray⟩ : ByteArray) ++ ⟨#[32]⟩ ++ ⟨sg.toArray⟩ ++ ⟨#[32]⟩ ++ ⟨qb.s.toArray⟩ = S4 := ⟨_, rfl⟩
 have HS4 : Hid ((⟨qa.s.toArray⟩ : ByteArray) ++ ⟨#[32]⟩ ++ ⟨sg.toArray⟩ ++ ⟨#[32]⟩ ++ ⟨qb.s.toArray⟩ = S4) := hS4
 rw [hS4]
 clear hS4
 refine wpT (i := 16) (v := .agg #[.string S4, .int .i64 rr, .int .i64 mx]) rfl (Or.inl ⟨by rfl, fun W hW => ?_⟩) hHeld ?_
 ·clear hW
  go_simp
 try simp only [Act.put, a0, a1, a2, a3, a4, a5]
 refine wpR (rs := [17]) (AllReadyH.cons rfl (fun K hK => ?_) AllReadyH.nil)
 have HFC : Hid (#[.string S4, .int .i64 rr, .int .i64 mx] = (overX x [p, r] false).cells.toArray) := by
  unfold Hid
  rw [HE.out, ← HS4.out, ← HMX.out]
  have em : (if qa.deep < qb.deep then (qb.deep : Int) else (qa.deep : Int)) = ((max qa.deep qb.deep : Nat) : Int) := by split <;> omega
  rw [em]
  simp only [cat, Tx.cells, str]
 refine step_store_rowX rfl 47 (.tmp 6) (.tmp 144) rfl (B + 1) #[.string S4, .int .i64 rr, .int .i64 mx] rfl rfl 47 _ HD7.out.oa.ow.res (by kernel_rfl) rfl (by simp [Value.oneCell']) ?_
 have HV9 : Hid (VAt (w7.setRow (B + 1) #[.string S4, .int .i64 rr, .int .i64 mx]) (B + 1) 47 #[.string S4, .int .i64 rr, .int .i64 mx] ∧ w.grownBy (w7.setRow (B + 1) #[.string S4, .int .i64 rr, .int .i64 mx]) none) := ⟨VAt.setRow HD7.out.oa.ow.res _, vgrown_setRow HD7.out.oa.ow.up (B + 1) _ (.inr (by have := HD7.out.oa.ow.base; omega))⟩
 refine hK.out _ _ ⟨vat_setRow hHeld.1 (by have := HD7.out.oa.lo; omega), vat_setRow hHeld.2.1 (by have := HD7.out.lob; omega), vat_setRow hHeld.2.2 (by omega)⟩ (fun hHeld => ?_)
 clear hK K hHeld HD7
 generalize w7.setRow (B + 1) #[.string S4, .int .i64 rr, .int .i64 mx] = w9 at *
 have HZ2 : Hid ((Tryz.prog.info? 47).map (·.size) = some (overX x [p, r] false).cells.toArray.size) := tx_size _
 rw [HFC.out] at HV9
 try simp only [Act.put, List.getElem_toArray, List.getElem_cons_zero, List.getElem_cons_succ]
 refine wpAnyH_done (by kernel_rfl) ?_ _
 go_wp2
 refine bodyPost_ret (results_cell_row rfl _ _ (B + 1) 47 _ (0, 0) _ rfl HV9.out.1 Tryz.underlying47 rfl HZ2.out) rfl ?_
 exact ⟨rfl, HV9.out.2⟩

end Go.Proofs.YtklipelnjgpnjaaGreatDoor
