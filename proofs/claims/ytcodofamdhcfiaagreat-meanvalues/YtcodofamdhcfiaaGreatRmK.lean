import Derived.Test.YtcodofamdhcfiaaGreatAb
import Derived.Test.YtcodofamdhcfiaaGreatLotP36
import Derived.Test.YtcodofamdhcfiaaGreatTyBk
namespace Go.Proofs.YtcodofamdhcfiaaGreat
open Go.RowKit
set_option maxRecDepth 100000
def flatR (st : List Rp) : List Value := st.flatMap rpL
theorem flatR_len (st : List Rp) : (flatR st).length = st.length * 4 := by
 induction st with
 | nil => rfl
 | cons x st ih => rw [show flatR (x :: st) = rpL x ++ flatR st from rfl, List.length_append, ih, List.length_cons, show (rpL x).length = 4 from rfl]; omega
theorem flatR_append (a b : List Rp) : flatR (a ++ b) = flatR a ++ flatR b := by simp only [flatR, List.flatMap_append]
theorem flatR_take (st : List Rp) (m : Nat) : (flatR st).take (m * 4) = flatR (st.take m) := by
 induction st generalizing m with
 | nil => simp [flatR]
 | cons x st ih =>
  cases m with
  | zero => simp [flatR]
  | succ m =>
   rw [show flatR (x :: st) = rpL x ++ flatR st from rfl, List.take_succ_cons, show flatR (x :: st.take m) = rpL x ++ flatR (st.take m) from rfl, List.take_append, show (rpL x).length = 4 from rfl, show (m + 1) * 4 - 4 = m * 4 by omega, ih, List.take_of_length_le (show (rpL x).length ≤ (m + 1) * 4 from by show 4 ≤ _; omega)]
theorem flatR_get (st : List Rp) (i j : Nat) (hi : i < st.length) (hj : j < 4) : (flatR st)[i * 4 + j]? = (rpL st[i])[j]? := by
 induction st generalizing i with
 | nil => simp at hi
 | cons x st ih =>
  rw [show flatR (x :: st) = rpL x ++ flatR st from rfl]
  have hl : (rpL x).length = 4 := rfl
  cases i with
  | zero => rw [List.getElem?_append_left (by omega)]; simp
  | succ i =>
   rw [List.getElem?_append_right (by omega), hl, show (i + 1) * 4 + j - 4 = i * 4 + j by omega, ih i (by simpa using hi)]
   simp
theorem flatR_one (st : List Rp) : ∀ u ∈ flatR st, u.oneCell' = true := by
 intro u hu
 obtain ⟨x, _, hx⟩ := List.mem_flatMap.1 hu
 simp only [rpL, List.mem_cons, List.not_mem_nil, or_false] at hx
 rcases hx with rfl | rfl | rfl | rfl <;> rfl
theorem rp_range {w : World} {g : Nat} {st : List Rp} (C : CV w (some ⟨g, 0, none⟩) (flatR st)) {i : Nat} (hi : i < st.length) : w.rangeAt g (i * 4) (rpL st[i]) := by
 intro j v hv
 have hj : j < 4 := (List.getElem?_eq_some_iff.1 hv).1
 have hlen : i * 4 + j < (flatR st).length := by rw [flatR_len]; omega
 have h1 := C.2 _ rfl (i * 4 + j) hlen
 have h2 := flatR_get st i j hi hj
 rw [List.getElem?_eq_getElem hlen, hv] at h2
 rw [Option.some.inj h2] at h1
 have e : (⟨g, 0, none⟩ : Addr).add (i * 4 + j) = ⟨g, i * 4 + j, none⟩ := by
  simp [Addr.add]
  omega
 rw [e] at h1
 exact h1
theorem lit_rp (r : Rp) (W : World) : (Instr.buildSlice 64 1 #[(0, .agg (rpA r))]).run Tryz.prog W = .ok (.slice (some ⟨W.heap.size, 0, none⟩) 1 1) (W.alloc (.cells (rpL r).toArray 46)) := by kernel_rfl
theorem rp_info : (Tryz.prog.info? 46).map (fun i => (i.zero, i.size, i.bytes)) = some (some (.agg (rpA rp0)), 4, 16) := by kernel_rfl
set_option maxRecDepth 100000 in
set_option maxHeartbeats 16000000 in
theorem refeval_any (s : Sg) (a : Option Addr) (ca : Nat) (ao : Option Addr) (cap : Nat) (t : List Ng) (p : Pt) (w : World) (C : CV w ao (flatG t)) (hw : walkG [] 0 t = .ok [p]) (ht : t.length ≤ 3000) (hn : ∀ x ∈ t, x.n ≤ 4294967295) (hc : Cells w a s.b) (hk : MSgOk s) (hcap : s.b.length ≤ ca) :
  Calls Tryz.prog 17 #[.agg (sgA s a ca), .slice ao t.length cap] w fun e w' => ∃ r, e = .returned (.agg (rpA r)) ∧ RqOk p ((evalM s [] t).getD 0 pm0) r ∧ w.grownBy w' none := by
 obtain ⟨i0, hi, hz0, hz1, hz2⟩ := info_parts rp_info
 have HI : Hid (Tryz.prog.info? 46 = some i0 ∧ i0.zero = some (.agg (rpA rp0)) ∧ i0.size = 4 ∧ i0.bytes = 16) := ⟨hi, hz0, hz1, hz2⟩
 clear hi hz0 hz1 hz2
 have HFIN : Hid (∃ r, evalR s [] t = [r] ∧ RqOk p ((evalM s [] t).getD 0 pm0) r) := by
  have h := eval_rq hk.len t [] [p] [] [] 0 hn hw .nil
  match hq : evalM s [] t, hr : evalR s [] t, h with
  | [q], [r], .cons h _ => exact ⟨r, rfl, h⟩
 have HST : Hid (∀ k, (hk2 : k < t.length) → ∃ (ps : List Pt) (b : Nat), arG t[k].kind = some b ∧ b ≤ (evalR s [] (t.take k)).length ∧ faultG t[k] (ps.drop (ps.length - b)) = 0 ∧ (∀ r ∈ evalR s [] (t.take k), r.v ≤ 4294967295) ∧ (evalR s [] (t.take k)).length ≤ 2999) := fun k hk2 => by
  obtain ⟨ps, ps', h1, h2⟩ := walk_take hw hk2
  have h3 := eval_rq hk.len (t.take k) [] ps [] [] 0 (fun x hx => hn x (List.mem_of_mem_take hx)) h1 .nil
  obtain ⟨b, hb1, hb2, hb3, -⟩ := mstep_inv h2
  have h4 := walkG_len (t.take k) [] ps 0 h1
  have h5 := h3.len
  simp only [List.length_nil, List.length_take] at h4
  exact ⟨ps, b, hb1, by omega, hb3, h3.val, by omega⟩
 have HLF : Hid (∀ (W : World) (x : Ng), w.grownBy W none → x ∈ t → LfOk x → Calls Tryz.prog 33 #[.agg (sgA s a ca), .agg x.cells.toArray] W fun e w' => e = .returned (.agg (rpA (leafR s x))) ∧ W.grownBy w' none) := fun W x K hx ho => refleaf_any s a ca x W (hc.keptNone K) hk hcap (hn x hx) ho
 have HOV : Hid (∀ (W : World) (x : Ng) (r0 r1 : Rp) (pb po b pc : Nat) (ps : List Pt), w.grownBy W none → arG x.kind = some b → 0 < b → faultG x ps = 0 → r0.v ≤ 4294967295 → r1.v ≤ 4294967295 → W.rangeAt pb po (rpL r0) → (b = 2 → W.rangeAt pb (po + 4) (rpL r1)) → Calls Tryz.prog 34 #[.agg (sgA s a ca), .agg x.cells.toArray, .slice (some ⟨pb, po, none⟩) b pc] W fun e w' => e = .returned (.agg (rpA (overR s x r0 r1))) ∧ W.grownBy w' none) := fun W x r0 r1 pb po b pc ps K hb hb0 hf h0 h1 hr0 hr1 => by
  have hkd : (b = 1 ∧ (x.kind = 3 ∨ x.kind = 5 ∨ x.kind = 9)) ∨ (b = 2 ∧ (x.kind = 4 ∨ x.kind = 6 ∨ x.kind = 7 ∨ x.kind = 8)) := by
   rcases arG_cases hb with h | h | h
   ·exact .inl h
   ·exact .inr h
   ·omega
  refine refover_any s a ca x r0 r1 pb po b pc W (hc.keptNone K) hk.len h0 h1 (by omega) (fun h3 => ?_) (fun h4 => op_of h4 hf) hr0 (fun h => ⟨hr1 (by omega), by omega⟩) (by omega)
  obtain ⟨hfm, -, -, -⟩ := mfault_zero hf
  have hmay : mayG x = true := (Bool.and_eq_true_iff.1 hfm).2
  unfold mayG at hmay
  rw [if_pos h3] at hmay
  have ho := in_out hmay
  rw [baseR_eq s.v ho.1 (by omega)]
  have := base_le hk x.of
  have := hk.len
  omega
 have HBX := box_sg14 s a ca
 have HSS := sg_size s a ca
 have HV0 : Hid _ := blk2 w (sgA s a ca) #[.int .u32 0, .bool false, .bool false, .int .i64 0] 48 46
 have HCC : Hid (CV w ao (flatG t)) := C
 obtain ⟨SA, hSA⟩ : ∃ A, sgA s a ca = A := ⟨_, rfl⟩
 rw [hSA] at HBX HSS HV0 HLF HOV
 rw [hSA]
 clear hSA C hw hn hc hk hcap
 have HSZ : Hid (∀ q, (Tryz.prog.info? 46).map (·.size) = some (rpA q).size ∧ 4 = (rpA q).size ∧ (rpA q).all (·.oneCell') = true) := fun q => ⟨rp_size q, rfl, rp_all q⟩
 go_enter Tryz.func17, Tryz.ntmps17
 go_upto_region 1 with fail
 generalize (w.alloc (.cells SA 48)).alloc (.cells #[.int .u32 0, .bool false, .bool false, .int .i64 0] 46) = w1 at *
 obtain ⟨B, hB, HB⟩ : ∃ B, w.heap.size = B ∧ Hid (w.heap.size ≤ B + 1) := ⟨_, rfl, Nat.le_add_right _ _⟩
 rw [hB] at HV0 ⊢
 clear HBX hB
 have HV1 : Hid (VAt w1 B 48 SA ∧ VAt w1 (B + 1) 46 #[.int .u32 0, .bool false, .bool false, .int .i64 0] ∧ w.grownBy w1 none) := HV0.out
 clear HV0
 go_wp2
 go_loopw [5, 6] (fun v i wr => ∃ k : Nat, k ≤ t.length ∧ i = .int .i64 k ∧ Hid (wr.ownsRow w1.heap.size 46 4 v (evalR s [] (t.take k)).length (flatR (evalR s [] (t.take k))) ∧ w1.grownBy wr none)) (fun _ i _ => t.length - (intOf i).toNat)
 case atStart => exact ⟨0, Nat.zero_le _, rfl, ⟨World.ownsRow_nil _ _ _ _, World.grownBy.refl _ _⟩⟩
 case round =>
  obtain ⟨k, hk, rfl, HIN⟩ := hrel
  by_cases hlt : k < t.length
  ·obtain ⟨ps, ar, ha, hale, hfa, hbv, hsl⟩ := HST.out k hlt
   have hnext := evalR_next s t hlt
   have hxm : t[k] ∈ t := List.getElem_mem hlt
   obtain ⟨b, o, hao, hcc⟩ := (HCC.out.keptNone (grown_trans HV1.out.2.2 HIN.out.2)).ngs hlt
   subst hao
   have HRN : Hid (∀ W, wr.grownBy W none → W.rangeAt b (o + k * 24) t[k].cells) := fun W K j v hv => K.cell (hcc k hlt j v hv) (by simp)
   obtain ⟨x, hx⟩ : ∃ x, t[k] = x := ⟨_, rfl⟩
   rw [hx] at ha hfa hnext hxm HRN
   obtain ⟨st, hst⟩ : ∃ st, evalR s [] (t.take k) = st := ⟨_, rfl⟩
   rw [hst] at hale hbv hsl hnext HIN
   have hov : stpR s st x = st.take (st.length - ar) ++ [ovR s x (st.drop (st.length - ar))] := by unfold stpR; rw [ha]; rfl
   rw [hov] at hnext
   obtain ⟨r, hr⟩ : ∃ r, ovR s x (st.drop (st.length - ar)) = r := ⟨_, rfl⟩
   rw [hr] at hnext
   have HNX : Hid (evalR s [] (t.take (k + 1)) = st.take (st.length - ar) ++ [r]) := hnext
   have c0 : wr.cell? ⟨b, o + k * 24, none⟩ = some (.int .i64 x.kind) := HRN.out wr (World.grownBy.refl _ _) 0 _ rfl
   have CA := arity12_any x.kind
   have hai : arI x.kind = (ar : Int) := by unfold arI; rw [ha]
   rw [hai] at CA
   -- what the node comes to
   have HLEAF : Hid (ar = 0 → ∀ W, wr.grownBy W none → Calls Tryz.prog 33 #[.agg SA, .agg x.cells.toArray] W fun e w' => e = .returned (.agg (rpA r)) ∧ W.grownBy w' none) := fun h0 W K => by
    subst h0
    have := HLF.out W x (grown_trans HV1.out.2.2 (grown_trans HIN.out.2 K)) hxm (lfok_of ha hfa)
    rw [← hr]
    unfold ovR
    rw [ha]
    exact this
   have hf0 : 0 < ar → st.length - ar < st.length := by omega
   have HOVR : Hid (∀ g cL, 0 < ar → wr.ownsRow w1.heap.size 46 4 (.slice (some ⟨g, 0, none⟩) st.length cL) st.length (flatR st) → ∀ W, wr.grownBy W none → Calls Tryz.prog 34 #[.agg SA, .agg x.cells.toArray, .slice (some ⟨g, (st.length - ar) * 4, none⟩) ar (cL - (st.length - ar))] W fun e w' => e = .returned (.agg (rpA r)) ∧ W.grownBy w' none) := fun g cL h0 O W K => by
    obtain ⟨ao', cap', ev, C', -⟩ := cv_of_row (owns_keptNone O K)
    simp only [Value.slice.injEq] at ev
    obtain ⟨rfl, -, rfl⟩ := ev
    have hlt0 := hf0 h0
    have e0 : (st.drop (st.length - ar)).getD 0 rp0 = st[st.length - ar] := by
     rw [List.getD_eq_getElem?_getD, List.getElem?_drop, Nat.add_zero, List.getElem?_eq_getElem hlt0]; rfl
    have h := HOV.out W x ((st.drop (st.length - ar)).getD 0 rp0) ((st.drop (st.length - ar)).getD 1 rp0) g ((st.length - ar) * 4) ar (cL - (st.length - ar)) _ (grown_trans HV1.out.2.2 (grown_trans HIN.out.2 K)) ha h0 hfa (by rw [e0]; exact hbv _ (List.getElem_mem _)) (by
     rw [List.getD_eq_getElem?_getD, List.getElem?_drop]
     by_cases hi1 : st.length - ar + 1 < st.length
     ·rw [List.getElem?_eq_getElem hi1]; exact hbv _ (List.getElem_mem _)
     ·rw [List.getElem?_eq_none (by omega)]; exact Nat.zero_le _) (by rw [e0]; exact rp_range C' hlt0) (fun h2 => by
     have hi1 : st.length - ar + 1 < st.length := by omega
     have e1 : (st.drop (st.length - ar)).getD 1 rp0 = st[st.length - ar + 1] := by
      rw [List.getD_eq_getElem?_getD, List.getElem?_drop, List.getElem?_eq_getElem hi1]; rfl
     rw [e1]
     have := rp_range C' hi1
     rw [show (st.length - ar + 1) * 4 = (st.length - ar) * 4 + 4 by omega] at this
     exact this)
    have hrr : overR s x ((st.drop (st.length - ar)).getD 0 rp0) ((st.drop (st.length - ar)).getD 1 rp0) = r := by
     rw [← hr]
     unfold ovR
     rw [ha]
     show _ = if ar = 0 then _ else _
     rw [if_neg (by omega)]
    rw [hrr] at h
    exact h
   obtain ⟨cs, hcs⟩ : ∃ cs, x.cells = cs := ⟨_, rfl⟩
   rw [hcs] at HLEAF HOVR HRN
   have HZ : Hid ((Tryz.prog.info? 52).map (·.size) = some cs.length) := by
    show _ = _
    rw [← hcs]
    exact ng_len x
   have har2 := arG_le ha
   clear hcs hx hnext hov hr hai ha hfa hbv hxm hf0 hst hcc
   generalize x.kind = xk at *
   have hl : (k : Int) < (t.length : Int) := by omega
   have w3 : IntKind.i64.wrap ((k : Int) + 1) = (k : Int) + 1 := by rw [IntKind.wrap_i64]; omega
   obtain ⟨f, hf⟩ : ∃ f, st.length - ar = f := ⟨_, rfl⟩
   rw [hf] at HNX HOVR
   have hfa : st.length = f + ar := by omega
   have q1 : IntKind.i64.wrap ((st.length : Int) - (ar : Int)) = (f : Int) := by rw [IntKind.wrap_i64]; omega
   have HFA : Hid (st.length = f + ar ∧ st.length ≤ 2999) := ⟨hfa, hsl⟩
   clear hf hfa hale
   go_wp2_with fail
   refine (CA _).mono ?_
   rintro e w4 ⟨rfl, hw4⟩
   subst hw4
   clear CA c0
   go_upto_region 7 with (first
    | (refine wpList_bld rfl 46 _ rfl #[] (by kernel_rfl) (.agg (rpA rp0)) bld_rp0 ?_)
    | (refine wpList_store_row rfl 46 (.tmp 8) (.tmp 21) rfl w4.heap.size (rpA rp0) rfl rfl 46 _ (heap_alloc_new w4 _) (HSZ.out _).1 (HSZ.out _).2.1 (HSZ.out _).2.2 ?_))
   rw [World.setRow_alloc_new]
   have HV5 : Hid (VAt (w4.alloc (.cells (rpA rp0) 46)) w4.heap.size 46 (rpA rp0) ∧ w4.grownBy (w4.alloc (.cells (rpA rp0) 46)) none ∧ w4.heap.size ≤ w4.heap.size) := ⟨VAt.alloc _ _ _, World.grownBy_alloc _ _ _, Nat.le_refl _⟩
   generalize w4.alloc (.cells (rpA rp0) 46) = w5 at *
   obtain ⟨V, hV⟩ : ∃ V, w4.heap.size = V := ⟨_, rfl⟩
   have HVE : Hid (w4.heap.size = V) := hV
   rw [hV] at HV5 ⊢
   clear hV
   try simp only [Act.put]
   obtain ⟨aL, cL, hu5, -, hb1, hb2, -, -, -⟩ := cv_of_row HIN.out.1
   subst hu5
   have hcL : cL ≤ 9223372036854775807 := by unfold maxLen at hb2; omega
   have HS5 : Hid (w4.grownBy w5.drew none ∧ ∃ A : Array Value, VAt w5.drew V 46 A ∧ A.size = 4) := ⟨grown_trans HV5.out.2.1 (grown_drewN w5 1 none), _, HV5.out.1.kept (grown_drewN w5 1 none), rfl⟩
   go_upto_if 23 with fail
   go_cut [8] from 23 to 41 (fun pp wx => pp = .pointer (some ⟨V, 0, none⟩) ∧ VAt wx V 46 (rpA r) ∧ w4.grownBy wx none)
   case first =>
    by_cases h0 : ar = 0
    ·have CL := HLEAF.out h0
     subst h0
     clear HLEAF HOVR HNX
     have HCL : Hid _ := CL
     clear CL
     try rw [show (((0 : Nat) : Int) == 0) = true from rfl]
     go_upto_region 8 with fail
     refine wp_region_held_drew (S := fun W => w4.grownBy W none ∧ ∃ A : Array Value, VAt W V 46 A ∧ A.size = 4) (by kernel_rfl) (HS5.out) (fun hHeld => ?_)
     refine wpT (i := 0) (v := .agg (SA)) rfl (yieldsIf_load_row (by rfl) _ _ rfl B rfl 48 (SA) _ (fun W hW => (HV1.out.1.kept (grown_trans HIN.out.2 hW.1))) Tryz.underlying48 rfl HSS) hHeld ?_
     try simp only [Act.put, a0, a1, a3, a4, a5]
     refine wpT (i := 1) (v := .slice (some ⟨b, o, none⟩) t.length cap) rfl (Or.inl ⟨by rfl, fun W hW => ?_⟩) hHeld ?_
     ·clear hW
      go_simp
     try simp only [Act.put, a0, a1, a2, a3, a4, a5]
     refine wpT (i := 2) (v := .int .i64 (k : Int)) rfl (Or.inl ⟨by rfl, fun W hW => ?_⟩) hHeld ?_
     ·clear hW
      go_simp
     try simp only [Act.put, a0, a1, a2, a3, a4, a5]
     refine wpT (i := 3) (v := .pointer (some ⟨b, o + k * 24, none⟩)) rfl (Or.inl ⟨by rfl, fun W hW => ?_⟩) hHeld ?_
     ·clear hW
      go_simp
     try simp only [Act.put, a0, a1, a2, a3, a4, a5]
     refine wpT (i := 4) (v := .agg cs.toArray) rfl (yieldsIf_load_mid (by rfl) 52 (.tmp 27) rfl b (o + k * 24) rfl cs _ (fun W hW => HRN.out W hW.1) Tryz.underlying52 rfl HZ.out) hHeld ?_
     try simp only [Act.put, a0, a1, a2, a3, a4, a5]
     refine wpR (rs := [5]) (AllReadyH.cons rfl (fun K hK => ?_) AllReadyH.nil)
     go_simp
     refine (HCL.out _ hHeld.1).mono ?_
     rintro e w6 ⟨rfl, K6⟩
     go_wp2_with fail
     refine hK.out _ _ (⟨grown_trans hHeld.1 K6, hHeld.2.elim fun A hA => ⟨A, hA.1.kept K6, hA.2⟩⟩) (fun hHeld => ?_)
     clear hK K
     try simp only [Act.put, a0, a1, a2, a3, a4, a5]
     refine wpR (rs := [6]) (AllReadyH.cons rfl (fun K hK => ?_) AllReadyH.nil)
     obtain ⟨hG8, RA, vRA, hRA⟩ := hHeld
     refine step_store_rowM rfl 46 (.tmp 8) (.tmp 29) rfl V (rpA r) rfl rfl 46 RA vRA (HSZ.out _).1 (hRA.trans (HSZ.out _).2.1) (HSZ.out _).2.2 ?_
     have p1 := VAt.setRow vRA (rpA r)
     have p2 := vgrown_setRow hG8 V (rpA r) (.inr (Nat.le_of_eq HVE.out))
     refine hK.out _ _ ⟨p2, _, p1, rfl⟩ (fun _ => ?_)
     clear hK K
     try simp only [Act.put]
     refine wpAnyH_done (by kernel_rfl) ?_ _
     have HP : Hid (VAt _ V 46 (rpA r) ∧ w4.grownBy _ none) := ⟨p1, p2⟩
     clear p1 p2 hG8 vRA
     go_wp2
     go_meet
     exact ⟨rfl, HP.out.1, HP.out.2⟩
    ·have har : 0 < ar := by omega
     rcases HIN.out.1.2 with ⟨hv0, hz0⟩ | ⟨g, cap0, cur, hv0, -⟩
     ·exfalso
      have := HFA.out.1
      omega
     ·simp only [Value.slice.injEq] at hv0
      obtain ⟨rfl, -, rfl⟩ := hv0
      have HCL : Hid _ := HOVR.out g cL har HIN.out.1
      have hab : ((ar : Int) == 0) = false := by rw [beq_eq_false_iff_ne]; omega
      have hfq := HFA.out.1
      have hcne : ¬ cL = f := by omega
      have hcf : ¬ cL < f := by omega
      have hsl2 : st.length - f = ar := by omega
      have hle : (f : Int) ≤ (st.length : Int) := by omega
      clear HLEAF HOVR HNX h0 hfq
      go_upto_region 9 with fail
      refine wp_region_held_drew (S := fun W => w4.grownBy W none ∧ ∃ A : Array Value, VAt W V 46 A ∧ A.size = 4) (by kernel_rfl) (HS5.out) (fun hHeld => ?_)
      refine wpT (i := 0) (v := .agg (SA)) rfl (yieldsIf_load_row (by rfl) _ _ rfl B rfl 48 (SA) _ (fun W hW => (HV1.out.1.kept (grown_trans HIN.out.2 hW.1))) Tryz.underlying48 rfl HSS) hHeld ?_
      try simp only [Act.put, a0, a1, a3, a4, a5]
      refine wpT (i := 1) (v := .slice (some ⟨b, o, none⟩) t.length cap) rfl (Or.inl ⟨by rfl, fun W hW => ?_⟩) hHeld ?_
      ·clear hW
       go_simp
      try simp only [Act.put, a0, a1, a2, a3, a4, a5]
      refine wpT (i := 2) (v := .int .i64 (k : Int)) rfl (Or.inl ⟨by rfl, fun W hW => ?_⟩) hHeld ?_
      ·clear hW
       go_simp
      try simp only [Act.put, a0, a1, a2, a3, a4, a5]
      refine wpT (i := 3) (v := .pointer (some ⟨b, o + k * 24, none⟩)) rfl (Or.inl ⟨by rfl, fun W hW => ?_⟩) hHeld ?_
      ·clear hW
       go_simp
      try simp only [Act.put, a0, a1, a2, a3, a4, a5]
      refine wpT (i := 4) (v := .agg cs.toArray) rfl (yieldsIf_load_mid (by rfl) 52 (.tmp 33) rfl b (o + k * 24) rfl cs _ (fun W hW => HRN.out W hW.1) Tryz.underlying52 rfl HZ.out) hHeld ?_
      try simp only [Act.put, a0, a1, a2, a3, a4, a5]
      refine wpT (i := 5) (v := .slice (some ⟨g, 0, none⟩) st.length cL) rfl (Or.inl ⟨by rfl, fun W hW => ?_⟩) hHeld ?_
      ·clear hW
       go_simp
      try simp only [Act.put, a0, a1, a2, a3, a4, a5]
      refine wpT (i := 6) (v := .slice (some ⟨g, 0, none⟩) st.length cL) rfl (Or.inl ⟨by rfl, fun W hW => ?_⟩) hHeld ?_
      ·clear hW
       go_simp
      try simp only [Act.put, a0, a1, a2, a3, a4, a5]
      refine wpT (i := 7) (v := .int .i64 (st.length : Int)) rfl (Or.inl ⟨by rfl, fun W hW => ?_⟩) hHeld ?_
      ·clear hW
       go_simp
      try simp only [Act.put, a0, a1, a2, a3, a4, a5]
      refine wpT (i := 8) (v := .int .i64 (ar : Int)) rfl (Or.inl ⟨by rfl, fun W hW => ?_⟩) hHeld ?_
      ·clear hW
       go_simp
      try simp only [Act.put, a0, a1, a2, a3, a4, a5]
      refine wpT (i := 9) (v := .int .i64 (f : Int)) rfl (Or.inl ⟨by rfl, fun W hW => ?_⟩) hHeld ?_
      ·clear hW
       go_simp
      try simp only [Act.put, a0, a1, a2, a3, a4, a5]
      refine wpT (i := 10) (v := .slice (some ⟨g, f * 4, none⟩) ar (cL - f)) rfl (Or.inl ⟨by rfl, fun W hW => ?_⟩) hHeld ?_
      ·clear hW
       go_simp
      try simp only [Act.put, a0, a1, a2, a3, a4, a5]
      refine wpR (rs := [11]) (AllReadyH.cons rfl (fun K hK => ?_) AllReadyH.nil)
      go_simp
      refine (HCL.out _ hHeld.1).mono ?_
      rintro e w6 ⟨rfl, K6⟩
      go_wp2_with fail
      refine hK.out _ _ (⟨grown_trans hHeld.1 K6, hHeld.2.elim fun A hA => ⟨A, hA.1.kept K6, hA.2⟩⟩) (fun hHeld => ?_)
      clear hK K
      try simp only [Act.put, a0, a1, a2, a3, a4, a5]
      refine wpR (rs := [12]) (AllReadyH.cons rfl (fun K hK => ?_) AllReadyH.nil)
      obtain ⟨hG8, RA, vRA, hRA⟩ := hHeld
      refine step_store_rowM rfl 46 (.tmp 8) (.tmp 41) rfl V (rpA r) rfl rfl 46 RA vRA (HSZ.out _).1 (hRA.trans (HSZ.out _).2.1) (HSZ.out _).2.2 ?_
      have p1 := VAt.setRow vRA (rpA r)
      have p2 := vgrown_setRow hG8 V (rpA r) (.inr (Nat.le_of_eq HVE.out))
      refine hK.out _ _ ⟨p2, _, p1, rfl⟩ (fun _ => ?_)
      clear hK K
      try simp only [Act.put]
      refine wpAnyH_done (by kernel_rfl) ?_ _
      have HP : Hid (VAt _ V 46 (rpA r) ∧ w4.grownBy _ none) := ⟨p1, p2⟩
      clear p1 p2 hG8 vRA
      go_wp2
      go_meet
      exact ⟨rfl, HP.out.1, HP.out.2⟩
   case rest =>
   obtain ⟨rfl, V7, K7⟩ := hcut
   obtain ⟨w7, hw7⟩ : ∃ w7 : World, w7 = wc := ⟨_, rfl⟩
   subst hw7
   have HV7 : Hid (VAt w7 V 46 (rpA r) ∧ w4.grownBy w7 none) := ⟨V7, K7⟩
   clear V7 K7 HS5 HV5 HLEAF HOVR
   have HRP : Hid (∀ W : World, (Instr.buildSlice 64 1 #[(0, .agg (rpA r))]).run Tryz.prog W = .ok (.slice (some ⟨W.heap.size, 0, none⟩) 1 1) (W.alloc (.cells (rpL r).toArray 46))) := lit_rp r
   have HLE : Hid ((st.take f ++ [r]).length = f + 1 ∧ flatR (st.take f ++ [r]) = flatR (st.take f) ++ rpL r ∧ (∀ u ∈ rpL r, u.oneCell' = true)) := by
    refine ⟨?_, ?_, fun u hu => flatR_one [r] u (by simpa [flatR] using hu)⟩
    ·rw [List.length_append, List.length_take, List.length_singleton]
     have := HFA.out
     omega
    ·rw [flatR_append]
     simp [flatR]
   go_upto_region 10 with fail
   rcases HIN.out.1.2 with ⟨hv0, hz0⟩ | ⟨g, cap0, cur, hv0, -⟩
   ·simp only [Value.slice.injEq] at hv0
    obtain ⟨rfl, -, rfl⟩ := hv0
    have hfq := HFA.out.1
    obtain rfl : st = [] := List.eq_nil_of_length_eq_zero hz0
    simp only [List.length_nil] at hfq
    obtain rfl : f = 0 := by omega
    obtain rfl : ar = 0 := by omega
    have HAPP : Hid (∀ W, w4.grownBy W none → W.ownsRow w1.heap.size 46 4 (.slice none 0 0) 0 (flatR (([] : List Rp).take 0))) := fun W _ => World.ownsRow_nil _ _ _ _
    have HOB : Hid (∀ x, (Value.slice none 0 0).ownBlock = some x → w1.heap.size ≤ x) := fun x hx => by cases hx
    have HOK : Hid ((Value.slice none 0 0).ownBlock ≠ some V) := fun e => by cases e
    have hw0 : IntKind.i64.wrap 0 = 0 := by rw [IntKind.wrap_i64]; rfl
    rw [show ([] : List Rp).length = 0 from rfl]
    have HZ0 : Hid ((([] : List Rp).take 0 ++ [r]) = [r]) := rfl
    clear hfq hz0 q1 hb1 hsl
    have HD : Hid (VAt w7.drew V 46 (rpA r) ∧ w4.grownBy w7.drew none) := ⟨HV7.out.1.kept (grown_drewN w7 1 none), grown_trans HV7.out.2 (grown_drewN w7 1 none)⟩
    refine wp_region_held_drew (S := fun W => VAt W V 46 (rpA r)) (by kernel_rfl) (HD.out.1) (fun hHeld => ?_)
    refine wpT (i := 0) (v := .slice none 0 0) rfl (Or.inl ⟨by rfl, fun W hW => ?_⟩) hHeld ?_
    ·clear hW
     go_simp
    try simp only [Act.put, a0, a1, a3, a4, a5]
    refine wpT (i := 1) (v := .slice none 0 0) rfl (Or.inl ⟨by rfl, fun W hW => ?_⟩) hHeld ?_
    ·clear hW
     go_simp
    try simp only [Act.put, a0, a1, a2, a3, a4, a5]
    refine wpT (i := 2) (v := .int .i64 0) rfl (Or.inl ⟨by rfl, fun W hW => ?_⟩) hHeld ?_
    ·clear hW
     go_simp
    try simp only [Act.put, a0, a1, a2, a3, a4, a5]
    refine wpT (i := 3) (v := .int .i64 0) rfl (Or.inl ⟨by rfl, fun W hW => ?_⟩) hHeld ?_
    ·clear hW
     go_simp
    try simp only [Act.put, a0, a1, a2, a3, a4, a5]
    refine wpT (i := 4) (v := .int .i64 0) rfl (Or.inl ⟨by rfl, fun W hW => ?_⟩) hHeld ?_
    ·clear hW
     go_simp
    try simp only [Act.put, a0, a1, a2, a3, a4, a5]
    refine wpT (i := 5) (v := .slice none 0 0) rfl (Or.inl ⟨by rfl, fun W hW => ?_⟩) hHeld ?_
    ·clear hW
     go_simp
    try simp only [Act.put, a0, a1, a2, a3, a4, a5]
    refine wpT (i := 6) (v := .agg (rpA r)) rfl (yieldsIf_load_row (by rfl) _ _ rfl V rfl 46 (rpA r) _ (fun W hW => hW) Tryz.underlying46 rfl (HSZ.out _).1) hHeld ?_
    try simp only [Act.put, a0, a1, a2, a3, a4, a5]
    refine wpR (rs := [7]) (AllReadyH.cons rfl (fun K hK => ?_) AllReadyH.nil)
    refine step_lit (by rfl) 64 1 #[(0, .tmp 48)] (by rfl) #[(0, .agg (rpA r))] (by kernel_rfl) (rpL r) 46 HRP.out ?_
    intro ad wA CA KA
    have GA := grown_trans HD.out.2 KA
    refine hK.out _ _ (hHeld.kept KA) (fun hHeld => ?_)
    clear hK K KA HD
    try simp only [Act.put, a0, a1, a2, a3, a4, a5]
    refine wpR (rs := [8]) (AllReadyH.cons rfl (fun K hK => ?_) AllReadyH.nil)
    refine step_append_own (by rfl) (.tmp 47) (.tmp 49) 64 (by rfl) 46 i0 _ 4 16 Tryz.underlying64 HI.out.1 HI.out.2.1 HI.out.2.2.1 HI.out.2.2.2 rfl (by decide) w1.heap.size (.slice none 0 0) 0 (flatR (([] : List Rp).take 0)) (by rfl) (HAPP.out _ GA) ad 1 1 (rpL r) (by rfl) rfl CA HLE.out.2.2 (by have := HFA.out; unfold maxLen; omega) (by have := HFA.out; omega) (Nat.le_trans HIN.out.2.size GA.size) ?_
    intro vB wB OB KB BB
    have GB := grown_trans_new (grown_trans HIN.out.2 GA) KB HOB.out
    have HPB : VAt wB V 46 (rpA r) := hHeld.grown KB HOK.out
    have HFN : Hid (wB.ownsRow w1.heap.size 46 4 vB (evalR s [] (t.take (k + 1))).length (flatR (evalR s [] (t.take (k + 1)))) ∧ w1.grownBy wB none) := by
     rw [HNX.out, HLE.out.1, HLE.out.2.1]
     exact ⟨OB, GB⟩
    refine hK.out _ _ HPB (fun hHeld => ?_)
    clear hK K OB KB BB GA GB CA HPB
    try simp only [Act.put, a0, a1, a2, a3, a4, a5]
    refine wpT (i := 9) (v := vB) rfl (Or.inl ⟨by rfl, fun W hW => ?_⟩) hHeld ?_
    ·clear hW
     go_simp
    try simp only [Act.put, a0, a1, a2, a3, a4, a5]
    refine wpAnyH_done (by kernel_rfl) ?_ _
    clear hHeld
    go_wp2
    go_roundw
    case rel => exact ⟨k + 1, by omega, by go_num, HFN⟩
    case measure => simp [intOf]; omega
   ·simp only [Value.slice.injEq] at hv0
    obtain ⟨rfl, -, rfl⟩ := hv0
    have HAPP : Hid (∀ W, w4.grownBy W none → W.ownsRow w1.heap.size 46 4 (.slice (some ⟨g, 0, none⟩) f cL) f (flatR (st.take f))) := fun W GW => by
     have := owns_take (owns_keptNone HIN.out.1 GW) (m := f) (by have := HFA.out.1; omega)
     rw [flatR_take] at this
     exact this
    have HOB : Hid (∀ x, (Value.slice (some ⟨g, 0, none⟩) f cL).ownBlock = some x → w1.heap.size ≤ x) := fun x hx => by
     cases hx
     exact (HIN.out.1.lt g rfl).1
    have HOK : Hid ((Value.slice (some ⟨g, 0, none⟩) f cL).ownBlock ≠ some V) := fun e => by
     have h1 : g = V := Option.some.inj e
     have h2 : g < w4.heap.size := (HIN.out.1.lt g rfl).2
     have h3 := HVE.out
     omega
    have hle : (f : Int) ≤ (st.length : Int) := by have := HFA.out.1; omega
    have hcl2 : (f : Int) ≤ (cL : Int) := by have := HFA.out.1; omega
    have HD : Hid (VAt w7.drew V 46 (rpA r) ∧ w4.grownBy w7.drew none) := ⟨HV7.out.1.kept (grown_drewN w7 1 none), grown_trans HV7.out.2 (grown_drewN w7 1 none)⟩
    refine wp_region_held_drew (S := fun W => VAt W V 46 (rpA r)) (by kernel_rfl) (HD.out.1) (fun hHeld => ?_)
    refine wpT (i := 0) (v := .slice (some ⟨g, 0, none⟩) st.length cL) rfl (Or.inl ⟨by rfl, fun W hW => ?_⟩) hHeld ?_
    ·clear hW
     go_simp
    try simp only [Act.put, a0, a1, a3, a4, a5]
    refine wpT (i := 1) (v := .slice (some ⟨g, 0, none⟩) st.length cL) rfl (Or.inl ⟨by rfl, fun W hW => ?_⟩) hHeld ?_
    ·clear hW
     go_simp
    try simp only [Act.put, a0, a1, a2, a3, a4, a5]
    refine wpT (i := 2) (v := .int .i64 (st.length : Int)) rfl (Or.inl ⟨by rfl, fun W hW => ?_⟩) hHeld ?_
    ·clear hW
     go_simp
    try simp only [Act.put, a0, a1, a2, a3, a4, a5]
    refine wpT (i := 3) (v := .int .i64 (ar : Int)) rfl (Or.inl ⟨by rfl, fun W hW => ?_⟩) hHeld ?_
    ·clear hW
     go_simp
    try simp only [Act.put, a0, a1, a2, a3, a4, a5]
    refine wpT (i := 4) (v := .int .i64 (f : Int)) rfl (Or.inl ⟨by rfl, fun W hW => ?_⟩) hHeld ?_
    ·clear hW
     go_simp
    try simp only [Act.put, a0, a1, a2, a3, a4, a5]
    refine wpT (i := 5) (v := .slice (some ⟨g, 0, none⟩) f cL) rfl (Or.inl ⟨by rfl, fun W hW => ?_⟩) hHeld ?_
    ·clear hW
     go_simp
    try simp only [Act.put, a0, a1, a2, a3, a4, a5]
    refine wpT (i := 6) (v := .agg (rpA r)) rfl (yieldsIf_load_row (by rfl) _ _ rfl V rfl 46 (rpA r) _ (fun W hW => hW) Tryz.underlying46 rfl (HSZ.out _).1) hHeld ?_
    try simp only [Act.put, a0, a1, a2, a3, a4, a5]
    refine wpR (rs := [7]) (AllReadyH.cons rfl (fun K hK => ?_) AllReadyH.nil)
    refine step_lit (by rfl) 64 1 #[(0, .tmp 48)] (by rfl) #[(0, .agg (rpA r))] (by kernel_rfl) (rpL r) 46 HRP.out ?_
    intro ad wA CA KA
    have GA := grown_trans HD.out.2 KA
    refine hK.out _ _ (hHeld.kept KA) (fun hHeld => ?_)
    clear hK K KA HD
    try simp only [Act.put, a0, a1, a2, a3, a4, a5]
    refine wpR (rs := [8]) (AllReadyH.cons rfl (fun K hK => ?_) AllReadyH.nil)
    refine step_append_own (by rfl) (.tmp 47) (.tmp 49) 64 (by rfl) 46 i0 _ 4 16 Tryz.underlying64 HI.out.1 HI.out.2.1 HI.out.2.2.1 HI.out.2.2.2 rfl (by decide) w1.heap.size (.slice (some ⟨g, 0, none⟩) f cL) f (flatR (st.take f)) (by rfl) (HAPP.out _ GA) ad 1 1 (rpL r) (by rfl) rfl CA HLE.out.2.2 (by have := HFA.out; unfold maxLen; omega) (by have := HFA.out; omega) (Nat.le_trans HIN.out.2.size GA.size) ?_
    intro vB wB OB KB BB
    have GB := grown_trans_new (grown_trans HIN.out.2 GA) KB HOB.out
    have HPB : VAt wB V 46 (rpA r) := hHeld.grown KB HOK.out
    have HFN : Hid (wB.ownsRow w1.heap.size 46 4 vB (evalR s [] (t.take (k + 1))).length (flatR (evalR s [] (t.take (k + 1)))) ∧ w1.grownBy wB none) := by
     rw [HNX.out, HLE.out.1, HLE.out.2.1]
     exact ⟨OB, GB⟩
    refine hK.out _ _ HPB (fun hHeld => ?_)
    clear hK K OB KB BB GA GB CA HPB
    try simp only [Act.put, a0, a1, a2, a3, a4, a5]
    refine wpT (i := 9) (v := vB) rfl (Or.inl ⟨by rfl, fun W hW => ?_⟩) hHeld ?_
    ·clear hW
     go_simp
    try simp only [Act.put, a0, a1, a2, a3, a4, a5]
    refine wpAnyH_done (by kernel_rfl) ?_ _
    clear hHeld
    go_wp2
    go_roundw
    case rel => exact ⟨k + 1, by omega, by go_num, HFN⟩
    case measure => simp [intOf]; omega
  ·obtain rfl : k = t.length := by omega
   obtain ⟨r, hr, hrq⟩ := HFIN.out
   rw [List.take_length, hr] at HIN
   obtain ⟨aL, cL, hu5, C7, hb1, hb2, -, hbs, -⟩ := cv_of_row HIN.out.1
   subst hu5
   rcases HIN.out.1.2 with ⟨hv0, hz0⟩ | ⟨g, cap0, cur, hv0, -⟩
   ·simp only [List.length_singleton] at hz0
    omega
   ·simp only [Value.slice.injEq] at hv0
    obtain ⟨rfl, -, rfl⟩ := hv0
    have HR : Hid (∀ W, wr.grownBy W none → W.rangeAt g 0 (rpL r)) := fun W K => by
     have := rp_range (C7.keptNone K) (i := 0) (by simp)
     simpa using this
    have HT : Hid (VAt wr (B + 1) 46 #[.int .u32 0, .bool false, .bool false, .int .i64 0] ∧ w.grownBy wr none ∧ (Tryz.prog.info? 46).map (·.size) = some (rpL r).length ∧ 4 = (rpL r).toArray.size ∧ (rpL r).toArray.all (·.oneCell') = true) := ⟨HV1.out.2.1.kept HIN.out.2, grown_trans HV1.out.2.2 HIN.out.2, rp_len, rfl, rp_all r⟩
    have HRE : Hid (RqOk p ((evalM s [] t).getD 0 pm0) r ∧ (rpL r).toArray = rpA r) := ⟨hrq, rfl⟩
    obtain ⟨RL, hRL⟩ : ∃ L, rpL r = L := ⟨_, rfl⟩
    rw [hRL] at HR HT HRE
    clear hRL hr hrq C7 hb1 hb2 hbs
    rw [show [r].length = 1 from rfl]
    have hl : ¬ (t.length : Int) < (t.length : Int) := by omega
    go_upto_region 11 with fail
    go_wp2_with (first
     | (refine wpList_load_mid rfl 46 (.tmp 52) rfl g 0 rfl RL _ (HR.out wr (World.grownBy.refl _ _)) Tryz.underlying46 rfl HT.out.2.2.1 ?_)
     | (refine wpList_store_row rfl 46 (.tmp 4) (.tmp 53) rfl (B + 1) RL.toArray rfl rfl 46 _ HT.out.1 HT.out.2.2.1 HT.out.2.2.2.1 HT.out.2.2.2.2 ?_))
    refine bodyPost_ret (results_cell_row rfl _ _ (B + 1) _ RL.toArray (0, 0) _ rfl (HT.out.1.setRow _) Tryz.underlying46 rfl HT.out.2.2.1) rfl ?_
    exact ⟨r, by rw [HRE.out.2], HRE.out.1, vgrown_setRow HT.out.2.1 _ _ (.inr HB.out)⟩

end Go.Proofs.YtcodofamdhcfiaaGreat
