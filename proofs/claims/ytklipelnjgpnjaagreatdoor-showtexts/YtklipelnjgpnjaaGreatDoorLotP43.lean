import Derived.Test.YtklipelnjgpnjaaGreatDoorAb
import Derived.Test.YtklipelnjgpnjaaGreatDoorLotP42
import Derived.Test.YtklipelnjgpnjaaGreatDoorLotP28
namespace Go.Proofs.YtklipelnjgpnjaaGreatDoor
open Go.RowKit
set_option maxRecDepth 100000
def showR (full : Bool) (T : Tr) : Value := if 200 < (T.txt full).2 then .tuple #[str [], .int .i64 131] else .tuple #[str (T.txt full).1, .int .i64 0]
set_option maxRecDepth 100000 in
set_option maxHeartbeats 16000000 in
theorem refshow_of (ao : Option Addr) (cap : Nat) (t : List Ng) (full : Bool) (HNODE : ∀ x ∈ t, NodeOk x) (HOVER : ∀ x ∈ t, OverOk full x) (T : Tr) (hT : T.Wf) (hTf : T.flat = t) (w : World) (C : CV w ao (flatG t)) (hok : (checkG t).2 = 0) (hn : ∀ x ∈ t, x.n ≤ 4294967295) (hmm : ∀ x ∈ t, x.m ≤ 4294967295) :
  Calls Tryz.prog 9 #[.slice ao t.length cap, .bool full] w fun e w' => e = .returned (showR full T) ∧ w.grownBy w' none := by
 have hlen := filt_len hok
 have CF := filter12_of ao cap t HNODE w C (by omega) hn
 have HOVR : Hid (∀ x ∈ t, OverOk full x) := HOVER
 clear HNODE HOVER
 rw [hok] at CF
 have HC : Hid (CV w ao (flatG t)) := C
 have HTR : Hid (leftG 0 t = some 1) := by unfold Hid; rw [← hTf]; exact Tr.flat_left hT
 have HNF : Hid (∀ k (h : k < t.length), t[k].n ≤ 4294967295 ∧ t[k].m ≤ 4294967295 ∧ formG t[k] = true ∧ rangeE t[k] = 0) := fun k h => by
  obtain ⟨q, hq, -⟩ := filt_iff.1 hok
  have hw := walk_form t [] _ 0 hq t[k] (List.getElem_mem h)
  exact ⟨hn _ (List.getElem_mem h), hmm _ (List.getElem_mem h), hw.1, hw.2.1⟩
 have HTT : Hid (T.Wf ∧ T.flat = t) := ⟨hT, hTf⟩
 obtain ⟨i0, hi0, hz0, hz1, hz2⟩ := info_parts info_text
 have HI : Hid (Tryz.prog.info? 47 = some i0 ∧ i0.zero = some (.agg #[.string ⟨#[]⟩, .int .i64 0, .int .i64 0]) ∧ i0.size = 3 ∧ i0.bytes = 32) := ⟨hi0, hz0, hz1, hz2⟩
 clear C hn hmm hok hi0 hz0 hz1 hz2 hT hTf
 go_enter Tryz.func9, Tryz.ntmps9
 go_wp2_with fail
 refine CF.mono ?_
 rintro e w1 ⟨rfl, K1⟩
 have HK1 : Hid (w.grownBy w1 none) := K1
 clear CF K1
 go_wp2
 go_loopw [6, 7] (fun v i wr => ∃ k : Nat, k ≤ t.length ∧ i = .int .i64 k ∧ Hid (∃ Fs : List Tr, Fs.length ≤ k ∧ Fo full t k Fs ∧ XOwns wr w.heap.size v (Fs.map (Tr.tx full)) ∧ w.grownBy wr none)) (fun _ i _ => t.length - (intOf i).toNat)
 case atStart => exact ⟨0, Nat.zero_le _, rfl, [], Nat.le_refl _, ⟨(fun T hT => by cases hT), rfl⟩, World.ownsRow_nil _ _ _ _, HK1.out⟩
 case round =>
  obtain ⟨k, hk, rfl, HI4⟩ := hrel
  obtain ⟨Fs, hFl, hFo, O, G⟩ := HI4.out
  by_cases hlt : k < t.length
  ·obtain ⟨b, o, rfl, hc⟩ := (HC.out.keptNone G).ngs hlt
   have c0 := hc k hlt 0 (.int .i64 t[k].kind) rfl
   rw [Nat.add_zero] at c0
   have HR : Hid (∀ W, w.grownBy W none → W.rangeAt b (o + k * 24) t[k].cells) := fun W GW => by
    obtain ⟨b', o', e', hc'⟩ := (HC.out.keptNone GW).ngs hlt
    simp only [Option.some.injEq, Addr.mk.injEq] at e'
    obtain ⟨rfl, rfl, -⟩ := e'
    exact hc' k hlt
   obtain ⟨hxn, hxm, hxf, hxr⟩ := HNF.out k hlt
   have HZ : Hid ((Tryz.prog.info? 43).map (·.size) = some t[k].cells.length) := ng_len _
   obtain ⟨a, ha, hal⟩ := hFo.parts HTR.out hlt
   have HNXT : Hid (Fo full t (k + 1) (Fs.take (Fs.length - a) ++ [Tr.mk t[k] (Fs.drop (Fs.length - a))])) := hFo.next hlt ha hal
   have HWF : Hid (∀ U ∈ Fs, U.flat.length ≤ 3000) := fun U hU => by
    have h1 : U.flat.length ≤ (Fs.flatMap Tr.flat).length := by
     rw [List.flatMap_def]
     exact (List.sublist_flatten_of_mem (List.mem_map_of_mem hU)).length_le
    rw [hFo.flat, List.length_take] at h1
    omega
   have HO : Hid (XOwns wr w.heap.size u6 (Fs.map (Tr.tx full))) := O
   have HG : Hid (w.grownBy wr none) := G
   obtain ⟨aL, cL, rfl, -, hb1, hb2, -, -, -⟩ := cv_of_row O
   have CA := arity12_any t[k].kind
   have hai : arI t[k].kind = (a : Int) := by unfold arI; rw [ha]
   rw [hai] at CA
   have HLEAF0 : Hid (a = 0 → ∀ W : World, Calls Tryz.prog 22 #[.agg t[k].cells.toArray] W fun e w' => e = .returned (str (leafT t[k])) ∧ W.grownBy w' none) := fun h0 W => by
    obtain ⟨g1, g2, g3, g4, g5, g6, g7, -⟩ := form_node hxf hxr
    exact leaf13_any t[k] W (by rw [ha, h0]) ⟨g1, g2⟩ ⟨g3, g4⟩ ⟨g5, g6⟩ hxn hxm g7
   have HOV : Hid (∀ (ps : List Tx), ps.length = a → ps ≠ [] → (∀ p ∈ ps, p.s.length ≤ 1099511627000 ∧ p.deep ≤ 1099511627000) → ∀ (ao : Option Addr) (cap : Nat) (W : World), CV W ao (flatX ps) → Calls Tryz.prog 23 #[.agg t[k].cells.toArray, .slice ao a cap, .bool full] W fun e w' => e = .returned (.agg (overX t[k] ps full).cells.toArray) ∧ W.grownBy w' none) := fun ps h1 h2 h3 ao cap W CW => by subst h1; exact HOVR.out t[k] (List.getElem_mem _) ps ao cap W CW ha h2 hxf hxr h3
   have hl : (k : Int) < (t.length : Int) := by omega
   have z0 : (0 : Int) ≤ (k : Int) := by omega
   have w3 : IntKind.i64.wrap ((k : Int) + 1) = (k : Int) + 1 := by rw [IntKind.wrap_i64]; omega
   have hcL : cL ≤ 9223372036854775807 := by unfold maxLen at hb2; omega
   have HHA : Hid (arG t[k].kind = some a ∧ a ≤ Fs.length) := ⟨ha, hal⟩
   have hale := arG_le ha
   clear hc O G HI4 hb2 hxn hxm hxf hxr hai
   obtain ⟨x, hx⟩ : ∃ x, t[k] = x := ⟨_, rfl⟩
   rw [hx] at HR HZ c0 CA HLEAF0 HOV HNXT HHA
   obtain ⟨cs, hcs⟩ : ∃ cs, x.cells = cs := ⟨_, rfl⟩
   rw [hcs] at HR HZ HLEAF0 HOV
   rw [hx] at ha
   clear hx hcs hFo
   obtain ⟨xk, hxk⟩ : ∃ xk, x.kind = xk := ⟨_, rfl⟩
   rw [hxk] at c0 CA
   clear hxk
   have hml : (Fs.map (Tr.tx full)).length = Fs.length := by simp
   obtain ⟨n, hnl⟩ : ∃ n, Fs.length = n := ⟨_, rfl⟩
   rw [hml, hnl] at hb1 ⊢
   rw [hnl] at hal hFl HNXT
   have HNL : Hid (Fs.length = n ∧ (Fs.map (Tr.tx full)).length = n) := ⟨hnl, hml.trans hnl⟩
   clear hml hnl
   obtain ⟨f, hf⟩ : ∃ f, f = n - a := ⟨_, rfl⟩
   have q1 : IntKind.i64.wrap ((n : Int) - (a : Int)) = (f : Int) := by rw [IntKind.wrap_i64]; omega
   have hle : (f : Int) ≤ (n : Int) := by omega
   have HFL : Hid (n = f + a) := by unfold Hid; omega
   rw [← hf] at HNXT
   have HEND : Hid (∀ (vB : Value) (wB : World) (q : Tx), q = (Tr.mk x (Fs.drop f)).tx full → XOwns wB w.heap.size vB ((Fs.map (Tr.tx full)).take f ++ [q]) → w.grownBy wB none → ∃ Fs' : List Tr, Fs'.length ≤ k + 1 ∧ Fo full t (k + 1) Fs' ∧ XOwns wB w.heap.size vB (Fs'.map (Tr.tx full)) ∧ w.grownBy wB none) := fun vB wB q hq OX GX => by
    refine ⟨_, ?_, HNXT.out, ?_, GX⟩
    ·rw [List.length_append, List.length_take, List.length_singleton, HNL.out.1]
     omega
    ·rw [List.map_append, List.map_take, List.map_cons, List.map_nil, ← hq]
     exact OX
   have HLN : Hid (∀ q : Tx, ((Fs.map (Tr.tx full)).take f ++ [q]).length = f + 1) := fun q => by
    rw [List.length_append, List.length_take, List.length_singleton, HNL.out.2]
    have := HFL.out
    omega
   have hfk : f ≤ 3000 := by omega
   clear hf
   go_wp2_with fail
   refine (CA _).mono ?_
   rintro e w4 ⟨rfl, rfl⟩
   clear CA
   have VV := VAt.alloc w4 47 #[.string ⟨#[]⟩, .int .i64 12, .int .i64 0]
   have KV := World.grownBy_alloc w4 (.cells #[.string ⟨#[]⟩, .int .i64 12, .int .i64 0] 47) none
   have V0 := VAt.alloc w4 47 #[.string ⟨#[]⟩, .int .i64 0, .int .i64 0]
   have a0 : (w4.alloc (.cells #[.string ⟨#[]⟩, .int .i64 0, .int .i64 0] 47)).cell? ⟨w4.heap.size, 0, none⟩ = some (.string ⟨#[]⟩) := V0.cell 0
   have a1 : (w4.alloc (.cells #[.string ⟨#[]⟩, .int .i64 0, .int .i64 0] 47)).cell? ⟨w4.heap.size, 1, none⟩ = some (.int .i64 0) := V0.cell 1
   have a2 : (w4.alloc (.cells #[.string ⟨#[]⟩, .int .i64 0, .int .i64 0] 47)).cell? ⟨w4.heap.size, 2, none⟩ = some (.int .i64 0) := V0.cell 2
   have g0 := V0.free 0
   have g1 := V0.free 1
   have g2 := V0.free 2
   go_upto_region 9 with fail
   have HVL : Hid (w4.heap.size ≤ w4.heap.size) := Nat.le_refl _
   obtain ⟨V, hV⟩ : ∃ V, w4.heap.size = V := ⟨_, rfl⟩
   rw [hV] at VV ⊢
   have HVL : Hid (w4.heap.size ≤ V) := Nat.le_of_eq hV
   clear V0 a0 a1 a2 g0 g1 g2 hV c0
   generalize w4.alloc (.cells #[.string ⟨#[]⟩, .int .i64 12, .int .i64 0] 47) = w5 at *
   have HO1 : w4.ownsRow w.heap.size 47 3 (.slice aL n cL) n (flatX (Fs.map (Tr.tx full))) := by
    have := HO.out
    unfold XOwns at this
    rw [HNL.out.2] at this
    exact this
   have HOW : Hid (∀ W, w4.grownBy W none → W.ownsRow w.heap.size 47 3 (.slice aL n cL) n (flatX (Fs.map (Tr.tx full)))) := fun W GW => owns_keptNone HO1 GW
   have HLT : Hid (∀ g, aL = some ⟨g, 0, none⟩ → w.heap.size ≤ g ∧ g < w4.heap.size) := fun g hg => HO1.lt g (by rw [hg]; rfl)
   have hcase := HO1.2
   clear HO1 HO
   by_cases hz : a = 0
   ·subst hz
    have HLEAF : Hid _ := HLEAF0.out rfl
    have HLQ : Hid ((⟨leafT x, 12, 0⟩ : Tx) = (Tr.mk x (Fs.drop f)).tx full) := by
     unfold Hid
     rw [List.drop_eq_nil_of_le (by rw [HNL.out.1]; have := HFL.out; omega)]
     exact (tx_leaf full HHA.out.1).symm
    clear HOV HLEAF0 HWF HHA HTR HNF HTT
    rcases hcase with ⟨hv0, h0⟩ | ⟨g, cap0, cur, hv0, -⟩
    ·simp only [Value.slice.injEq] at hv0
     obtain ⟨rfl, hn0, rfl⟩ := hv0
     subst hn0
     obtain rfl : f = 0 := by have := HFL.out; omega
     obtain rfl : Fs = [] := List.eq_nil_of_length_eq_zero HNL.out.1
     have HAPP : Hid (∀ W, w4.grownBy W none → W.ownsRow w.heap.size 47 3 (.slice none 0 0) 0 (flatX ((([] : List Tr).map (Tr.tx full)).take 0))) := fun W _ => World.ownsRow_nil _ _ _ _
     have HOB : Hid (∀ x, (Value.slice none 0 0).ownBlock = some x → w.heap.size ≤ x) := fun x hx => by cases hx
     have HOK : Hid (∀ V, w4.heap.size ≤ V → (Value.slice none 0 0).ownBlock ≠ some V) := fun V _ e => by cases e
     have hw0 : IntKind.i64.wrap 0 = 0 := by rw [IntKind.wrap_i64]; rfl
     clear HOW HLT h0 hle q1 hal hale hb1 HNL HFL ha
     have CLF := HLEAF.out
     go_wp2_with (refine wpList_load_mid rfl 43 (.tmp 30) rfl b (o + k * 24) (by simp [Act.eval]) cs _ (HR.out _ (grown_trans HG.out KV)) Tryz.underlying43 rfl HZ.out ?_)
     refine (CLF _).mono ?_
     rintro e w6 ⟨rfl, K6⟩
     have V6 := VV.kept K6
     have GV6 := grown_trans KV K6
     have m0 : w6.cell? ⟨V, 0, none⟩ = some (.string ⟨#[]⟩) := V6.cell 0
     have n0 := V6.free 0
     obtain ⟨q, hq⟩ : ∃ q : Tx, (⟨leafT x, 12, 0⟩ : Tx) = q := ⟨_, rfl⟩
     have HQQ : Hid (q = (Tr.mk x (([] : List Tr).drop 0)).tx full) := by unfold Hid; rw [← hq]; exact HLQ.out
     have HV9 : Hid (VAt (w6.setCell ⟨V, 0, none⟩ (str (leafT x))) V 47 q.cells.toArray ∧ w4.grownBy (w6.setCell ⟨V, 0, none⟩ (str (leafT x))) none) := by
      refine ⟨?_, grown_setCell GV6 _ _ (.inr HVL.out)⟩
      have := VAt.set V6 0 (str (leafT x))
      rw [← hq]
      exact this
     clear VV CLF K6 KV V6 GV6 hq
     go_upto_region 12 with fail
     generalize w6.setCell ⟨V, 0, none⟩ (str (leafT x)) = w9 at *
     obtain ⟨Y, hY⟩ : ∃ Y, q.cells.toArray = Y := ⟨_, rfl⟩
     have HYY : Hid (q.cells.toArray = Y) := hY
     have HYZ : Hid ((Tryz.prog.info? 47).map (·.size) = some Y.size ∧ 3 = Y.size ∧ Y.all (·.oneCell') = true) := by rw [← hY]; exact ⟨tx_size _, rfl, tx_all _⟩
     rw [hY] at HV9
     clear hY m0 n0
     have HD : Hid (VAt w9.drew V 47 Y ∧ w4.grownBy w9.drew none) := ⟨HV9.out.1.kept (grown_drewN w9 1 none), grown_trans HV9.out.2 (grown_drewN w9 1 none)⟩
     have HLI : Hid (∀ W : World, (Instr.buildSlice 45 1 #[(0, .agg Y)]).run Tryz.prog W = .ok (.slice (some ⟨W.heap.size, 0, none⟩) 1 1) (W.alloc (.cells q.cells.toArray 47))) := by unfold Hid; rw [← HYY.out]; exact lit_text _
     clear HV9
     refine wp_region_held_drew (S := fun W => VAt W V 47 Y) (by kernel_rfl) HD.out.1 (fun hHeld => ?_)
     refine wpT (i := 0) (v := .slice none 0 0) rfl (Or.inl ⟨by rfl, fun W hW => ?_⟩) hHeld ?_
     ·clear hW
      go_simp
     try simp only [Act.put, a0, a1, a3, a4, a5]
     refine wpT (i := 1) (v := .slice none 0 0) rfl (Or.inl ⟨by rfl, fun W hW => ?_⟩) hHeld ?_
     ·clear hW
      go_simp
     try simp only [Act.put, a0, a1, a2, a3, a4, a5]
     refine wpT (i := 2) (v := .int .i64 0) rfl (Or.inl ⟨by rfl, fun W hW => ?_⟩) hHeld ?_
     ·clear hW
      go_simp
     try simp only [Act.put, a0, a1, a2, a3, a4, a5]
     refine wpT (i := 3) (v := .int .i64 0) rfl (Or.inl ⟨by rfl, fun W hW => ?_⟩) hHeld ?_
     ·clear hW
      go_simp
     try simp only [Act.put, a0, a1, a2, a3, a4, a5]
     refine wpT (i := 4) (v := .int .i64 0) rfl (Or.inl ⟨by rfl, fun W hW => ?_⟩) hHeld ?_
     ·clear hW
      go_simp
     try simp only [Act.put, a0, a1, a2, a3, a4, a5]
     refine wpT (i := 5) (v := .slice none 0 0) rfl (Or.inl ⟨by rfl, fun W hW => ?_⟩) hHeld ?_
     ·clear hW
      go_simp
     try simp only [Act.put, a0, a1, a2, a3, a4, a5]
     refine wpT (i := 6) (v := .agg Y) rfl (yieldsIf_load_row (by rfl) _ _ rfl V rfl 47 Y _ (fun W hW => hW) Tryz.underlying47 rfl HYZ.out.1) hHeld ?_
     try simp only [Act.put, a0, a1, a2, a3, a4, a5]
     refine wpR (rs := [7]) (AllReadyH.cons rfl (fun K hK => ?_) AllReadyH.nil)
     refine step_lit (by rfl) 45 1 #[(0, .tmp 52)] (by rfl) #[(0, .agg Y)] (by kernel_rfl) q.cells 47 HLI.out ?_
     intro ad wA CA KA
     have GA := grown_trans HD.out.2 KA
     refine hK.out _ _ (hHeld.kept KA) (fun hHeld => ?_)
     clear hK K KA HD
     try simp only [Act.put, a0, a1, a2, a3, a4, a5]
     refine wpR (rs := [8]) (AllReadyH.cons rfl (fun K hK => ?_) AllReadyH.nil)
     refine step_append_own (by rfl) (.tmp 51) (.tmp 53) 45 (by rfl) 47 i0 _ 3 32 Tryz.underlying45 HI.out.1 HI.out.2.1 HI.out.2.2.1 HI.out.2.2.2 rfl (by decide) w.heap.size (.slice none 0 0) 0 (flatX ((([] : List Tr).map (Tr.tx full)).take 0)) (by rfl) (HAPP.out _ GA) ad 1 1 q.cells (by rfl) rfl CA (Tx.cells_one q) (by unfold maxLen; omega) (by omega) (Nat.le_trans HG.out.size GA.size) ?_
     intro vB wB OB KB BB
     have GB := grown_trans_new (grown_trans HG.out GA) KB HOB.out
     have HPB : VAt wB V 47 Y := hHeld.grown KB (HOK.out V HVL.out)
     have OC : XOwns wB w.heap.size vB (((([] : List Tr).map (Tr.tx full)).take 0) ++ [q]) := by
      unfold XOwns
      rw [HLN.out, flatX_append, flatX_one]
      exact OB
     have HFIN : Hid (∃ Fs : List Tr, Fs.length ≤ k + 1 ∧ Fo full t (k + 1) Fs ∧ XOwns wB w.heap.size vB (Fs.map (Tr.tx full)) ∧ w.grownBy wB none) := HEND.out vB wB q HQQ.out OC GB
     refine hK.out _ _ HPB (fun hHeld => ?_)
     clear hK K OB OC KB BB GA GB CA HPB
     try simp only [Act.put, a0, a1, a2, a3, a4, a5]
     refine wpT (i := 9) (v := vB) rfl (Or.inl ⟨by rfl, fun W hW => ?_⟩) hHeld ?_
     ·clear hW
      go_simp
     try simp only [Act.put, a0, a1, a2, a3, a4, a5]
     refine wpAnyH_done (by kernel_rfl) ?_ _
     clear hHeld
     go_wp2
     go_roundw
     case rel => exact ⟨k + 1, by omega, by go_num, HFIN⟩
     case measure => simp [intOf]; omega
    ·simp only [Value.slice.injEq] at hv0
     obtain ⟨rfl, -, rfl⟩ := hv0
     have HAPP : Hid (∀ W, w4.grownBy W none → W.ownsRow w.heap.size 47 3 (.slice (some ⟨g, 0, none⟩) f cL) f (flatX ((Fs.map (Tr.tx full)).take f))) := fun W GW => by
      have := owns_take (HOW.out W GW) (m := f) (by have := HFL.out; omega)
      rw [flatX_take] at this
      exact this
     have HOB : Hid (∀ x, (Value.slice (some ⟨g, 0, none⟩) f cL).ownBlock = some x → w.heap.size ≤ x) := fun x hx => by
      cases hx
      exact (HLT.out g rfl).1
     have HOK : Hid (∀ V, w4.heap.size ≤ V → (Value.slice (some ⟨g, 0, none⟩) f cL).ownBlock ≠ some V) := fun V hV e => by
      have h1 : g = V := Option.some.inj e
      have h2 := (HLT.out g rfl).2
      omega
     have hcf : ¬ cL < f := by have := HFL.out; omega
     have q1' : IntKind.i64.wrap (n : Int) = (f : Int) := by have := HFL.out; rw [IntKind.wrap_i64]; omega
     clear HOW HLT hale ha
     have CLF := HLEAF.out
     go_wp2_with (refine wpList_load_mid rfl 43 (.tmp 30) rfl b (o + k * 24) (by simp [Act.eval]) cs _ (HR.out _ (grown_trans HG.out KV)) Tryz.underlying43 rfl HZ.out ?_)
     refine (CLF _).mono ?_
     rintro e w6 ⟨rfl, K6⟩
     have V6 := VV.kept K6
     have GV6 := grown_trans KV K6
     have m0 : w6.cell? ⟨V, 0, none⟩ = some (.string ⟨#[]⟩) := V6.cell 0
     have n0 := V6.free 0
     obtain ⟨q, hq⟩ : ∃ q : Tx, (⟨leafT x, 12, 0⟩ : Tx) = q := ⟨_, rfl⟩
     have HQQ : Hid (q = (Tr.mk x (Fs.drop f)).tx full) := by unfold Hid; rw [← hq]; exact HLQ.out
     have HV9 : Hid (VAt (w6.setCell ⟨V, 0, none⟩ (str (leafT x))) V 47 q.cells.toArray ∧ w4.grownBy (w6.setCell ⟨V, 0, none⟩ (str (leafT x))) none) := by
      refine ⟨?_, grown_setCell GV6 _ _ (.inr HVL.out)⟩
      have := VAt.set V6 0 (str (leafT x))
      rw [← hq]
      exact this
     clear VV CLF K6 KV V6 GV6 hq
     go_upto_region 12 with fail
     generalize w6.setCell ⟨V, 0, none⟩ (str (leafT x)) = w9 at *
     obtain ⟨Y, hY⟩ : ∃ Y, q.cells.toArray = Y := ⟨_, rfl⟩
     have HYY : Hid (q.cells.toArray = Y) := hY
     have HYZ : Hid ((Tryz.prog.info? 47).map (·.size) = some Y.size ∧ 3 = Y.size ∧ Y.all (·.oneCell') = true) := by rw [← hY]; exact ⟨tx_size _, rfl, tx_all _⟩
     rw [hY] at HV9
     clear hY m0 n0
     have HD : Hid (VAt w9.drew V 47 Y ∧ w4.grownBy w9.drew none) := ⟨HV9.out.1.kept (grown_drewN w9 1 none), grown_trans HV9.out.2 (grown_drewN w9 1 none)⟩
     have HLI : Hid (∀ W : World, (Instr.buildSlice 45 1 #[(0, .agg Y)]).run Tryz.prog W = .ok (.slice (some ⟨W.heap.size, 0, none⟩) 1 1) (W.alloc (.cells q.cells.toArray 47))) := by unfold Hid; rw [← HYY.out]; exact lit_text _
     clear HV9
     refine wp_region_held_drew (S := fun W => VAt W V 47 Y) (by kernel_rfl) HD.out.1 (fun hHeld => ?_)
     refine wpT (i := 0) (v := .slice (some ⟨g, 0, none⟩) n cL) rfl (Or.inl ⟨by rfl, fun W hW => ?_⟩) hHeld ?_
     ·clear hW
      go_simp
     try simp only [Act.put, a0, a1, a3, a4, a5]
     refine wpT (i := 1) (v := .slice (some ⟨g, 0, none⟩) n cL) rfl (Or.inl ⟨by rfl, fun W hW => ?_⟩) hHeld ?_
     ·clear hW
      go_simp
     try simp only [Act.put, a0, a1, a2, a3, a4, a5]
     refine wpT (i := 2) (v := .int .i64 (n : Int)) rfl (Or.inl ⟨by rfl, fun W hW => ?_⟩) hHeld ?_
     ·clear hW
      go_simp
     try simp only [Act.put, a0, a1, a2, a3, a4, a5]
     refine wpT (i := 3) (v := .int .i64 0) rfl (Or.inl ⟨by rfl, fun W hW => ?_⟩) hHeld ?_
     ·clear hW
      go_simp
     try simp only [Act.put, a0, a1, a2, a3, a4, a5]
     refine wpT (i := 4) (v := .int .i64 (f : Int)) rfl (Or.inl ⟨by rfl, fun W hW => ?_⟩) hHeld ?_
     ·clear hW
      go_simp
     try simp only [Act.put, a0, a1, a2, a3, a4, a5]
     refine wpT (i := 5) (v := .slice (some ⟨g, 0, none⟩) f cL) rfl (Or.inl ⟨by rfl, fun W hW => ?_⟩) hHeld ?_
     ·clear hW
      go_simp
     try simp only [Act.put, a0, a1, a2, a3, a4, a5]
     refine wpT (i := 6) (v := .agg Y) rfl (yieldsIf_load_row (by rfl) _ _ rfl V rfl 47 Y _ (fun W hW => hW) Tryz.underlying47 rfl HYZ.out.1) hHeld ?_
     try simp only [Act.put, a0, a1, a2, a3, a4, a5]
     refine wpR (rs := [7]) (AllReadyH.cons rfl (fun K hK => ?_) AllReadyH.nil)
     refine step_lit (by rfl) 45 1 #[(0, .tmp 52)] (by rfl) #[(0, .agg Y)] (by kernel_rfl) q.cells 47 HLI.out ?_
     intro ad wA CA KA
     have GA := grown_trans HD.out.2 KA
     refine hK.out _ _ (hHeld.kept KA) (fun hHeld => ?_)
     clear hK K KA HD
     try simp only [Act.put, a0, a1, a2, a3, a4, a5]
     refine wpR (rs := [8]) (AllReadyH.cons rfl (fun K hK => ?_) AllReadyH.nil)
     refine step_append_own (by rfl) (.tmp 51) (.tmp 53) 45 (by rfl) 47 i0 _ 3 32 Tryz.underlying45 HI.out.1 HI.out.2.1 HI.out.2.2.1 HI.out.2.2.2 rfl (by decide) w.heap.size (.slice (some ⟨g, 0, none⟩) f cL) f (flatX ((Fs.map (Tr.tx full)).take f)) (by rfl) (HAPP.out _ GA) ad 1 1 q.cells (by rfl) rfl CA (Tx.cells_one q) (by unfold maxLen; omega) (by omega) (Nat.le_trans HG.out.size GA.size) ?_
     intro vB wB OB KB BB
     have GB := grown_trans_new (grown_trans HG.out GA) KB HOB.out
     have HPB : VAt wB V 47 Y := hHeld.grown KB (HOK.out V HVL.out)
     have OC : XOwns wB w.heap.size vB (((Fs.map (Tr.tx full)).take f) ++ [q]) := by
      unfold XOwns
      rw [HLN.out, flatX_append, flatX_one]
      exact OB
     have HFIN : Hid (∃ Fs : List Tr, Fs.length ≤ k + 1 ∧ Fo full t (k + 1) Fs ∧ XOwns wB w.heap.size vB (Fs.map (Tr.tx full)) ∧ w.grownBy wB none) := HEND.out vB wB q HQQ.out OC GB
     refine hK.out _ _ HPB (fun hHeld => ?_)
     clear hK K OB OC KB BB GA GB CA HPB
     try simp only [Act.put, a0, a1, a2, a3, a4, a5]
     refine wpT (i := 9) (v := vB) rfl (Or.inl ⟨by rfl, fun W hW => ?_⟩) hHeld ?_
     ·clear hW
      go_simp
     try simp only [Act.put, a0, a1, a2, a3, a4, a5]
     refine wpAnyH_done (by kernel_rfl) ?_ _
     clear hHeld
     go_wp2
     go_roundw
     case rel => exact ⟨k + 1, by omega, by go_num, HFIN⟩
     case measure => simp [intOf]; omega
   ·have ez : ((a : Int) == 0) = false := by rw [beq_eq_false_iff_ne]; omega
    rcases hcase with ⟨hv0, h0⟩ | ⟨g, cap0, cur, hv0, -⟩
    ·exact absurd h0 (by omega)
    ·simp only [Value.slice.injEq] at hv0
     obtain ⟨rfl, -, rfl⟩ := hv0
     have hsl : n - f = a := by have := HFL.out; omega
     have hdl : ((Fs.map (Tr.tx full)).drop f).length = a := by rw [List.length_drop, HNL.out.2]; exact hsl
     have hfd : (Fs.drop f).length = a := by rw [List.length_drop, HNL.out.1]; exact hsl
     have HOQ : Hid (overX x ((Fs.map (Tr.tx full)).drop f) full = (Tr.mk x (Fs.drop f)).tx full) := by
      unfold Hid
      rw [← List.map_drop]
      exact (mk_tx full x (Fs.drop f) (by rw [hfd]; exact HHA.out.1) (fun e => by rw [e] at hfd; exact hz hfd.symm)).symm
     have HCALL0 : Hid (∀ W, w4.grownBy W none → Calls Tryz.prog 23 #[.agg cs.toArray, .slice (if cL = f then some ⟨g, 0, none⟩ else some ⟨g, f * 3, none⟩) a (cL - f), .bool full] W fun e w' => e = .returned (.agg (overX x ((Fs.map (Tr.tx full)).drop f) full).cells.toArray) ∧ W.grownBy w' none) := fun W GW => by
      have C' : CV W (if cL = f then some ⟨g, 0, none⟩ else some ⟨g, f * 3, none⟩) (flatX ((Fs.map (Tr.tx full)).drop f)) := by
       obtain ⟨ao', cap', e, C', -⟩ := cv_of_row (HOW.out W GW)
       simp only [Value.slice.injEq] at e
       obtain ⟨rfl, -, rfl⟩ := e
       refine cv_dropX C' f _ ?_
       by_cases hcf : cL = f
       ·rw [if_pos hcf]
        exact .inr ⟨by rw [HNL.out.2]; omega, by simp⟩
       ·rw [if_neg hcf]
        exact .inl rfl
      refine HOV.out _ hdl (fun e => by rw [e] at hdl; exact hz hdl.symm) (fun p hp => ?_) _ _ W C'
      obtain ⟨U, hU, rfl⟩ := List.mem_map.1 (List.mem_of_mem_drop hp)
      have h1 := txt_len full U
      have h2 := HWF.out U hU
      exact ⟨by show (U.txt full).1.length ≤ _; omega, by show (U.txt full).2 ≤ _; omega⟩
     have HAPP : Hid (∀ W, w4.grownBy W none → W.ownsRow w.heap.size 47 3 (.slice (some ⟨g, 0, none⟩) f cL) f (flatX ((Fs.map (Tr.tx full)).take f))) := fun W GW => by
      have := owns_take (HOW.out W GW) (m := f) (by have := HFL.out; omega)
      rw [flatX_take] at this
      exact this
     have HOB : Hid (∀ x, (Value.slice (some ⟨g, 0, none⟩) f cL).ownBlock = some x → w.heap.size ≤ x) := fun x hx => by
      cases hx
      exact (HLT.out g rfl).1
     have HOK : Hid (∀ V, w4.heap.size ≤ V → (Value.slice (some ⟨g, 0, none⟩) f cL).ownBlock ≠ some V) := fun V hV e => by
      have h1 : g = V := Option.some.inj e
      have h2 := (HLT.out g rfl).2
      omega
     obtain ⟨PA, hPA⟩ : ∃ PA, (if cL = f then some (⟨g, 0, none⟩ : Addr) else some ⟨g, f * 3, none⟩) = PA := ⟨_, rfl⟩
     have HCALL : Hid (∀ W, w4.grownBy W none → Calls Tryz.prog 23 #[.agg cs.toArray, .slice PA a (cL - f), .bool full] W fun e w' => e = .returned (.agg (overX x ((Fs.map (Tr.tx full)).drop f) full).cells.toArray) ∧ W.grownBy w' none) := hPA ▸ HCALL0
     have hcf : ¬ cL < f := by have := HFL.out; omega
     clear HCALL0 HOW HLT hdl hfd HOV HLEAF0 HWF HHA HTR HNF HTT ha hz
     go_upto_region 11 with fail
     have HS0 : VAt w5.drew V 47 #[.string ⟨#[]⟩, .int .i64 12, .int .i64 0] ∧ w4.grownBy w5.drew none := ⟨VV.kept (grown_drewN w5 1 none), grown_trans KV (grown_drewN w5 1 none)⟩
     have HKV : Hid (VAt w5.drew V 47 #[.string ⟨#[]⟩, .int .i64 12, .int .i64 0] ∧ w4.grownBy w5.drew none) := HS0
     clear VV KV
     refine wp_region_held_drew (S := fun W => w4.grownBy W none) (by kernel_rfl) HS0.2 (fun hHeld => ?_)
     clear HS0
     refine wpT (i := 0) (v := .slice (some ⟨b, o, none⟩) t.length cap) rfl (Or.inl ⟨by rfl, fun W hW => ?_⟩) hHeld ?_
     ·clear hW
      go_simp
     try simp only [Act.put, a0, a1, a3, a4, a5]
     refine wpT (i := 1) (v := .int .i64 (k : Int)) rfl (Or.inl ⟨by rfl, fun W hW => ?_⟩) hHeld ?_
     ·clear hW
      go_simp
     try simp only [Act.put, a0, a1, a2, a3, a4, a5]
     refine wpT (i := 2) (v := .pointer (some ⟨b, o + k * 24, none⟩)) rfl (Or.inl ⟨by rfl, fun W hW => ?_⟩) hHeld ?_
     ·clear hW
      go_simp
     try simp only [Act.put, a0, a1, a2, a3, a4, a5]
     refine wpT (i := 3) (v := .agg cs.toArray) rfl (yieldsIf_load_mid (by rfl) _ _ rfl _ _ rfl cs _ (fun W hW => HR.out W (grown_trans HG.out hW)) Tryz.underlying43 rfl HZ.out) hHeld ?_
     try simp only [Act.put, a0, a1, a2, a3, a4, a5]
     refine wpT (i := 4) (v := .slice (some ⟨g, 0, none⟩) n cL) rfl (Or.inl ⟨by rfl, fun W hW => ?_⟩) hHeld ?_
     ·clear hW
      go_simp
     try simp only [Act.put, a0, a1, a2, a3, a4, a5]
     refine wpT (i := 5) (v := .slice (some ⟨g, 0, none⟩) n cL) rfl (Or.inl ⟨by rfl, fun W hW => ?_⟩) hHeld ?_
     ·clear hW
      go_simp
     try simp only [Act.put, a0, a1, a2, a3, a4, a5]
     refine wpT (i := 6) (v := .int .i64 (n : Int)) rfl (Or.inl ⟨by rfl, fun W hW => ?_⟩) hHeld ?_
     ·clear hW
      go_simp
     try simp only [Act.put, a0, a1, a2, a3, a4, a5]
     refine wpT (i := 7) (v := .int .i64 (a : Int)) rfl (Or.inl ⟨by rfl, fun W hW => ?_⟩) hHeld ?_
     ·clear hW
      go_simp
     try simp only [Act.put, a0, a1, a2, a3, a4, a5]
     refine wpT (i := 8) (v := .int .i64 (f : Int)) rfl (Or.inl ⟨by rfl, fun W hW => ?_⟩) hHeld ?_
     ·clear hW
      go_simp
     try simp only [Act.put, a0, a1, a2, a3, a4, a5]
     refine wpT (i := 9) (v := .slice PA a (cL - f)) rfl (Or.inl ⟨by rfl, fun W hW => ?_⟩) hHeld ?_
     ·clear hW
      go_simp
     try simp only [Act.put, a0, a1, a2, a3, a4, a5]
     refine wpT (i := 10) (v := .bool full) rfl (Or.inl ⟨by rfl, fun W hW => ?_⟩) hHeld ?_
     ·clear hW
      go_simp
     try simp only [Act.put, a0, a1, a2, a3, a4, a5]
     refine wpR (rs := [11]) (AllReadyH.cons rfl (fun K hK => ?_) AllReadyH.nil)
     go_simp
     refine (HCALL.out _ hHeld).mono ?_
     rintro e w7 ⟨rfl, K7⟩
     have V7 := HKV.out.1.kept K7
     have G7 := grown_trans HKV.out.2 K7
     obtain ⟨q, hq⟩ : ∃ q : Tx, overX x ((Fs.map (Tr.tx full)).drop f) full = q := ⟨_, rfl⟩
     have HQQ : Hid (q = (Tr.mk x (Fs.drop f)).tx full) := by unfold Hid; rw [← hq]; exact HOQ.out
     rw [hq]
     obtain ⟨Y, hY⟩ : ∃ Y, q.cells.toArray = Y := ⟨_, rfl⟩
     have HYY : Hid (q.cells.toArray = Y) := hY
     have HYZ : Hid ((Tryz.prog.info? 47).map (·.size) = some Y.size ∧ 3 = Y.size ∧ Y.all (·.oneCell') = true) := by rw [← hY]; exact ⟨tx_size _, rfl, tx_all _⟩
     rw [hY]
     clear hY hq HKV
     go_wp2_with fail
     refine hK.out _ _ (grown_trans hHeld K7) (fun hHeld => ?_)
     clear hK K K7
     try simp only [Act.put, a0, a1, a2, a3, a4, a5]
     refine wpR (rs := [12]) (AllReadyH.cons rfl (fun K hK => ?_) AllReadyH.nil)
     refine step_store_rowX rfl 47 (.tmp 9) (.tmp 45) rfl V Y rfl rfl 47 _ V7 HYZ.out.1 HYZ.out.2.1 HYZ.out.2.2 ?_
     have HV9 : Hid (VAt (w7.setRow V Y) V 47 Y ∧ w4.grownBy (w7.setRow V Y) none) := ⟨VAt.setRow V7 _, vgrown_setRow G7 V _ (.inr HVL.out)⟩
     refine hK.out _ _ HV9.out.2 (fun hHeld => ?_)
     clear hK K V7 G7 hHeld
     generalize w7.setRow V Y = w9 at *
     try simp only [Act.put, List.getElem_toArray, List.getElem_cons_zero, List.getElem_cons_succ]
     refine wpAnyH_done (by kernel_rfl) ?_ _
     go_upto_region 12 with fail
     have HD : Hid (VAt w9.drew V 47 Y ∧ w4.grownBy w9.drew none) := ⟨HV9.out.1.kept (grown_drewN w9 1 none), grown_trans HV9.out.2 (grown_drewN w9 1 none)⟩
     have HLI : Hid (∀ W : World, (Instr.buildSlice 45 1 #[(0, .agg Y)]).run Tryz.prog W = .ok (.slice (some ⟨W.heap.size, 0, none⟩) 1 1) (W.alloc (.cells q.cells.toArray 47))) := by unfold Hid; rw [← HYY.out]; exact lit_text _
     clear HV9
     refine wp_region_held_drew (S := fun W => VAt W V 47 Y) (by kernel_rfl) HD.out.1 (fun hHeld => ?_)
     refine wpT (i := 0) (v := .slice (some ⟨g, 0, none⟩) n cL) rfl (Or.inl ⟨by rfl, fun W hW => ?_⟩) hHeld ?_
     ·clear hW
      go_simp
     try simp only [Act.put, a0, a1, a3, a4, a5]
     refine wpT (i := 1) (v := .slice (some ⟨g, 0, none⟩) n cL) rfl (Or.inl ⟨by rfl, fun W hW => ?_⟩) hHeld ?_
     ·clear hW
      go_simp
     try simp only [Act.put, a0, a1, a2, a3, a4, a5]
     refine wpT (i := 2) (v := .int .i64 (n : Int)) rfl (Or.inl ⟨by rfl, fun W hW => ?_⟩) hHeld ?_
     ·clear hW
      go_simp
     try simp only [Act.put, a0, a1, a2, a3, a4, a5]
     refine wpT (i := 3) (v := .int .i64 (a : Int)) rfl (Or.inl ⟨by rfl, fun W hW => ?_⟩) hHeld ?_
     ·clear hW
      go_simp
     try simp only [Act.put, a0, a1, a2, a3, a4, a5]
     refine wpT (i := 4) (v := .int .i64 (f : Int)) rfl (Or.inl ⟨by rfl, fun W hW => ?_⟩) hHeld ?_
     ·clear hW
      go_simp
     try simp only [Act.put, a0, a1, a2, a3, a4, a5]
     refine wpT (i := 5) (v := .slice (some ⟨g, 0, none⟩) f cL) rfl (Or.inl ⟨by rfl, fun W hW => ?_⟩) hHeld ?_
     ·clear hW
      go_simp
     try simp only [Act.put, a0, a1, a2, a3, a4, a5]
     refine wpT (i := 6) (v := .agg Y) rfl (yieldsIf_load_row (by rfl) _ _ rfl V rfl 47 Y _ (fun W hW => hW) Tryz.underlying47 rfl HYZ.out.1) hHeld ?_
     try simp only [Act.put, a0, a1, a2, a3, a4, a5]
     refine wpR (rs := [7]) (AllReadyH.cons rfl (fun K hK => ?_) AllReadyH.nil)
     refine step_lit (by rfl) 45 1 #[(0, .tmp 52)] (by rfl) #[(0, .agg Y)] (by kernel_rfl) q.cells 47 HLI.out ?_
     intro ad wA CA KA
     have GA := grown_trans HD.out.2 KA
     refine hK.out _ _ (hHeld.kept KA) (fun hHeld => ?_)
     clear hK K KA HD
     try simp only [Act.put, a0, a1, a2, a3, a4, a5]
     refine wpR (rs := [8]) (AllReadyH.cons rfl (fun K hK => ?_) AllReadyH.nil)
     refine step_append_own (by rfl) (.tmp 51) (.tmp 53) 45 (by rfl) 47 i0 _ 3 32 Tryz.underlying45 HI.out.1 HI.out.2.1 HI.out.2.2.1 HI.out.2.2.2 rfl (by decide) w.heap.size (.slice (some ⟨g, 0, none⟩) f cL) f (flatX ((Fs.map (Tr.tx full)).take f)) (by rfl) (HAPP.out _ GA) ad 1 1 q.cells (by rfl) rfl CA (Tx.cells_one q) (by unfold maxLen; omega) (by omega) (Nat.le_trans HG.out.size GA.size) ?_
     intro vB wB OB KB BB
     have GB := grown_trans_new (grown_trans HG.out GA) KB HOB.out
     have HPB : VAt wB V 47 Y := hHeld.grown KB (HOK.out V HVL.out)
     have OC : XOwns wB w.heap.size vB (((Fs.map (Tr.tx full)).take f) ++ [q]) := by
      unfold XOwns
      rw [HLN.out, flatX_append, flatX_one]
      exact OB
     have HFIN : Hid (∃ Fs : List Tr, Fs.length ≤ k + 1 ∧ Fo full t (k + 1) Fs ∧ XOwns wB w.heap.size vB (Fs.map (Tr.tx full)) ∧ w.grownBy wB none) := HEND.out vB wB q HQQ.out OC GB
     refine hK.out _ _ HPB (fun hHeld => ?_)
     clear hK K OB OC KB BB GA GB CA HPB
     try simp only [Act.put, a0, a1, a2, a3, a4, a5]
     refine wpT (i := 9) (v := vB) rfl (Or.inl ⟨by rfl, fun W hW => ?_⟩) hHeld ?_
     ·clear hW
      go_simp
     try simp only [Act.put, a0, a1, a2, a3, a4, a5]
     refine wpAnyH_done (by kernel_rfl) ?_ _
     clear hHeld
     go_wp2
     go_roundw
     case rel => exact ⟨k + 1, by omega, by go_num, HFIN⟩
     case measure => simp [intOf]; omega
  ·obtain rfl : k = t.length := by omega
   have hFT := hFo.done HTT.out.1 HTT.out.2
   subst hFT
   have HO1 : wr.ownsRow w.heap.size 47 3 u6 1 (flatX [T.tx full]) := O
   obtain ⟨g, cL, rfl, -, -, -, -⟩ := owns_head HO1 (by omega)
   obtain ⟨ao', cap', e', C', -⟩ := cv_of_row HO1
   simp only [Value.slice.injEq] at e'
   obtain ⟨rfl, -, rfl⟩ := e'
   obtain ⟨e0, -, e2, -⟩ := tx_cell C' (World.grownBy.refl _ _) (i := 0) (by simp)
   simp only [Nat.zero_mul, Nat.add_zero, Nat.zero_add, List.getElem_cons_zero] at e0 e2
   have hl' : ¬ (t.length : Int) < (t.length : Int) := by omega
   have HGR : Hid (w.grownBy wr none) := G
   have f0 : wr.cell? ⟨g, 0, none⟩ = some (.string ⟨(T.txt full).1.toArray⟩) := e0
   have f2 : wr.cell? ⟨g, 2, none⟩ = some (.int .i64 ((T.txt full).2 : Int)) := e2
   clear e0 e2 C' HO1 O G HI4 hFo hFl
   by_cases hd : 200 < (T.txt full).2
   ·have HS : Hid (showR full T = .tuple #[str [], .int .i64 131]) := by unfold Hid showR; rw [if_pos hd]
    have t1 : (200 : Int) < ((T.txt full).2 : Int) := by omega
    clear hd
    go_wp2
    go_ret2
    exact ⟨by rw [HS.out]; rfl, HGR.out⟩
   ·have HS : Hid (showR full T = .tuple #[str (T.txt full).1, .int .i64 0]) := by unfold Hid showR; rw [if_neg hd]
    have t1 : decide ((200 : Int) < ((T.txt full).2 : Int)) = false := decide_eq_false (by omega)
    clear hd
    go_wp2
    go_ret2
    exact ⟨by rw [HS.out]; rfl, HGR.out⟩
theorem refshow_ok (ao : Option Addr) (cap : Nat) (t : List Ng) (full : Bool) (T : Tr) (hT : T.Wf) (hTf : T.flat = t) (w : World) (C : CV w ao (flatG t)) (hok : (checkG t).2 = 0) (hn : ∀ x ∈ t, x.n ≤ 4294967295) (hmm : ∀ x ∈ t, x.m ≤ 4294967295) :
  Calls Tryz.prog 9 #[.slice ao t.length cap, .bool full] w fun e w' => e = .returned (showR full T) ∧ w.grownBy w' none :=
 refshow_of ao cap t full (fun x _ => node12_any x) (fun x _ ps ao cap w => over13_any x ps ao cap full w) T hT hTf w C hok hn hmm
theorem refshow_no (ao : Option Addr) (cap : Nat) (t : List Ng) (full : Bool) (w : World) (C : CV w ao (flatG t)) (hno : (checkG t).2 ≠ 0) (hm : t.length * 72 ≤ 140737488355328) (hn : ∀ x ∈ t, x.n ≤ 4294967295) :
  Calls Tryz.prog 9 #[.slice ao t.length cap, .bool full] w fun e w' => e = .returned (.tuple #[str [], .int .i64 130]) ∧ w.grownBy w' none := by
 have CF := filter12_any ao cap t w C hm hn
 rw [show ((checkG t).2 == 0) = false by rw [beq_eq_false_iff_ne]; exact hno] at CF
 clear C hno hn
 go_enter Tryz.func9, Tryz.ntmps9
 go_wp2_with fail
 refine CF.mono ?_
 rintro e w1 ⟨rfl, K1⟩
 clear CF
 go_wp2
 go_ret2
 exact ⟨rfl, K1⟩
theorem step_len {x : Ng} {st s : List Pt} (h : stepG x st = .ok s) : ∃ a, arG x.kind = some a ∧ ¬ st.length < a ∧ s.length = st.length - a + 1 := by
 unfold stepG at h
 split at h
 ·cases h
 ·rename_i a ha
  split at h
  ·cases h
  ·rename_i hn
   split at h
   ·cases h
   ·cases h
    exact ⟨a, ha, hn, by rw [List.length_append, List.length_take, List.length_singleton]; omega⟩
theorem walk_left : ∀ (l : List Ng) (st s : List Pt) (k : Nat), walkG st k l = .ok s → leftG st.length l = some s.length
 | [], st, s, k, h => by cases h; rfl
 | x :: l, st, s, k, h => by
  simp only [walkG] at h
  cases hx : stepG x st with
  | error e => rw [hx] at h; cases h
  | ok s1 =>
   rw [hx] at h
   obtain ⟨a, ha, hn, hl⟩ := step_len hx
   have := walk_left l s1 s (k + 1) h
   simp only [leftG, ha]
   rw [if_neg hn, ← hl]
   exact this
theorem filt_tree {t : List Ng} (h : (checkG t).2 = 0) : ∃ T : Tr, T.Wf ∧ T.flat = t := by
 refine tree_of t.length t (Nat.le_refl _) ?_
 obtain ⟨q, hq, -⟩ := filt_iff.1 h
 exact walk_left t [] [q] 0 hq
theorem leafT_ne {x : Ng} (ha : arG x.kind = some 0) (ht : truthG x.kind = true) (hf : formG x = true) : leafT x ≠ [] := by
 have h6 : 6 ≤ x.kind := by unfold truthG at ht; exact of_decide_eq_true ht
 rcases arG_cases ha with ⟨h1, -⟩ | ⟨h1, -⟩ | ⟨-, hk⟩
 ·cases h1
 ·cases h1
 ·unfold leafT
  rw [if_neg (by omega), if_neg (by omega)]
  rcases (by omega : x.kind = 10 ∨ x.kind = 11 ∨ x.kind = 12 ∨ x.kind = 13 ∨ x.kind = 14 ∨ x.kind = 15 ∨ x.kind = 16) with h | h | h | h | h | h | h
  ·rw [if_pos h]
   split <;> simp
  ·rw [if_neg (by omega), if_pos h]
   have hm := (Bool.and_eq_true_iff.1 hf).2
   unfold mayG at hm
   rw [if_neg (by omega), if_neg (by omega), if_neg (by omega), if_neg (by omega), if_pos h] at hm
   have := in_le hm
   exact name_ne ⟨by omega, by omega⟩
  ·rw [if_neg (by omega), if_neg (by omega), if_pos h]; simp
  ·rw [if_neg (by omega), if_neg (by omega), if_neg (by omega), if_pos h]; simp
  ·rw [if_neg (by omega), if_neg (by omega), if_neg (by omega), if_neg (by omega), if_pos h]; simp
  ·rw [if_neg (by omega), if_neg (by omega), if_neg (by omega), if_neg (by omega), if_neg (by omega), if_pos h]; simp
  ·rw [if_neg (by omega), if_neg (by omega), if_neg (by omega), if_neg (by omega), if_neg (by omega), if_neg (by omega)]
   intro e
   have h2 := (List.append_eq_nil_iff.1 e).2
   split at h2 <;> simp at h2
theorem txt_ne (full : Bool) {T : Tr} (hw : T.Wf) (ht : truthG T.root.kind = true) (hf : formG T.root = true) : (T.txt full).1 ≠ [] := by
 cases T with
 | leaf x => exact leafT_ne hw ht hf
 | one x p =>
  show (if x.kind = 3 then (_ : List UInt8 × Nat) else _).1 ≠ []
  split
  ·simp
  ·show (if x.kind = 9 then _ else _) ++ _ ≠ []
   split <;> simp
 | two x p q => show _ ++ [32] ++ _ ++ [32] ++ _ ≠ []; simp
theorem filt_has {t : List Ng} (h : (checkG t).2 = 0) (hn : ∀ x ∈ t, x.n ≤ 4294967295) (hmm : ∀ x ∈ t, x.m ≤ 4294967295) {T : Tr} (hT : T.Wf) (hf : T.flat = t) : T.Typed ∧ (∀ x ∈ t, NOK x) ∧ t.length ≤ 3000 ∧ ∀ full, (T.txt full).1 ≠ [] := by
 obtain ⟨q, hq, -, hw⟩ := filt_iff.1 h
 obtain ⟨h1, h2⟩ := filt_typed h hT hf
 have hok : ∀ x ∈ t, NOK x := fun x hx => by
  have := walk_form t [] _ 0 hq x hx
  exact ⟨this.1, this.2.1, hn x hx, hmm x hx⟩
 refine ⟨h1, hok, Nat.le_trans (walkG_weighs _ _ _ _ hq) hw, fun full => txt_ne full hT h2 (hok _ ?_).1⟩
 obtain ⟨l, hl⟩ := T.flat_last
 rw [← hf, hl]
 simp

end Go.Proofs.YtklipelnjgpnjaaGreatDoor
