import Derived.Test.YtklipelnjgpnjaaGreatDoorAb
import Derived.Test.YtklipelnjgpnjaaGreatDoorLotP30
import Derived.Test.YtklipelnjgpnjaaGreatDoorLotP13
namespace Go.Proofs.YtklipelnjgpnjaaGreatDoor
open Go.RowKit
set_option maxRecDepth 100000
abbrev QOwns (w : World) (base : Nat) (v : Value) (st : List Pt) : Prop := w.ownsRow base 112 3 v st.length (flat3 pqC st)
theorem info_partQ : (Tryz.prog.info? 112).map (fun i => (i.zero, i.size, i.bytes)) = some (some (.agg (pqC pt0).toArray), 3, 8) := by kernel_rfl
theorem lit_partQ (p : Pt) (W : World) : (Instr.buildSlice 108 1 #[(0, .agg (pqC p).toArray)]).run Tryz.prog W = .ok (.slice (some ⟨W.heap.size, 0, none⟩) 1 1) (W.alloc (.cells (pqC p).toArray 112)) := by kernel_rfl
set_option maxHeartbeats 8000000 in
theorem refwalk_any {t : List Ng} (HNODE : ∀ x ∈ t, NodeOk x)
  (ao : Option Addr) (cap : Nat) (w : World) (C : CV w ao (flatG t)) (hm : t.length * 72 ≤ 140737488355328) (hn : ∀ x ∈ t, x.n ≤ 4294967295) :
  Calls Tryz.prog 89 #[.slice ao t.length cap] w fun e w' => ∃ v, walkR (walkG [] 0 t) v e ∧ QOwns w' w.heap.size v (walkL (walkG [] 0 t)) ∧ w.grownBy w' none := by
 have HC : Hid (CV w ao (flatG t)) := C
 have HN : Hid (∀ x ∈ t, x.n ≤ 4294967295) := hn
 have HND : Hid (∀ x ∈ t, NodeOk x) := HNODE
 obtain ⟨i0, hi0, hz0, hz1, hz2⟩ := info_parts info_partQ
 have HI : Hid (Tryz.prog.info? 112 = some i0 ∧ i0.zero = some (.agg (pqC pt0).toArray) ∧ i0.size = 3 ∧ i0.bytes = 8) := ⟨hi0, hz0, hz1, hz2⟩
 clear C hn hi0 hz0 hz1 hz2 HNODE
 go_enter Tryz.func89, Tryz.ntmps89
 go_wp2
 go_loopw [5, 6] (fun v i wr => ∃ (k : Nat) (st : List Pt), k ≤ t.length ∧ st.length ≤ k ∧ i = .int .i64 k ∧ Hid (QOwns wr w.heap.size v st ∧ (∀ p ∈ st, p.val ≤ 4294967295) ∧ walkG [] 0 t = walkG st k (t.drop k) ∧ w.grownBy wr none)) (fun _ i _ => t.length - (intOf i).toNat)
 case atStart => exact ⟨0, [], Nat.zero_le _, Nat.le_refl _, rfl, World.ownsRow_nil _ _ _ _, (fun p hp => by cases hp), rfl, World.grownBy.refl _ _⟩
 case round =>
  obtain ⟨k, st, hk, hst, rfl, HI4⟩ := hrel
  by_cases hlt : k < t.length
  ·obtain ⟨O, hv, hw, G⟩ := HI4.out
   obtain ⟨b, o, rfl, hc⟩ := (HC.out.keptNone G).ngs hlt
   have c0 := hc k hlt 0 (.int .i64 t[k].kind) rfl
   rw [Nat.add_zero] at c0
   have HR : Hid (∀ W, w.grownBy W none → W.rangeAt b (o + k * 24) t[k].cells) := fun W GW => by
    obtain ⟨b', o', e', hc'⟩ := (HC.out.keptNone GW).ngs hlt
    simp only [Option.some.injEq, Addr.mk.injEq] at e'
    obtain ⟨rfl, rfl, -⟩ := e'
    exact hc' k hlt
   have hxn := HN.out t[k] (List.getElem_mem hlt)
   have HZ : Hid ((Tryz.prog.info? 43).map (·.size) = some t[k].cells.length) := ng_len _
   have HNX : Hid (∀ st', stepG t[k] st = .ok st' → walkG [] 0 t = walkG st' (k + 1) (t.drop (k + 1))) := fun st' h => by rw [hw]; exact walkG_next hlt h
   have HST : Hid (∀ e, stepG t[k] st = .error e → walkG [] 0 t = .error (k, e)) := fun e h => by rw [hw]; exact walkG_stop hlt h
   have HO : Hid (QOwns wr w.heap.size u5 st) := O
   have HG : Hid (w.grownBy wr none) := G
   have HV : Hid (∀ p ∈ st, p.val ≤ 4294967295) := hv
   have HNK : Hid (∀ (ps : List Pt), arG t[k].kind = some ps.length → (∀ p ∈ ps, p.val ≤ 4294967295) → ∀ (ao : Option Addr) (cap : Nat) (W : World), CV W ao (flat3 pqC ps) → Calls Tryz.prog 126 #[.agg t[k].cells.toArray, .slice ao ps.length cap] W fun e w' => nodeR t[k] ps e ∧ W.grownBy w' none) := fun ps h1 h2 ao cap W CW => HND.out t[k] (List.getElem_mem _) ps ao cap W CW h1 hxn h2
   have HJL : Hid (∀ ps : List Pt, (∀ p ∈ ps, p.val ≤ 4294967295) → (joinG t[k] ps).val ≤ 4294967295) := fun ps h => joinG_le hxn h
   obtain ⟨aL, cL, rfl, -, hb1, hb2, -, -, -⟩ := cv_of_row O
   have CA := arity12_any t[k].kind
   have hl : (k : Int) < (t.length : Int) := by omega
   have z0 : (0 : Int) ≤ (k : Int) := by omega
   have w3 : IntKind.i64.wrap ((k : Int) + 1) = (k : Int) + 1 := by rw [IntKind.wrap_i64]; omega
   have hcL : cL ≤ 9223372036854775807 := by unfold maxLen at hb2; omega
   clear hc hv hw G O HI4 hb2 hxn HND
   obtain ⟨x, hx⟩ : ∃ x, t[k] = x := ⟨_, rfl⟩
   rw [hx] at HR HZ HNX HST c0 CA HNK HJL
   obtain ⟨cs, hcs⟩ : ∃ cs, x.cells = cs := ⟨_, rfl⟩
   rw [hcs] at HR HZ HNK
   clear hx hcs
   cases ha : arG x.kind with
   | none =>
    have HF : Hid (walkG [] 0 t = .error (k, 120)) := HST.out _ (stepG_none ha)
    have hai : arI x.kind = -1 := by unfold arI; rw [ha]
    rw [hai] at CA
    generalize x.kind = xk at *
    clear hai ha HNX HST HV HNK HJL HR
    go_wp2_with fail
    refine (CA _).mono ?_
    rintro e w4 ⟨rfl, rfl⟩
    go_wp2
    go_ret3
    refine ⟨.slice none 0 0, ?_, ?_, HG.out⟩
    ·rw [HF.out]; rfl
    ·rw [HF.out]; exact World.ownsRow_nil _ _ _ _
   | some a =>
    have hai : arI x.kind = (a : Int) := by unfold arI; rw [ha]
    rw [hai] at CA
    have HHA : Hid (arG x.kind = some a) := ha
    have hale := arG_le ha
    have ha0 : decide ((a : Int) < 0) = false := decide_eq_false (by omega)
    by_cases hfew : st.length < a
    ·have HF : Hid (walkG [] 0 t = .error (k, 120)) := HST.out _ (stepG_few ha hfew)
     have q2 : (st.length : Int) < (a : Int) := by omega
     generalize x.kind = xk at *
     clear hai ha HNX HST HV HNK HJL HR hfew hale HHA
     go_wp2_with fail
     refine (CA _).mono ?_
     rintro e w4 ⟨rfl, rfl⟩
     go_wp2
     go_ret3
     refine ⟨.slice none 0 0, ?_, ?_, HG.out⟩
     ·rw [HF.out]; rfl
     ·rw [HF.out]; exact World.ownsRow_nil _ _ _ _
    ·obtain ⟨f, hf⟩ : ∃ f, f = st.length - a := ⟨_, rfl⟩
     have hfa : st.length = f + a := by omega
     have q1 : IntKind.i64.wrap ((st.length : Int) - (a : Int)) = (f : Int) := by rw [IntKind.wrap_i64]; omega
     have q2 : decide ((st.length : Int) < (a : Int)) = false := decide_eq_false (by omega)
     have HFN : Hid (¬ st.length < a) := hfew
     have HFE : Hid (f = st.length - a) := hf
     have hle : (f : Int) ≤ (st.length : Int) := by omega
     have HFL : Hid (st.length = f + a) := hfa
     clear hfew hf hfa
     obtain ⟨xk, hxk⟩ : ∃ xk, x.kind = xk := ⟨_, rfl⟩
     rw [hxk] at c0 CA
     clear hxk hai ha
     go_wp2_with fail
     refine (CA _).mono ?_
     rintro e w4 ⟨rfl, rfl⟩
     clear CA
     go_upto_region 8 with fail
     have HPS : Hid ((st.drop f).length = a) := by show (st.drop f).length = a; rw [List.length_drop]; have := HFL.out; omega
     have HPV : Hid (∀ p ∈ st.drop f, p.val ≤ 4294967295) := fun p hp => HV.out p (List.mem_of_mem_drop hp)
     have HNX2 : Hid (faultG x (st.drop f) = 0 → walkG [] 0 t = walkG (st.take f ++ [joinG x (st.drop f)]) (k + 1) (t.drop (k + 1))) := fun h0 => by
      refine HNX.out _ ?_
      have := stepG_good HHA.out HFN.out (by rw [← HFE.out]; exact h0)
      rw [← HFE.out] at this
      exact this
     have HST2 : Hid (faultG x (st.drop f) ≠ 0 → walkG [] 0 t = .error (k, faultG x (st.drop f))) := fun h0 => by
      refine HST.out _ ?_
      have := stepG_bad HHA.out HFN.out (by rw [← HFE.out]; exact h0)
      rw [← HFE.out] at this
      exact this
     have HV2 : Hid (∀ p ∈ st.take f ++ [joinG x (st.drop f)], p.val ≤ 4294967295) := fun p hp => by
      rcases List.mem_append.1 hp with hp | hp
      ·exact HV.out p (List.mem_of_mem_take hp)
      ·rw [List.mem_singleton.1 hp]; exact HJL.out _ HPV.out
     have HLN : Hid ((st.take f ++ [joinG x (st.drop f)]).length = f + 1) := by show List.length _ = _; rw [List.length_append, List.length_take, List.length_singleton]; have := HFL.out; omega
     have HOW : Hid (∀ W, w4.grownBy W none → QOwns W w.heap.size (.slice aL st.length cL) st) := fun W GW => owns_keptNone HO.out GW
     clear HNX HST HFE HFN HV HJL
     rcases HO.out.2 with ⟨hv0, h0⟩ | ⟨g, cap0, cur, hv0, -⟩
     ·simp only [Value.slice.injEq] at hv0
      obtain ⟨rfl, -, rfl⟩ := hv0
      obtain rfl : st = [] := List.eq_nil_of_length_eq_zero h0
      have hfa0 := HFL.out
      obtain rfl : f = 0 := by simp only [List.length_nil] at hfa0; omega
      obtain rfl : a = 0 := by simp only [List.length_nil] at hfa0; omega
      rw [show ([] : List Pt).length = 0 from rfl]
      have HCALL : Hid (∀ W, w4.grownBy W none → Calls Tryz.prog 126 #[.agg cs.toArray, .slice none 0 0] W fun e w' => nodeR x (([] : List Pt).drop 0) e ∧ W.grownBy w' none) := fun W GW => HNK.out [] HHA.out (fun p hp => by cases hp) none 0 W ⟨fun _ => rfl, fun ad had => by cases had⟩
      have HAPP : Hid (∀ W, w4.grownBy W none → W.ownsRow w.heap.size 112 3 (.slice none 0 0) 0 (flat3 pqC (([] : List Pt).take 0))) := fun W _ => World.ownsRow_nil _ _ _ _
      have HOB : Hid (∀ x, (Value.slice none 0 0).ownBlock = some x → w.heap.size ≤ x) := fun x hx => by cases hx
      have HOK : Hid (∀ V, w4.heap.size ≤ V → (Value.slice none 0 0).ownBlock ≠ some V) := fun V _ e => by cases e
      have hw0 : IntKind.i64.wrap 0 = 0 := by rw [IntKind.wrap_i64]; rfl
      clear HO HOW HNK HPS HPV HHA c0 hfa0 h0 hle hst q1 q2 hb1 ha0
      refine wp_region_held_drew (S := fun W => w4.grownBy W none) (by kernel_rfl) (grown_drewN w4 1 none) (fun hHeld => ?_)
      refine wpT (i := 0) (v := .slice (some ⟨b, o, none⟩) t.length cap) rfl (Or.inl ⟨by rfl, fun W hW => ?_⟩) hHeld ?_
      ·clear hW
       go_simp
      try simp only [Act.put, a0, a1, a3, a4, a5]
      refine wpT (i := 1) (v := .int .i64 (k : Int)) rfl (Or.inl ⟨by rfl, fun W hW => ?_⟩) hHeld ?_
      ·clear hW
       go_simp
      try simp only [Act.put, a0, a1, a2, a3, a4, a5]
      refine wpT (i := 2) (v := .pointer (some ⟨b, o + k * 24, none⟩)) rfl (Or.inl ⟨by rfl, fun W hW => ?_⟩) hHeld ?_
      ·clear hW
       go_simp
      try simp only [Act.put, a0, a1, a2, a3, a4, a5]
      refine wpT (i := 3) (v := .agg cs.toArray) rfl (yieldsIf_load_mid (by rfl) _ _ rfl _ _ rfl cs _ (fun W hW => HR.out W (grown_trans HG.out hW)) Tryz.underlying43 rfl HZ.out) hHeld ?_
      try simp only [Act.put, a0, a1, a2, a3, a4, a5]
      refine wpT (i := 4) (v := .slice none 0 0) rfl (Or.inl ⟨by rfl, fun W hW => ?_⟩) hHeld ?_
      ·clear hW
       go_simp
      try simp only [Act.put, a0, a1, a2, a3, a4, a5]
      refine wpT (i := 5) (v := .slice none 0 0) rfl (Or.inl ⟨by rfl, fun W hW => ?_⟩) hHeld ?_
      ·clear hW
       go_simp
      try simp only [Act.put, a0, a1, a2, a3, a4, a5]
      refine wpT (i := 6) (v := .int .i64 0) rfl (Or.inl ⟨by rfl, fun W hW => ?_⟩) hHeld ?_
      ·clear hW
       go_simp
      try simp only [Act.put, a0, a1, a2, a3, a4, a5]
      refine wpT (i := 7) (v := .int .i64 0) rfl (Or.inl ⟨by rfl, fun W hW => ?_⟩) hHeld ?_
      ·clear hW
       go_simp
      try simp only [Act.put, a0, a1, a2, a3, a4, a5]
      refine wpT (i := 8) (v := .int .i64 0) rfl (Or.inl ⟨by rfl, fun W hW => ?_⟩) hHeld ?_
      ·clear hW
       go_simp
      try simp only [Act.put, a0, a1, a2, a3, a4, a5]
      refine wpT (i := 9) (v := .slice none 0 0) rfl (Or.inl ⟨by rfl, fun W hW => ?_⟩) hHeld ?_
      ·clear hW
       go_simp
      try simp only [Act.put, a0, a1, a2, a3, a4, a5]
      refine wpR (rs := [10, 14]) (AllReadyH.cons rfl (fun K hK => ?_) (AllReadyH.cons rfl (fun K hK => ?_) AllReadyH.nil))
      ·go_simp
       refine (HCALL.out _ hHeld).mono ?_
       rintro e w7 ⟨⟨q, rfl, hq⟩, K7⟩
       have HQ : Hid (faultG x (([] : List Pt).drop 0) = 0 → q = joinG x (([] : List Pt).drop 0)) := hq
       have HYZ : Hid ((Tryz.prog.info? 112).map (·.size) = some (pqC q).toArray.size ∧ 3 = (pqC q).toArray.size ∧ (pqC q).toArray.all (·.oneCell') = true) := ⟨pq_size _, rfl, pq_all _⟩
       obtain ⟨Y, hY⟩ : ∃ Y, (pqC q).toArray = Y := ⟨_, rfl⟩
       have HYY : Hid ((pqC q).toArray = Y) := hY
       rw [hY] at HYZ
       rw [hY]
       obtain ⟨fe, hfe⟩ : ∃ fe, faultG x (([] : List Pt).drop 0) = fe := ⟨_, rfl⟩
       have HFE : Hid (faultG x (([] : List Pt).drop 0) = fe) := hfe
       rw [hfe]
       clear hq hY hfe
       go_wp2_with fail
       refine hK.out _ _ (grown_trans hHeld K7) (fun hHeld => ?_)
       clear hK K K7
       try simp only [Act.put, a0, a1, a2, a3, a4, a5]
       refine wpT (i := 11) (v := .tuple #[.agg Y, .int .i64 fe]) rfl (Or.inl ⟨by rfl, fun W hW => ?_⟩) hHeld ?_
       ·clear hW
        go_simp
       try simp only [Act.put, a0, a1, a2, a3, a4, a5]
       refine wpT (i := 12) (v := .agg Y) rfl (Or.inl ⟨by rfl, fun W hW => ?_⟩) hHeld ?_
       ·clear hW
        go_simp
       try simp only [Act.put, a0, a1, a2, a3, a4, a5]
       refine wpT (i := 13) (v := .int .i64 fe) rfl (Or.inl ⟨by rfl, fun W hW => ?_⟩) hHeld ?_
       ·clear hW
        go_simp
       try simp only [Act.put, a0, a1, a2, a3, a4, a5]
       refine wpR (rs := [14]) (AllReadyH.cons rfl (fun K hK => ?_) AllReadyH.nil)
       refine step_alloc rfl 112 rfl #[.bool false, .bool false, .int .u32 0] (fun W => by kernel_rfl) ?_
       intro V w8 V8 K8 hV8
       have HVL : Hid (w4.heap.size ≤ V) := Nat.le_trans hHeld.size hV8
       refine hK.out _ _ (grown_trans hHeld K8) (fun hHeld => ?_)
       clear hK K K8 hV8
       try simp only [Act.put, a0, a1, a2, a3, a4, a5]
       refine wpR (rs := [15]) (AllReadyH.cons rfl (fun K hK => ?_) AllReadyH.nil)
       refine step_store_rowT rfl 112 (.tmp 8) (.tmp 43) rfl V Y rfl rfl 112 _ V8 HYZ.out.1 HYZ.out.2.1 HYZ.out.2.2 ?_
       have HV9 : Hid (VAt (w8.setRow V Y) V 112 Y ∧ w4.grownBy (w8.setRow V Y) none) := ⟨VAt.setRow V8 _, vgrown_setRow hHeld V _ (.inr HVL.out)⟩
       refine hK.out _ _ HV9.out.2 (fun hHeld => ?_)
       clear hK K V8
       generalize w8.setRow V Y = w9 at *
       try simp only [Act.put, List.getElem_toArray, List.getElem_cons_zero, List.getElem_cons_succ]
       refine wpT (i := 16) (v := .int .i64 fe) rfl (Or.inl ⟨by rfl, fun W hW => ?_⟩) hHeld ?_
       ·clear hW
        go_simp
       try simp only [Act.put, a0, a1, a2, a3, a4, a5]
       refine wpAnyH_done (by kernel_rfl) ?_ _
       clear hHeld
       by_cases hfz : fe = 0
       ·have HWN : Hid (walkG [] 0 t = walkG ((([] : List Pt).take 0) ++ [joinG x (([] : List Pt).drop 0)]) (k + 1) (t.drop (k + 1))) := HNX2.out (HFE.out.trans hfz)
        have hqj := HQ.out (HFE.out.trans hfz)
        subst hqj
        have HLI : Hid (∀ W : World, (Instr.buildSlice 108 1 #[(0, .agg Y)]).run Tryz.prog W = .ok (.slice (some ⟨W.heap.size, 0, none⟩) 1 1) (W.alloc (.cells (pqC (joinG x (([] : List Pt).drop 0))).toArray 112))) := by unfold Hid; rw [← HYY.out]; exact lit_partQ _
        have HOY : Hid (∀ u ∈ pqC (joinG x (([] : List Pt).drop 0)), u.oneCell' = true) := pqC_one _
        subst hfz
        go_upto_region 11 with fail
        have HD : Hid (VAt w9.drew V 112 Y ∧ w4.grownBy w9.drew none) := ⟨HV9.out.1.kept (grown_drewN w9 1 none), grown_trans HV9.out.2 (grown_drewN w9 1 none)⟩
        clear HV9
        refine wp_region_held_drew (S := fun W => VAt W V 112 Y) (by kernel_rfl) HD.out.1 (fun hHeld => ?_)
        refine wpT (i := 0) (v := .slice none 0 0) rfl (Or.inl ⟨by rfl, fun W hW => ?_⟩) hHeld ?_
        ·clear hW
         go_simp
        try simp only [Act.put, a0, a1, a3, a4, a5]
        refine wpT (i := 1) (v := .slice none 0 0) rfl (Or.inl ⟨by rfl, fun W hW => ?_⟩) hHeld ?_
        ·clear hW
         go_simp
        try simp only [Act.put, a0, a1, a2, a3, a4, a5]
        refine wpT (i := 2) (v := .int .i64 0) rfl (Or.inl ⟨by rfl, fun W hW => ?_⟩) hHeld ?_
        ·clear hW
         go_simp
        try simp only [Act.put, a0, a1, a2, a3, a4, a5]
        refine wpT (i := 3) (v := .int .i64 0) rfl (Or.inl ⟨by rfl, fun W hW => ?_⟩) hHeld ?_
        ·clear hW
         go_simp
        try simp only [Act.put, a0, a1, a2, a3, a4, a5]
        refine wpT (i := 4) (v := .int .i64 0) rfl (Or.inl ⟨by rfl, fun W hW => ?_⟩) hHeld ?_
        ·clear hW
         go_simp
        try simp only [Act.put, a0, a1, a2, a3, a4, a5]
        refine wpT (i := 5) (v := .slice none 0 0) rfl (Or.inl ⟨by rfl, fun W hW => ?_⟩) hHeld ?_
        ·clear hW
         go_simp
        try simp only [Act.put, a0, a1, a2, a3, a4, a5]
        refine wpT (i := 6) (v := .agg Y) rfl (yieldsIf_load_row (by rfl) _ _ rfl V rfl 112 Y _ (fun W hW => hW) Tryz.underlying112 rfl HYZ.out.1) hHeld ?_
        try simp only [Act.put, a0, a1, a2, a3, a4, a5]
        refine wpR (rs := [7]) (AllReadyH.cons rfl (fun K hK => ?_) AllReadyH.nil)
        refine step_lit (by rfl) 108 1 #[(0, .tmp 55)] (by rfl) #[(0, .agg Y)] (by kernel_rfl) (pqC (joinG x (([] : List Pt).drop 0))) 112 HLI.out ?_
        intro ad wA CA KA
        have GA := grown_trans HD.out.2 KA
        refine hK.out _ _ (hHeld.kept KA) (fun hHeld => ?_)
        clear hK K KA HD
        try simp only [Act.put, a0, a1, a2, a3, a4, a5]
        refine wpR (rs := [8]) (AllReadyH.cons rfl (fun K hK => ?_) AllReadyH.nil)
        refine step_append_own (by rfl) (.tmp 54) (.tmp 56) 108 (by rfl) 112 i0 _ 3 8 Tryz.underlying108 HI.out.1 HI.out.2.1 HI.out.2.2.1 HI.out.2.2.2 rfl (by decide) w.heap.size (.slice none 0 0) 0 (flat3 pqC (([] : List Pt).take 0)) (by rfl) (HAPP.out _ GA) ad 1 1 (pqC (joinG x (([] : List Pt).drop 0))) (by rfl) rfl CA HOY.out (by unfold maxLen; omega) (by omega) (Nat.le_trans HG.out.size GA.size) ?_
        intro vB wB OB KB BB
        have GB := grown_trans_new (grown_trans HG.out GA) KB HOB.out
        have HPB : VAt wB V 112 Y := hHeld.grown KB (HOK.out V HVL.out)
        have OC : QOwns wB w.heap.size vB ((([] : List Pt).take 0) ++ [joinG x (([] : List Pt).drop 0)]) := by
         unfold QOwns
         rw [HLN.out, flat3_append, flat3_one]
         exact OB
        have HFIN : Hid (QOwns wB w.heap.size vB ((([] : List Pt).take 0) ++ [joinG x (([] : List Pt).drop 0)]) ∧ (∀ p ∈ (([] : List Pt).take 0) ++ [joinG x (([] : List Pt).drop 0)], p.val ≤ 4294967295) ∧ walkG [] 0 t = walkG ((([] : List Pt).take 0) ++ [joinG x (([] : List Pt).drop 0)]) (k + 1) (t.drop (k + 1)) ∧ w.grownBy wB none) := ⟨OC, HV2.out, HWN.out, GB⟩
        refine hK.out _ _ HPB (fun hHeld => ?_)
        clear hK K OB OC KB BB GA GB CA HPB
        try simp only [Act.put, a0, a1, a2, a3, a4, a5]
        refine wpT (i := 9) (v := vB) rfl (Or.inl ⟨by rfl, fun W hW => ?_⟩) hHeld ?_
        ·clear hW
         go_simp
        try simp only [Act.put, a0, a1, a2, a3, a4, a5]
        refine wpAnyH_done (by kernel_rfl) ?_ _
        clear hHeld
        go_wp2
        go_roundw
        case rel => exact ⟨k + 1, _, by omega, by rw [HLN.out]; omega, by go_num, HFIN⟩
        case measure => simp [intOf]; omega
       ·have HF : Hid (walkG [] 0 t = .error (k, fe)) := by
         have := HST2.out (fun h => hfz (HFE.out.symm.trans h))
         rw [HFE.out] at this
         exact this
        have e1 : (fe != 0) = true := by rw [bne_iff_ne]; exact hfz
        have G9 := grown_trans HG.out HV9.out.2
        clear hfz
        go_wp2
        go_ret3
        refine ⟨.slice none 0 0, ?_, ?_, G9⟩
        ·rw [HF.out]; rfl
        ·rw [HF.out]; exact World.ownsRow_nil _ _ _ _
      ·refine step_alloc rfl 112 rfl #[.bool false, .bool false, .int .u32 0] (fun W => by kernel_rfl) ?_
       intro V w6 V6 K6 hV6
       have HVL : Hid (w4.heap.size ≤ V) := Nat.le_trans hHeld.size hV6
       refine hK.out _ _ (grown_trans hHeld K6) (fun hHeld => ?_)
       clear hK K K6 hV6
       try simp only [Act.put, a0, a1, a2, a3, a4, a5]
       refine wpR (rs := [10]) (AllReadyH.cons rfl (fun K hK => ?_) AllReadyH.nil)
       go_simp
       refine (HCALL.out _ hHeld).mono ?_
       rintro e w8 ⟨⟨q, rfl, hq⟩, K8⟩
       have V8 := V6.kept K8
       have HQ : Hid (faultG x (([] : List Pt).drop 0) = 0 → q = joinG x (([] : List Pt).drop 0)) := hq
       have HYZ : Hid ((Tryz.prog.info? 112).map (·.size) = some (pqC q).toArray.size ∧ 3 = (pqC q).toArray.size ∧ (pqC q).toArray.all (·.oneCell') = true) := ⟨pq_size _, rfl, pq_all _⟩
       obtain ⟨Y, hY⟩ : ∃ Y, (pqC q).toArray = Y := ⟨_, rfl⟩
       have HYY : Hid ((pqC q).toArray = Y) := hY
       rw [hY] at HYZ
       rw [hY]
       obtain ⟨fe, hfe⟩ : ∃ fe, faultG x (([] : List Pt).drop 0) = fe := ⟨_, rfl⟩
       have HFE : Hid (faultG x (([] : List Pt).drop 0) = fe) := hfe
       rw [hfe]
       clear hq hY hfe V6
       go_wp2_with fail
       refine hK.out _ _ (grown_trans hHeld K8) (fun hHeld => ?_)
       clear hK K K8
       try simp only [Act.put, a0, a1, a2, a3, a4, a5]
       refine wpT (i := 11) (v := .tuple #[.agg Y, .int .i64 fe]) rfl (Or.inl ⟨by rfl, fun W hW => ?_⟩) hHeld ?_
       ·clear hW
        go_simp
       try simp only [Act.put, a0, a1, a2, a3, a4, a5]
       refine wpT (i := 12) (v := .agg Y) rfl (Or.inl ⟨by rfl, fun W hW => ?_⟩) hHeld ?_
       ·clear hW
        go_simp
       try simp only [Act.put, a0, a1, a2, a3, a4, a5]
       refine wpT (i := 13) (v := .int .i64 fe) rfl (Or.inl ⟨by rfl, fun W hW => ?_⟩) hHeld ?_
       ·clear hW
        go_simp
       try simp only [Act.put, a0, a1, a2, a3, a4, a5]
       refine wpR (rs := [15]) (AllReadyH.cons rfl (fun K hK => ?_) AllReadyH.nil)
       refine step_store_rowT rfl 112 (.tmp 8) (.tmp 43) rfl V Y rfl rfl 112 _ V8 HYZ.out.1 HYZ.out.2.1 HYZ.out.2.2 ?_
       have HV9 : Hid (VAt (w8.setRow V Y) V 112 Y ∧ w4.grownBy (w8.setRow V Y) none) := ⟨VAt.setRow V8 _, vgrown_setRow hHeld V _ (.inr HVL.out)⟩
       refine hK.out _ _ HV9.out.2 (fun hHeld => ?_)
       clear hK K V8
       generalize w8.setRow V Y = w9 at *
       try simp only [Act.put, List.getElem_toArray, List.getElem_cons_zero, List.getElem_cons_succ]
       refine wpT (i := 16) (v := .int .i64 fe) rfl (Or.inl ⟨by rfl, fun W hW => ?_⟩) hHeld ?_
       ·clear hW
        go_simp
       try simp only [Act.put, a0, a1, a2, a3, a4, a5]
       refine wpAnyH_done (by kernel_rfl) ?_ _
       clear hHeld
       by_cases hfz : fe = 0
       ·have HWN : Hid (walkG [] 0 t = walkG ((([] : List Pt).take 0) ++ [joinG x (([] : List Pt).drop 0)]) (k + 1) (t.drop (k + 1))) := HNX2.out (HFE.out.trans hfz)
        have hqj := HQ.out (HFE.out.trans hfz)
        subst hqj
        have HLI : Hid (∀ W : World, (Instr.buildSlice 108 1 #[(0, .agg Y)]).run Tryz.prog W = .ok (.slice (some ⟨W.heap.size, 0, none⟩) 1 1) (W.alloc (.cells (pqC (joinG x (([] : List Pt).drop 0))).toArray 112))) := by unfold Hid; rw [← HYY.out]; exact lit_partQ _
        have HOY : Hid (∀ u ∈ pqC (joinG x (([] : List Pt).drop 0)), u.oneCell' = true) := pqC_one _
        subst hfz
        go_upto_region 11 with fail
        have HD : Hid (VAt w9.drew V 112 Y ∧ w4.grownBy w9.drew none) := ⟨HV9.out.1.kept (grown_drewN w9 1 none), grown_trans HV9.out.2 (grown_drewN w9 1 none)⟩
        clear HV9
        refine wp_region_held_drew (S := fun W => VAt W V 112 Y) (by kernel_rfl) HD.out.1 (fun hHeld => ?_)
        refine wpT (i := 0) (v := .slice none 0 0) rfl (Or.inl ⟨by rfl, fun W hW => ?_⟩) hHeld ?_
        ·clear hW
         go_simp
        try simp only [Act.put, a0, a1, a3, a4, a5]
        refine wpT (i := 1) (v := .slice none 0 0) rfl (Or.inl ⟨by rfl, fun W hW => ?_⟩) hHeld ?_
        ·clear hW
         go_simp
        try simp only [Act.put, a0, a1, a2, a3, a4, a5]
        refine wpT (i := 2) (v := .int .i64 0) rfl (Or.inl ⟨by rfl, fun W hW => ?_⟩) hHeld ?_
        ·clear hW
         go_simp
        try simp only [Act.put, a0, a1, a2, a3, a4, a5]
        refine wpT (i := 3) (v := .int .i64 0) rfl (Or.inl ⟨by rfl, fun W hW => ?_⟩) hHeld ?_
        ·clear hW
         go_simp
        try simp only [Act.put, a0, a1, a2, a3, a4, a5]
        refine wpT (i := 4) (v := .int .i64 0) rfl (Or.inl ⟨by rfl, fun W hW => ?_⟩) hHeld ?_
        ·clear hW
         go_simp
        try simp only [Act.put, a0, a1, a2, a3, a4, a5]
        refine wpT (i := 5) (v := .slice none 0 0) rfl (Or.inl ⟨by rfl, fun W hW => ?_⟩) hHeld ?_
        ·clear hW
         go_simp
        try simp only [Act.put, a0, a1, a2, a3, a4, a5]
        refine wpT (i := 6) (v := .agg Y) rfl (yieldsIf_load_row (by rfl) _ _ rfl V rfl 112 Y _ (fun W hW => hW) Tryz.underlying112 rfl HYZ.out.1) hHeld ?_
        try simp only [Act.put, a0, a1, a2, a3, a4, a5]
        refine wpR (rs := [7]) (AllReadyH.cons rfl (fun K hK => ?_) AllReadyH.nil)
        refine step_lit (by rfl) 108 1 #[(0, .tmp 55)] (by rfl) #[(0, .agg Y)] (by kernel_rfl) (pqC (joinG x (([] : List Pt).drop 0))) 112 HLI.out ?_
        intro ad wA CA KA
        have GA := grown_trans HD.out.2 KA
        refine hK.out _ _ (hHeld.kept KA) (fun hHeld => ?_)
        clear hK K KA HD
        try simp only [Act.put, a0, a1, a2, a3, a4, a5]
        refine wpR (rs := [8]) (AllReadyH.cons rfl (fun K hK => ?_) AllReadyH.nil)
        refine step_append_own (by rfl) (.tmp 54) (.tmp 56) 108 (by rfl) 112 i0 _ 3 8 Tryz.underlying108 HI.out.1 HI.out.2.1 HI.out.2.2.1 HI.out.2.2.2 rfl (by decide) w.heap.size (.slice none 0 0) 0 (flat3 pqC (([] : List Pt).take 0)) (by rfl) (HAPP.out _ GA) ad 1 1 (pqC (joinG x (([] : List Pt).drop 0))) (by rfl) rfl CA HOY.out (by unfold maxLen; omega) (by omega) (Nat.le_trans HG.out.size GA.size) ?_
        intro vB wB OB KB BB
        have GB := grown_trans_new (grown_trans HG.out GA) KB HOB.out
        have HPB : VAt wB V 112 Y := hHeld.grown KB (HOK.out V HVL.out)
        have OC : QOwns wB w.heap.size vB ((([] : List Pt).take 0) ++ [joinG x (([] : List Pt).drop 0)]) := by
         unfold QOwns
         rw [HLN.out, flat3_append, flat3_one]
         exact OB
        have HFIN : Hid (QOwns wB w.heap.size vB ((([] : List Pt).take 0) ++ [joinG x (([] : List Pt).drop 0)]) ∧ (∀ p ∈ (([] : List Pt).take 0) ++ [joinG x (([] : List Pt).drop 0)], p.val ≤ 4294967295) ∧ walkG [] 0 t = walkG ((([] : List Pt).take 0) ++ [joinG x (([] : List Pt).drop 0)]) (k + 1) (t.drop (k + 1)) ∧ w.grownBy wB none) := ⟨OC, HV2.out, HWN.out, GB⟩
        refine hK.out _ _ HPB (fun hHeld => ?_)
        clear hK K OB OC KB BB GA GB CA HPB
        try simp only [Act.put, a0, a1, a2, a3, a4, a5]
        refine wpT (i := 9) (v := vB) rfl (Or.inl ⟨by rfl, fun W hW => ?_⟩) hHeld ?_
        ·clear hW
         go_simp
        try simp only [Act.put, a0, a1, a2, a3, a4, a5]
        refine wpAnyH_done (by kernel_rfl) ?_ _
        clear hHeld
        go_wp2
        go_roundw
        case rel => exact ⟨k + 1, _, by omega, by rw [HLN.out]; omega, by go_num, HFIN⟩
        case measure => simp [intOf]; omega
       ·have HF : Hid (walkG [] 0 t = .error (k, fe)) := by
         have := HST2.out (fun h => hfz (HFE.out.symm.trans h))
         rw [HFE.out] at this
         exact this
        have e1 : (fe != 0) = true := by rw [bne_iff_ne]; exact hfz
        have G9 := grown_trans HG.out HV9.out.2
        clear hfz
        go_wp2
        go_ret3
        refine ⟨.slice none 0 0, ?_, ?_, G9⟩
        ·rw [HF.out]; rfl
        ·rw [HF.out]; exact World.ownsRow_nil _ _ _ _
     ·simp only [Value.slice.injEq] at hv0
      obtain ⟨rfl, -, rfl⟩ := hv0
      have HSL : Hid (st.length - f = a) := by show _ - _ = _; have := HFL.out; omega
      have HCALL0 : Hid (∀ W, w4.grownBy W none → Calls Tryz.prog 126 #[.agg cs.toArray, .slice (if cL = f then some ⟨g, 0, none⟩ else some ⟨g, f * 3, none⟩) a (cL - f)] W fun e w' => nodeR x (st.drop f) e ∧ W.grownBy w' none) := fun W GW => by
       have C' : CV W (if cL = f then some ⟨g, 0, none⟩ else some ⟨g, f * 3, none⟩) (flat3 pqC (st.drop f)) := by
        obtain ⟨ao', cap', e, C', -⟩ := cv_of_row (HOW.out W GW)
        simp only [Value.slice.injEq] at e
        obtain ⟨rfl, -, rfl⟩ := e
        refine cv_drop pqC_len C' f _ ?_
        by_cases hcf : cL = f
        ·rw [if_pos hcf]
         exact .inr ⟨by omega, by simp⟩
        ·rw [if_neg hcf]
         exact .inl rfl
       have := HNK.out (st.drop f) (by rw [HPS.out]; exact HHA.out) HPV.out _ (cL - f) W C'
       rw [HPS.out] at this
       exact this
      have HAPP : Hid (∀ W, w4.grownBy W none → W.ownsRow w.heap.size 112 3 (.slice (some ⟨g, 0, none⟩) f cL) f (flat3 pqC (st.take f))) := fun W GW => by
       have := owns_take (HOW.out W GW) (m := f) (by have := HFL.out; omega)
       rw [flat3_take pqC_len] at this
       exact this
      have HOB : Hid (∀ x, (Value.slice (some ⟨g, 0, none⟩) f cL).ownBlock = some x → w.heap.size ≤ x) := fun x hx => by
       cases hx
       exact (HO.out.lt g rfl).1
      have HOK : Hid (∀ V, w4.heap.size ≤ V → (Value.slice (some ⟨g, 0, none⟩) f cL).ownBlock ≠ some V) := fun V hV e => by
       have h1 : g = V := Option.some.inj e
       have h2 : g < w4.heap.size := (HO.out.lt g rfl).2
       omega
      obtain ⟨PA, hPA⟩ : ∃ PA, (if cL = f then some (⟨g, 0, none⟩ : Addr) else some ⟨g, f * 3, none⟩) = PA := ⟨_, rfl⟩
      have HCALL : Hid (∀ W, w4.grownBy W none → Calls Tryz.prog 126 #[.agg cs.toArray, .slice PA a (cL - f)] W fun e w' => nodeR x (st.drop f) e ∧ W.grownBy w' none) := hPA ▸ HCALL0
      have hcf : ¬ cL < f := by have := HFL.out; omega
      have hsl := HSL.out
      clear HCALL0 HO HOW HNK HPS HPV HHA HSL c0
      refine wp_region_held_drew (S := fun W => w4.grownBy W none) (by kernel_rfl) (grown_drewN w4 1 none) (fun hHeld => ?_)
      refine wpT (i := 0) (v := .slice (some ⟨b, o, none⟩) t.length cap) rfl (Or.inl ⟨by rfl, fun W hW => ?_⟩) hHeld ?_
      ·clear hW
       go_simp
      try simp only [Act.put, a0, a1, a3, a4, a5]
      refine wpT (i := 1) (v := .int .i64 (k : Int)) rfl (Or.inl ⟨by rfl, fun W hW => ?_⟩) hHeld ?_
      ·clear hW
       go_simp
      try simp only [Act.put, a0, a1, a2, a3, a4, a5]
      refine wpT (i := 2) (v := .pointer (some ⟨b, o + k * 24, none⟩)) rfl (Or.inl ⟨by rfl, fun W hW => ?_⟩) hHeld ?_
      ·clear hW
       go_simp
      try simp only [Act.put, a0, a1, a2, a3, a4, a5]
      refine wpT (i := 3) (v := .agg cs.toArray) rfl (yieldsIf_load_mid (by rfl) _ _ rfl _ _ rfl cs _ (fun W hW => HR.out W (grown_trans HG.out hW)) Tryz.underlying43 rfl HZ.out) hHeld ?_
      try simp only [Act.put, a0, a1, a2, a3, a4, a5]
      refine wpT (i := 4) (v := .slice (some ⟨g, 0, none⟩) st.length cL) rfl (Or.inl ⟨by rfl, fun W hW => ?_⟩) hHeld ?_
      ·clear hW
       go_simp
      try simp only [Act.put, a0, a1, a2, a3, a4, a5]
      refine wpT (i := 5) (v := .slice (some ⟨g, 0, none⟩) st.length cL) rfl (Or.inl ⟨by rfl, fun W hW => ?_⟩) hHeld ?_
      ·clear hW
       go_simp
      try simp only [Act.put, a0, a1, a2, a3, a4, a5]
      refine wpT (i := 6) (v := .int .i64 (st.length : Int)) rfl (Or.inl ⟨by rfl, fun W hW => ?_⟩) hHeld ?_
      ·clear hW
       go_simp
      try simp only [Act.put, a0, a1, a2, a3, a4, a5]
      refine wpT (i := 7) (v := .int .i64 (a : Int)) rfl (Or.inl ⟨by rfl, fun W hW => ?_⟩) hHeld ?_
      ·clear hW
       go_simp
      try simp only [Act.put, a0, a1, a2, a3, a4, a5]
      refine wpT (i := 8) (v := .int .i64 (f : Int)) rfl (Or.inl ⟨by rfl, fun W hW => ?_⟩) hHeld ?_
      ·clear hW
       go_simp
      try simp only [Act.put, a0, a1, a2, a3, a4, a5]
      refine wpT (i := 9) (v := .slice PA a (cL - f)) rfl (Or.inl ⟨by rfl, fun W hW => ?_⟩) hHeld ?_
      ·clear hW
       go_simp
      try simp only [Act.put, a0, a1, a2, a3, a4, a5]
      refine wpR (rs := [10, 14]) (AllReadyH.cons rfl (fun K hK => ?_) (AllReadyH.cons rfl (fun K hK => ?_) AllReadyH.nil))
      ·go_simp
       refine (HCALL.out _ hHeld).mono ?_
       rintro e w7 ⟨⟨q, rfl, hq⟩, K7⟩
       have HQ : Hid (faultG x (st.drop f) = 0 → q = joinG x (st.drop f)) := hq
       have HYZ : Hid ((Tryz.prog.info? 112).map (·.size) = some (pqC q).toArray.size ∧ 3 = (pqC q).toArray.size ∧ (pqC q).toArray.all (·.oneCell') = true) := ⟨pq_size _, rfl, pq_all _⟩
       obtain ⟨Y, hY⟩ : ∃ Y, (pqC q).toArray = Y := ⟨_, rfl⟩
       have HYY : Hid ((pqC q).toArray = Y) := hY
       rw [hY] at HYZ
       rw [hY]
       obtain ⟨fe, hfe⟩ : ∃ fe, faultG x (st.drop f) = fe := ⟨_, rfl⟩
       have HFE : Hid (faultG x (st.drop f) = fe) := hfe
       rw [hfe]
       clear hq hY hfe
       go_wp2_with fail
       refine hK.out _ _ (grown_trans hHeld K7) (fun hHeld => ?_)
       clear hK K K7
       try simp only [Act.put, a0, a1, a2, a3, a4, a5]
       refine wpT (i := 11) (v := .tuple #[.agg Y, .int .i64 fe]) rfl (Or.inl ⟨by rfl, fun W hW => ?_⟩) hHeld ?_
       ·clear hW
        go_simp
       try simp only [Act.put, a0, a1, a2, a3, a4, a5]
       refine wpT (i := 12) (v := .agg Y) rfl (Or.inl ⟨by rfl, fun W hW => ?_⟩) hHeld ?_
       ·clear hW
        go_simp
       try simp only [Act.put, a0, a1, a2, a3, a4, a5]
       refine wpT (i := 13) (v := .int .i64 fe) rfl (Or.inl ⟨by rfl, fun W hW => ?_⟩) hHeld ?_
       ·clear hW
        go_simp
       try simp only [Act.put, a0, a1, a2, a3, a4, a5]
       refine wpR (rs := [14]) (AllReadyH.cons rfl (fun K hK => ?_) AllReadyH.nil)
       refine step_alloc rfl 112 rfl #[.bool false, .bool false, .int .u32 0] (fun W => by kernel_rfl) ?_
       intro V w8 V8 K8 hV8
       have HVL : Hid (w4.heap.size ≤ V) := Nat.le_trans hHeld.size hV8
       refine hK.out _ _ (grown_trans hHeld K8) (fun hHeld => ?_)
       clear hK K K8 hV8
       try simp only [Act.put, a0, a1, a2, a3, a4, a5]
       refine wpR (rs := [15]) (AllReadyH.cons rfl (fun K hK => ?_) AllReadyH.nil)
       refine step_store_rowT rfl 112 (.tmp 8) (.tmp 43) rfl V Y rfl rfl 112 _ V8 HYZ.out.1 HYZ.out.2.1 HYZ.out.2.2 ?_
       have HV9 : Hid (VAt (w8.setRow V Y) V 112 Y ∧ w4.grownBy (w8.setRow V Y) none) := ⟨VAt.setRow V8 _, vgrown_setRow hHeld V _ (.inr HVL.out)⟩
       refine hK.out _ _ HV9.out.2 (fun hHeld => ?_)
       clear hK K V8
       generalize w8.setRow V Y = w9 at *
       try simp only [Act.put, List.getElem_toArray, List.getElem_cons_zero, List.getElem_cons_succ]
       refine wpT (i := 16) (v := .int .i64 fe) rfl (Or.inl ⟨by rfl, fun W hW => ?_⟩) hHeld ?_
       ·clear hW
        go_simp
       try simp only [Act.put, a0, a1, a2, a3, a4, a5]
       refine wpAnyH_done (by kernel_rfl) ?_ _
       clear hHeld
       by_cases hfz : fe = 0
       ·have HWN : Hid (walkG [] 0 t = walkG ((st.take f) ++ [joinG x (st.drop f)]) (k + 1) (t.drop (k + 1))) := HNX2.out (HFE.out.trans hfz)
        have hqj := HQ.out (HFE.out.trans hfz)
        subst hqj
        have HLI : Hid (∀ W : World, (Instr.buildSlice 108 1 #[(0, .agg Y)]).run Tryz.prog W = .ok (.slice (some ⟨W.heap.size, 0, none⟩) 1 1) (W.alloc (.cells (pqC (joinG x (st.drop f))).toArray 112))) := by unfold Hid; rw [← HYY.out]; exact lit_partQ _
        have HOY : Hid (∀ u ∈ pqC (joinG x (st.drop f)), u.oneCell' = true) := pqC_one _
        subst hfz
        go_upto_region 11 with fail
        have HD : Hid (VAt w9.drew V 112 Y ∧ w4.grownBy w9.drew none) := ⟨HV9.out.1.kept (grown_drewN w9 1 none), grown_trans HV9.out.2 (grown_drewN w9 1 none)⟩
        clear HV9
        refine wp_region_held_drew (S := fun W => VAt W V 112 Y) (by kernel_rfl) HD.out.1 (fun hHeld => ?_)
        refine wpT (i := 0) (v := .slice (some ⟨g, 0, none⟩) st.length cL) rfl (Or.inl ⟨by rfl, fun W hW => ?_⟩) hHeld ?_
        ·clear hW
         go_simp
        try simp only [Act.put, a0, a1, a3, a4, a5]
        refine wpT (i := 1) (v := .slice (some ⟨g, 0, none⟩) st.length cL) rfl (Or.inl ⟨by rfl, fun W hW => ?_⟩) hHeld ?_
        ·clear hW
         go_simp
        try simp only [Act.put, a0, a1, a2, a3, a4, a5]
        refine wpT (i := 2) (v := .int .i64 (st.length : Int)) rfl (Or.inl ⟨by rfl, fun W hW => ?_⟩) hHeld ?_
        ·clear hW
         go_simp
        try simp only [Act.put, a0, a1, a2, a3, a4, a5]
        refine wpT (i := 3) (v := .int .i64 (a : Int)) rfl (Or.inl ⟨by rfl, fun W hW => ?_⟩) hHeld ?_
        ·clear hW
         go_simp
        try simp only [Act.put, a0, a1, a2, a3, a4, a5]
        refine wpT (i := 4) (v := .int .i64 (f : Int)) rfl (Or.inl ⟨by rfl, fun W hW => ?_⟩) hHeld ?_
        ·clear hW
         go_simp
        try simp only [Act.put, a0, a1, a2, a3, a4, a5]
        refine wpT (i := 5) (v := .slice (some ⟨g, 0, none⟩) f cL) rfl (Or.inl ⟨by rfl, fun W hW => ?_⟩) hHeld ?_
        ·clear hW
         go_simp
        try simp only [Act.put, a0, a1, a2, a3, a4, a5]
        refine wpT (i := 6) (v := .agg Y) rfl (yieldsIf_load_row (by rfl) _ _ rfl V rfl 112 Y _ (fun W hW => hW) Tryz.underlying112 rfl HYZ.out.1) hHeld ?_
        try simp only [Act.put, a0, a1, a2, a3, a4, a5]
        refine wpR (rs := [7]) (AllReadyH.cons rfl (fun K hK => ?_) AllReadyH.nil)
        refine step_lit (by rfl) 108 1 #[(0, .tmp 55)] (by rfl) #[(0, .agg Y)] (by kernel_rfl) (pqC (joinG x (st.drop f))) 112 HLI.out ?_
        intro ad wA CA KA
        have GA := grown_trans HD.out.2 KA
        refine hK.out _ _ (hHeld.kept KA) (fun hHeld => ?_)
        clear hK K KA HD
        try simp only [Act.put, a0, a1, a2, a3, a4, a5]
        refine wpR (rs := [8]) (AllReadyH.cons rfl (fun K hK => ?_) AllReadyH.nil)
        refine step_append_own (by rfl) (.tmp 54) (.tmp 56) 108 (by rfl) 112 i0 _ 3 8 Tryz.underlying108 HI.out.1 HI.out.2.1 HI.out.2.2.1 HI.out.2.2.2 rfl (by decide) w.heap.size (.slice (some ⟨g, 0, none⟩) f cL) f (flat3 pqC (st.take f)) (by rfl) (HAPP.out _ GA) ad 1 1 (pqC (joinG x (st.drop f))) (by rfl) rfl CA HOY.out (by unfold maxLen; omega) (by omega) (Nat.le_trans HG.out.size GA.size) ?_
        intro vB wB OB KB BB
        have GB := grown_trans_new (grown_trans HG.out GA) KB HOB.out
        have HPB : VAt wB V 112 Y := hHeld.grown KB (HOK.out V HVL.out)
        have OC : QOwns wB w.heap.size vB ((st.take f) ++ [joinG x (st.drop f)]) := by
         unfold QOwns
         rw [HLN.out, flat3_append, flat3_one]
         exact OB
        have HFIN : Hid (QOwns wB w.heap.size vB ((st.take f) ++ [joinG x (st.drop f)]) ∧ (∀ p ∈ (st.take f) ++ [joinG x (st.drop f)], p.val ≤ 4294967295) ∧ walkG [] 0 t = walkG ((st.take f) ++ [joinG x (st.drop f)]) (k + 1) (t.drop (k + 1)) ∧ w.grownBy wB none) := ⟨OC, HV2.out, HWN.out, GB⟩
        refine hK.out _ _ HPB (fun hHeld => ?_)
        clear hK K OB OC KB BB GA GB CA HPB
        try simp only [Act.put, a0, a1, a2, a3, a4, a5]
        refine wpT (i := 9) (v := vB) rfl (Or.inl ⟨by rfl, fun W hW => ?_⟩) hHeld ?_
        ·clear hW
         go_simp
        try simp only [Act.put, a0, a1, a2, a3, a4, a5]
        refine wpAnyH_done (by kernel_rfl) ?_ _
        clear hHeld
        go_wp2
        go_roundw
        case rel => exact ⟨k + 1, _, by omega, by rw [HLN.out]; omega, by go_num, HFIN⟩
        case measure => simp [intOf]; omega
       ·have HF : Hid (walkG [] 0 t = .error (k, fe)) := by
         have := HST2.out (fun h => hfz (HFE.out.symm.trans h))
         rw [HFE.out] at this
         exact this
        have e1 : (fe != 0) = true := by rw [bne_iff_ne]; exact hfz
        have G9 := grown_trans HG.out HV9.out.2
        clear hfz
        go_wp2
        go_ret3
        refine ⟨.slice none 0 0, ?_, ?_, G9⟩
        ·rw [HF.out]; rfl
        ·rw [HF.out]; exact World.ownsRow_nil _ _ _ _
      ·refine step_alloc rfl 112 rfl #[.bool false, .bool false, .int .u32 0] (fun W => by kernel_rfl) ?_
       intro V w6 V6 K6 hV6
       have HVL : Hid (w4.heap.size ≤ V) := Nat.le_trans hHeld.size hV6
       refine hK.out _ _ (grown_trans hHeld K6) (fun hHeld => ?_)
       clear hK K K6 hV6
       try simp only [Act.put, a0, a1, a2, a3, a4, a5]
       refine wpR (rs := [10]) (AllReadyH.cons rfl (fun K hK => ?_) AllReadyH.nil)
       go_simp
       refine (HCALL.out _ hHeld).mono ?_
       rintro e w8 ⟨⟨q, rfl, hq⟩, K8⟩
       have V8 := V6.kept K8
       have HQ : Hid (faultG x (st.drop f) = 0 → q = joinG x (st.drop f)) := hq
       have HYZ : Hid ((Tryz.prog.info? 112).map (·.size) = some (pqC q).toArray.size ∧ 3 = (pqC q).toArray.size ∧ (pqC q).toArray.all (·.oneCell') = true) := ⟨pq_size _, rfl, pq_all _⟩
       obtain ⟨Y, hY⟩ : ∃ Y, (pqC q).toArray = Y := ⟨_, rfl⟩
       have HYY : Hid ((pqC q).toArray = Y) := hY
       rw [hY] at HYZ
       rw [hY]
       obtain ⟨fe, hfe⟩ : ∃ fe, faultG x (st.drop f) = fe := ⟨_, rfl⟩
       have HFE : Hid (faultG x (st.drop f) = fe) := hfe
       rw [hfe]
       clear hq hY hfe V6
       go_wp2_with fail
       refine hK.out _ _ (grown_trans hHeld K8) (fun hHeld => ?_)
       clear hK K K8
       try simp only [Act.put, a0, a1, a2, a3, a4, a5]
       refine wpT (i := 11) (v := .tuple #[.agg Y, .int .i64 fe]) rfl (Or.inl ⟨by rfl, fun W hW => ?_⟩) hHeld ?_
       ·clear hW
        go_simp
       try simp only [Act.put, a0, a1, a2, a3, a4, a5]
       refine wpT (i := 12) (v := .agg Y) rfl (Or.inl ⟨by rfl, fun W hW => ?_⟩) hHeld ?_
       ·clear hW
        go_simp
       try simp only [Act.put, a0, a1, a2, a3, a4, a5]
       refine wpT (i := 13) (v := .int .i64 fe) rfl (Or.inl ⟨by rfl, fun W hW => ?_⟩) hHeld ?_
       ·clear hW
        go_simp
       try simp only [Act.put, a0, a1, a2, a3, a4, a5]
       refine wpR (rs := [15]) (AllReadyH.cons rfl (fun K hK => ?_) AllReadyH.nil)
       refine step_store_rowT rfl 112 (.tmp 8) (.tmp 43) rfl V Y rfl rfl 112 _ V8 HYZ.out.1 HYZ.out.2.1 HYZ.out.2.2 ?_
       have HV9 : Hid (VAt (w8.setRow V Y) V 112 Y ∧ w4.grownBy (w8.setRow V Y) none) := ⟨VAt.setRow V8 _, vgrown_setRow hHeld V _ (.inr HVL.out)⟩
       refine hK.out _ _ HV9.out.2 (fun hHeld => ?_)
       clear hK K V8
       generalize w8.setRow V Y = w9 at *
       try simp only [Act.put, List.getElem_toArray, List.getElem_cons_zero, List.getElem_cons_succ]
       refine wpT (i := 16) (v := .int .i64 fe) rfl (Or.inl ⟨by rfl, fun W hW => ?_⟩) hHeld ?_
       ·clear hW
        go_simp
       try simp only [Act.put, a0, a1, a2, a3, a4, a5]
       refine wpAnyH_done (by kernel_rfl) ?_ _
       clear hHeld
       by_cases hfz : fe = 0
       ·have HWN : Hid (walkG [] 0 t = walkG ((st.take f) ++ [joinG x (st.drop f)]) (k + 1) (t.drop (k + 1))) := HNX2.out (HFE.out.trans hfz)
        have hqj := HQ.out (HFE.out.trans hfz)
        subst hqj
        have HLI : Hid (∀ W : World, (Instr.buildSlice 108 1 #[(0, .agg Y)]).run Tryz.prog W = .ok (.slice (some ⟨W.heap.size, 0, none⟩) 1 1) (W.alloc (.cells (pqC (joinG x (st.drop f))).toArray 112))) := by unfold Hid; rw [← HYY.out]; exact lit_partQ _
        have HOY : Hid (∀ u ∈ pqC (joinG x (st.drop f)), u.oneCell' = true) := pqC_one _
        subst hfz
        go_upto_region 11 with fail
        have HD : Hid (VAt w9.drew V 112 Y ∧ w4.grownBy w9.drew none) := ⟨HV9.out.1.kept (grown_drewN w9 1 none), grown_trans HV9.out.2 (grown_drewN w9 1 none)⟩
        clear HV9
        refine wp_region_held_drew (S := fun W => VAt W V 112 Y) (by kernel_rfl) HD.out.1 (fun hHeld => ?_)
        refine wpT (i := 0) (v := .slice (some ⟨g, 0, none⟩) st.length cL) rfl (Or.inl ⟨by rfl, fun W hW => ?_⟩) hHeld ?_
        ·clear hW
         go_simp
        try simp only [Act.put, a0, a1, a3, a4, a5]
        refine wpT (i := 1) (v := .slice (some ⟨g, 0, none⟩) st.length cL) rfl (Or.inl ⟨by rfl, fun W hW => ?_⟩) hHeld ?_
        ·clear hW
         go_simp
        try simp only [Act.put, a0, a1, a2, a3, a4, a5]
        refine wpT (i := 2) (v := .int .i64 (st.length : Int)) rfl (Or.inl ⟨by rfl, fun W hW => ?_⟩) hHeld ?_
        ·clear hW
         go_simp
        try simp only [Act.put, a0, a1, a2, a3, a4, a5]
        refine wpT (i := 3) (v := .int .i64 (a : Int)) rfl (Or.inl ⟨by rfl, fun W hW => ?_⟩) hHeld ?_
        ·clear hW
         go_simp
        try simp only [Act.put, a0, a1, a2, a3, a4, a5]
        refine wpT (i := 4) (v := .int .i64 (f : Int)) rfl (Or.inl ⟨by rfl, fun W hW => ?_⟩) hHeld ?_
        ·clear hW
         go_simp
        try simp only [Act.put, a0, a1, a2, a3, a4, a5]
        refine wpT (i := 5) (v := .slice (some ⟨g, 0, none⟩) f cL) rfl (Or.inl ⟨by rfl, fun W hW => ?_⟩) hHeld ?_
        ·clear hW
         go_simp
        try simp only [Act.put, a0, a1, a2, a3, a4, a5]
        refine wpT (i := 6) (v := .agg Y) rfl (yieldsIf_load_row (by rfl) _ _ rfl V rfl 112 Y _ (fun W hW => hW) Tryz.underlying112 rfl HYZ.out.1) hHeld ?_
        try simp only [Act.put, a0, a1, a2, a3, a4, a5]
        refine wpR (rs := [7]) (AllReadyH.cons rfl (fun K hK => ?_) AllReadyH.nil)
        refine step_lit (by rfl) 108 1 #[(0, .tmp 55)] (by rfl) #[(0, .agg Y)] (by kernel_rfl) (pqC (joinG x (st.drop f))) 112 HLI.out ?_
        intro ad wA CA KA
        have GA := grown_trans HD.out.2 KA
        refine hK.out _ _ (hHeld.kept KA) (fun hHeld => ?_)
        clear hK K KA HD
        try simp only [Act.put, a0, a1, a2, a3, a4, a5]
        refine wpR (rs := [8]) (AllReadyH.cons rfl (fun K hK => ?_) AllReadyH.nil)
        refine step_append_own (by rfl) (.tmp 54) (.tmp 56) 108 (by rfl) 112 i0 _ 3 8 Tryz.underlying108 HI.out.1 HI.out.2.1 HI.out.2.2.1 HI.out.2.2.2 rfl (by decide) w.heap.size (.slice (some ⟨g, 0, none⟩) f cL) f (flat3 pqC (st.take f)) (by rfl) (HAPP.out _ GA) ad 1 1 (pqC (joinG x (st.drop f))) (by rfl) rfl CA HOY.out (by unfold maxLen; omega) (by omega) (Nat.le_trans HG.out.size GA.size) ?_
        intro vB wB OB KB BB
        have GB := grown_trans_new (grown_trans HG.out GA) KB HOB.out
        have HPB : VAt wB V 112 Y := hHeld.grown KB (HOK.out V HVL.out)
        have OC : QOwns wB w.heap.size vB ((st.take f) ++ [joinG x (st.drop f)]) := by
         unfold QOwns
         rw [HLN.out, flat3_append, flat3_one]
         exact OB
        have HFIN : Hid (QOwns wB w.heap.size vB ((st.take f) ++ [joinG x (st.drop f)]) ∧ (∀ p ∈ (st.take f) ++ [joinG x (st.drop f)], p.val ≤ 4294967295) ∧ walkG [] 0 t = walkG ((st.take f) ++ [joinG x (st.drop f)]) (k + 1) (t.drop (k + 1)) ∧ w.grownBy wB none) := ⟨OC, HV2.out, HWN.out, GB⟩
        refine hK.out _ _ HPB (fun hHeld => ?_)
        clear hK K OB OC KB BB GA GB CA HPB
        try simp only [Act.put, a0, a1, a2, a3, a4, a5]
        refine wpT (i := 9) (v := vB) rfl (Or.inl ⟨by rfl, fun W hW => ?_⟩) hHeld ?_
        ·clear hW
         go_simp
        try simp only [Act.put, a0, a1, a2, a3, a4, a5]
        refine wpAnyH_done (by kernel_rfl) ?_ _
        clear hHeld
        go_wp2
        go_roundw
        case rel => exact ⟨k + 1, _, by omega, by rw [HLN.out]; omega, by go_num, HFIN⟩
        case measure => simp [intOf]; omega
       ·have HF : Hid (walkG [] 0 t = .error (k, fe)) := by
         have := HST2.out (fun h => hfz (HFE.out.symm.trans h))
         rw [HFE.out] at this
         exact this
        have e1 : (fe != 0) = true := by rw [bne_iff_ne]; exact hfz
        have G9 := grown_trans HG.out HV9.out.2
        clear hfz
        go_wp2
        go_ret3
        refine ⟨.slice none 0 0, ?_, ?_, G9⟩
        ·rw [HF.out]; rfl
        ·rw [HF.out]; exact World.ownsRow_nil _ _ _ _
  ·obtain ⟨O, hv, hw, G⟩ := HI4.out
   have HF : Hid (walkG [] 0 t = .ok st) := by
    rw [List.drop_eq_nil_of_le (by omega)] at hw
    exact hw
   clear hv hw HI4
   go_wp2
   go_ret3
   refine ⟨u5, ?_, ?_, G⟩
   ·rw [HF.out]; rfl
   ·rw [HF.out]; exact O

end Go.Proofs.YtklipelnjgpnjaaGreatDoor
