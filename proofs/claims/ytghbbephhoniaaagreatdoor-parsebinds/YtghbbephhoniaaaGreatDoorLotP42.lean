import Derived.Test.YtghbbephhoniaaaGreatDoorLotP41
import Derived.Maps.AppendAt
import Derived.Test.YtghbbephhoniaaaGreatDoorLotP9
namespace Go.Proofs.YtghbbephhoniaaaGreatDoor
open Go.RowKit Go.Shelf
set_option maxRecDepth 100000

attribute [local go_sem] Oper.semAt_some
def goodG (pre : List (Nat × List UInt8)) : Prop := ∀ p ∈ pre, (groupV p.2).isSome = true ∧ p.1 < 8
def valsG (pre : List (Nat × List UInt8)) : List Nat := pre.map fun p => (groupV p.2).getD 0
theorem goodG_snoc (pre : List (Nat × List UInt8)) (x : Nat × List UInt8) : goodG (pre ++ [x]) ↔ goodG pre ∧ (groupV x.2).isSome = true ∧ x.1 < 8 := by
 unfold goodG
 constructor
 ·intro h
  exact ⟨fun p hp => h p (by simp [hp]), h x (by simp)⟩
 ·rintro ⟨h1, h2⟩ p hp
  rcases List.mem_append.1 hp with hp | hp
  ·exact h1 p hp
  ·simp only [List.mem_singleton] at hp
   subst hp
   exact h2
theorem goodG_all (s : List UInt8) (hs : s ≠ []) (h : goodG (numF 0 (splitV 58 s))) : groupsV s = some (valsG (numF 0 (splitV 58 s))) := by
 have h8 : (splitV 58 s).length ≤ 8 := by
  rcases Nat.lt_or_ge 8 (splitV 58 s).length with hl | hl
  ·have := (h _ (List.mem_of_getElem? (numF_at 0 (splitV 58 s) 8 hl))).2
   simp only at this
   omega
  ·exact hl
 have ha : ∀ x ∈ splitV 58 s, (groupV x).isSome = true := fun x hx => by
  rw [← numF_snd 0 (splitV 58 s)] at hx
  obtain ⟨p, hp, rfl⟩ := List.mem_map.1 hx
  exact (h p hp).1
 rw [groupsV, if_neg hs, if_neg (by omega), allV_all ha]
 have e : valsG (numF 0 (splitV 58 s)) = ((numF 0 (splitV 58 s)).map (·.2)).map fun x => (groupV x).getD 0 := by simp [valsG, Function.comp_def]
 rw [e, numF_snd]
theorem not_goodG (s : List UInt8) (hs : s ≠ []) {pre : List (Nat × List UInt8)} (hp : pre <+: numF 0 (splitV 58 s)) (h : ¬ goodG pre) : groupsV s = none := by
 rw [groupsV, if_neg hs]
 split
 ·rfl
 ·rename_i h8
  cases ha : allV groupV (splitV 58 s) with
  | none => rfl
  | some ns =>
   exfalso
   refine h fun p hm => ?_
   have hm2 := numF_mem (hp.subset hm)
   exact ⟨allV_isSome ha _ hm2.2, by omega⟩
theorem groups_world (w : World) (s m : ByteArray) : ∀ W0, (((((w.alloc (.cells #[.slice none 0 0] 170)).alloc (.cells #[.bool false] 4)).alloc (.cells #[.slice none 0 0] 170)).alloc (.cells #[.string s] 9)).alloc (.cells #[.string m] 9)) = W0 →
  Boxed W0 w.heap.size 170 (.slice none 0 0) ∧ Boxed W0 (w.heap.size + 1) 4 (.bool false) ∧ Boxed W0 (w.heap.size + 1 + 1) 170 (.slice none 0 0) ∧ Boxed W0 (w.heap.size + 1 + 1 + 1) 9 (.string s) ∧ Boxed W0 (w.heap.size + 1 + 1 + 1 + 1) 9 (.string m) ∧ w.grownBy W0 none ∧ W0.heap.size = w.heap.size + 5 := by
 rintro W0 rfl
 refine ⟨?_, ?_, ?_, ?_, ?_, ?_, ?_⟩
 ·exact hkeep (hkeep (hkeep (hkeep (hnew _ _ _ rfl) _) _) _) _
 ·exact hkeep (hkeep (hkeep (hnew _ _ _ (by simp only [World.size_alloc])) _) _) _
 ·exact hkeep (hkeep (hnew _ _ _ (by simp only [World.size_alloc])) _) _
 ·exact hkeep (hnew _ _ _ (by simp only [World.size_alloc])) _
 ·exact hnew _ _ _ (by simp only [World.size_alloc])
 ·exact grown_trans (grown_trans (grown_trans (grown_trans (World.grownBy_alloc _ _ _) (World.grownBy_alloc _ _ _)) (World.grownBy_alloc _ _ _)) (World.grownBy_alloc _ _ _)) (World.grownBy_alloc _ _ _)
 ·simp only [World.size_alloc]
def IG (w : World) (R K O M : Nat) (pre : List (Nat × List UInt8)) (W : World) : Prop :=
 ((∃ v, Boxed W O 170 v ∧ W.ownsRow w.heap.size 123 1 v (valsG pre).length ((valsG pre).map hv16) ∧ True) ∧ (goodG pre ∧ Boxed W R 170 (.slice none 0 0) ∧ Boxed W K 4 (.bool false) ∧ Boxed W M 9 (.string ⟨#[58]⟩))) ∧ Below w.heap.size w W
def XG (w : World) (R K : Nat) (c : Code) (pre : List (Nat × List UInt8)) (W : World) : Prop :=
 (c = .ret ∧ ¬ goodG pre ∧ Boxed W R 170 (.slice none 0 0) ∧ Boxed W K 4 (.bool false)) ∧ Below w.heap.size w W
theorem IG_own (w : World) (R K O M B : Nat) (hB : w.heap.size ≤ B) : OwnFrom B (IG w R K O M) :=
 OwnFrom.and (OwnFrom.and (Own.from (holdsRow_own w.heap.size O 170 123 1 (fun pre => (valsG pre).length) (fun pre => (valsG pre).map hv16) (fun _ _ => True)) _) (Own.from (fun _ _ _ _ hs hg hr => ⟨hs.1, box_keep hs.2.1 hg hr, box_keep hs.2.2.1 hg hr, box_keep hs.2.2.2 hg hr⟩) _)) (ownFrom_below (Nat.le_refl _) hB)
theorem XG_own (w : World) (R K B : Nat) (hB : w.heap.size ≤ B) (c : Code) : OwnFrom B (XG w R K c) :=
 OwnFrom.and (Own.from (fun _ _ _ _ hs hg hr => ⟨hs.1, hs.2.1, box_keep hs.2.2.1 hg hr, box_keep hs.2.2.2 hg hr⟩) _) (ownFrom_below (Nat.le_refl _) hB)
theorem ret_cells {P : Program} {fn : Func} {p q : Tmp} {ty te : TypeId} (h : fn.results = #[.cell p ty, .cell q te]) (tmps : Array Value) (w : World) (g e : Nat) (u v : Value) (hp : tmps.getD p undef = .pointer (some ⟨g, 0, none⟩)) (hq : tmps.getD q undef = .pointer (some ⟨e, 0, none⟩)) (A : Boxed w g ty u) (B : Boxed w e te v)
  (hu : (isAgg ty).run P w = .ok false w) (hv : (isAgg te).run P w = .ok false w) : (results fn tmps).run P w = .ok (.tuple #[u, v]) w := by
 have hp' : tmps[p]?.getD undef = .pointer (some ⟨g, 0, none⟩) := by simpa using hp
 have hq' : tmps[q]?.getD undef = .pointer (some ⟨e, 0, none⟩) := by simpa using hq
 have h1 : (loadVar ty ⟨g, 0, none⟩).run P w = .ok u w := by
  have hc := A.cell
  simp [loadVar, Sem.run_bind, hu, go_sem, hc]
 have h2 : (loadVar te ⟨e, 0, none⟩).run P w = .ok v w := by
  have hc := B.cell
  simp [loadVar, Sem.run_bind, hv, go_sem, hc]
 simp [results, h, hp', hq', asAddr, h1, h2, Sem.run_bind]
theorem info123 : (Tryz.prog.info? 123).map (fun i => (i.zero, i.size, i.bytes)) = some (some (.int .u16 0), 1, 2) := by kernel_rfl
set_option maxRecDepth 100000 in
set_option maxHeartbeats 4000000 in
theorem groups_any (s : ByteArray) (w : World) (hs : s.size ≤ 1048576) (T : TabA w) :
  Calls Tryz.prog 130 #[.string s] w fun e w' => ∃ v, e = .returned (.tuple #[v, .bool (groupsV (sl s)).isSome]) ∧ UOwns w' w.heap.size v ((groupsV (sl s)).getD []) ∧ w.grownBy w' none := by
 obtain ⟨i0, hi, hz0, hz1, hz2⟩ := info_parts info123
 have HT : Hid (TabA w) := T
 have h3 := T.size
 clear T
 have HS := sl_len s
 by_cases h0 : s.size = 0
 ·have hn : sl s = [] := List.eq_nil_of_length_eq_zero (by omega)
  have e : groupsV (sl s) = some [] := by rw [groupsV, if_pos hn]
  rw [e]
  obtain rfl : s = ⟨#[]⟩ := by
   have := congrArg List.toArray hn
   unfold sl at this
   apply ByteArray.ext
   simpa using this
  clear hn e HS h0
  go_enter Tryz.func130, Tryz.ntmps130
  go_wp2
  refine bodyPost_ret (ret_cells rfl _ _ w.heap.size (w.heap.size + 1) (.slice none 0 0) (.bool true) rfl rfl (hkeep (hnew _ _ _ rfl) _) (hnew _ _ _ (by simp only [World.size_alloc])) (run_isAgg_plain Tryz.underlying170 rfl _) (run_isAgg_plain Tryz.underlying4 rfl _)) rfl ?_
  exact ⟨_, rfl, World.ownsRow_nil _ _ _ _, grown_trans (World.grownBy_alloc _ _ _) (World.grownBy_alloc _ _ _)⟩
 ·have hsb : (s.toList == []) = false := by
   rw [ByteArray.toList_eq]
   exact beq_eq_false_iff_ne.2 (fun e => by unfold sl at HS; rw [e] at HS; simp at HS; omega)
  have HNE : Hid (sl s ≠ []) := fun e => by rw [e] at HS; simp at HS; omega
  refine (callsIn_wide (n := 3)).1 ?_
  refine callsIn_of_wp_marks Tryz.func130 rfl trivial ?_ rfl
  simp only [Tryz.ntmps130, List.size_toArray, List.length_cons, List.length_nil, Nat.reduceAdd, Nat.reduceSub, Array.replicate_succ, Array.replicate_zero, List.push_toArray, List.append_toArray, List.nil_append, List.cons_append]
  gi_wp2_with (refine ⟨trivial, ?_⟩; gi_at_call 127; refine (callsIn_wide.2 (parts_any _ _ _)).mono ?_; rintro e w' ⟨rfl, rfl⟩)
  clear hsb h0
  obtain ⟨W0, hW0⟩ : ∃ W0, (((((w.alloc (.cells #[.slice none 0 0] 170)).alloc (.cells #[.bool false] 4)).alloc (.cells #[.slice none 0 0] 170)).alloc (.cells #[.string s] 9)).alloc (.cells #[.string ⟨#[58]⟩] 9)) = W0 := ⟨_, rfl⟩
  obtain ⟨fR, fK, fO, fS, fM, G0, hsz⟩ := groups_world w s ⟨#[58]⟩ W0 hW0
  rw [hW0]
  clear hW0
  obtain ⟨M, hM⟩ : ∃ k, w.heap.size + 1 + 1 + 1 + 1 = k := ⟨_, rfl⟩
  rw [hM] at fM ⊢
  obtain ⟨Bs, hBs⟩ : ∃ k, w.heap.size + 1 + 1 + 1 = k := ⟨_, rfl⟩
  rw [hBs] at fS ⊢
  obtain ⟨O, hO⟩ : ∃ k, w.heap.size + 1 + 1 = k := ⟨_, rfl⟩
  rw [hO] at fO ⊢
  obtain ⟨K, hK⟩ : ∃ k, w.heap.size + 1 = k := ⟨_, rfl⟩
  rw [hK] at fK ⊢
  obtain ⟨R, hR⟩ : ∃ k, w.heap.size = k := ⟨_, rfl⟩
  rw [show (Value.pointer (some ⟨w.heap.size, 0, none⟩)) = .pointer (some ⟨R, 0, none⟩) by rw [hR]]
  rw [hR] at fR
  have ne : Hid (M ≠ O ∧ M ≠ R ∧ M ≠ K ∧ O ≠ R ∧ O ≠ K ∧ R ≠ K ∧ w.heap.size ≤ O ∧ w.heap.size ≤ R ∧ w.heap.size ≤ K) := by
   refine ⟨?_, ?_, ?_, ?_, ?_, ?_, ?_, ?_, ?_⟩ <;> omega
  clear hM hBs hO hK hR
  have hle : w.heap.size ≤ W0.heap.size := G0.size
  refine wpIn_rangeFunc_ownF rfl (by omega) (gf := 132) (lb := #[.pointer (some ⟨Bs, 0, none⟩), .pointer (some ⟨M, 0, none⟩)]) rfl trivial (enters_of Tryz.func132 (by kernel_rfl) rfl)
   (parts_stops _ (by omega) Bs M w.heap.size (fun k => k = M) 58 (sl s) (by omega) (.inl rfl) h3 W0 (HT.out.grown G0) (by rw [← str_sl]; exact fS.cell) fM.cell)
   (fun h k => h.trans k) (Kp.book hle) (Below.refl _ _) (fun _ => rfl)
   (IG w R K O M) (XG w R K) (IG_own w R K O M _ hle) (fun c => XG_own w R K _ hle c)
   ⟨⟨⟨_, fO, World.ownsRow_nil _ _ _ _, trivial⟩, (fun p hp => absurd hp (by simp)), fR, fK, fM⟩, below_of G0⟩
   (fun x => { tmps := #[.string s, undef, .pointer (some ⟨R, 0, none⟩), .pointer (some ⟨K, 0, none⟩), .pointer (some ⟨O, 0, none⟩), .int .i64 (x.1 : Int), str x.2, undef, undef, .string s, .bool false, .string s, .func (.func 132) #[] #[.pointer (some ⟨Bs, 0, none⟩), .pointer (some ⟨M, 0, none⟩)], .int .i64 (x.1 : Int), str x.2, undef, undef, undef, undef, undef, undef, undef, undef, undef, undef, undef, undef, undef, undef, undef, undef], defers := [] }) ?assign ?body ?done ?stop
  case assign =>
   intro l x W K hK
   gi_wp2
   exact hK
  case body =>
   rintro l pre ⟨i, t⟩ W ⟨⟨⟨v, hO, hrow, -⟩, hg, hRr, hKk, hMm⟩, hB⟩ hlen
   have hG := group_any ⟨t.toArray⟩ W
   rw [show groupV (sl ⟨t.toArray⟩) = groupV t from rfl] at hG
   obtain ⟨n1, n2, n3, n4, n5, n6, l1, l2, l3⟩ := ne.out
   have n6' : K ≠ R := Ne.symm n6
   have hpl : (valsG pre).length ≤ 1048577 := by
    have := splitG_many 58 [] (sl s)
    unfold splitV at hlen
    unfold valsG
    rw [List.length_map]
    omega
   have hB' := hB.size
   by_cases hbad : groupV t = none ∨ 8 ≤ i
   ·have HB : Hid (¬ goodG (pre ++ [(i, t)])) := fun h => by
     have h2 := ((goodG_snoc _ _).1 h).2
     rcases hbad with hb | hb
     ·rw [show groupV (i, t).2 = none from hb] at h2
      exact absurd h2.1 (by simp)
     ·have := h2.2
      simp only at this
      omega
    have fin : ∀ w1 : World, W.grownBy w1 none → ownPostK (Kp w.heap.size fun k => k = M) (IG w R K O M) (XG w R K) (pre ++ [(i, t)]) W .ret { tmps := #[], defers := [] } ((w1.setCell ⟨R, 0, none⟩ (.slice none 0 0)).setCell ⟨K, 0, none⟩ (.bool false)) := fun w1 G1 => by
     have bR1 := box_keep hRr G1 (fun r e => by cases e)
     have bK1 := box_keep hKk G1 (fun r e => by cases e)
     have hkk : KeepsOthers W w1 := KeepsOthers.of_grownBy G1 (fun _ _ e => by cases e)
     have hB1 : Below w.heap.size W w1 := (Below.refl _ _).grown G1 (by omega) (by simp)
     exact ⟨(hkk.trans (KeepsOthers.setCell _ _ _)).trans (KeepsOthers.setCell _ _ _), ⟨rfl, HB.out, box_away _ (bR1.set _) n6, Boxed.set _ (box_away _ bK1 n6')⟩, ((hB.trans hB1).setCell (p := ⟨R, 0, none⟩) l2 _).setCell (p := ⟨K, 0, none⟩) l3 _⟩
    have HF : Hid (∀ w1 : World, W.grownBy w1 none → ownPostK (Kp w.heap.size fun k => k = M) (IG w R K O M) (XG w R K) (pre ++ [(i, t)]) W .ret { tmps := #[], defers := [] } ((w1.setCell ⟨R, 0, none⟩ (.slice none 0 0)).setCell ⟨K, 0, none⟩ (.bool false))) := fin
    clear fin
    cases hn : groupV t with
    | none =>
     rw [hn] at hG
     have hG' : Calls Tryz.prog 134 #[str t] W fun e w' => e = .returned (.tuple #[.int .u16 0, .bool false]) ∧ W.grownBy w' none := hG
     clear hG
     gi_wp2_with (refine ⟨trivial, ?_⟩; gi_at_call 134; refine (CallsIn.inRound l (callsIn_wide.2 hG')).mono ?_; rintro e w1 ⟨rfl, G1⟩; have hR1 := box_keep hRr G1 (fun r e => by cases e); have hc1 := hR1.cell; have hf1 := hR1.frozen; have hK1 := box_keep hKk G1 (fun r e => by cases e); have hc2 := hK1.cell; have hf2 := hK1.frozen)
     exact HF.out w1 G1
    | some u =>
     rw [hn] at hG
     have hi8 : (8 : Int) ≤ (i : Int) := by
      rcases hbad with hb | hb
      ·rw [hn] at hb; cases hb
      ·omega
     have hG' : Calls Tryz.prog 134 #[str t] W fun e w' => e = .returned (.tuple #[.int .u16 (u : Int), .bool true]) ∧ W.grownBy w' none := hG
     clear hG hbad
     gi_wp2_with (refine ⟨trivial, ?_⟩; gi_at_call 134; refine (CallsIn.inRound l (callsIn_wide.2 hG')).mono ?_; rintro e w1 ⟨rfl, G1⟩; have hR1 := box_keep hRr G1 (fun r e => by cases e); have hc1 := hR1.cell; have hf1 := hR1.frozen; have hK1 := box_keep hKk G1 (fun r e => by cases e); have hc2 := hK1.cell; have hf2 := hK1.frozen)
     exact HF.out w1 G1
   ·obtain ⟨u, hu⟩ : ∃ u, groupV t = some u := by
     cases h : groupV t with
     | none => exact absurd (.inl h) hbad
     | some u => exact ⟨u, rfl⟩
    have hi8 : ¬ (8 : Int) ≤ (i : Int) := fun h => hbad (.inr (by omega))
    rw [hu] at hG
    have hG' : Calls Tryz.prog 134 #[str t] W fun e w' => e = .returned (.tuple #[.int .u16 (u : Int), .bool true]) ∧ W.grownBy w' none := hG
    have HV : Hid (valsG (pre ++ [(i, t)]) = valsG pre ++ [u]) := by
     show _ = _
     simp [valsG, hu]
    have HGd : Hid (goodG (pre ++ [(i, t)])) := (goodG_snoc _ _).2 ⟨hg, by rw [show groupV (i, t).2 = some u from hu]; rfl, by have h : ¬ 8 ≤ i := fun h => hbad (.inr h); simp only; omega⟩
    obtain ⟨ao, cap, rfl, -⟩ := cv_of_row hrow
    clear hG hbad hg
    generalize valsG pre = us at *
    gi_wp2_with (first
     | (refine ⟨trivial, ?_⟩; gi_at_call 134; refine (CallsIn.inRound l (callsIn_wide.2 hG')).mono ?_; rintro e w1 ⟨rfl, G1⟩; have hO1 := box_keep hO G1 (fun r e => by cases e); have hc1 := hO1.cell; have hrow1 := owns_keptNone hrow G1; have hl1 := G1.size)
     | (gi_at_builtin; refine wpListIn_append_own _ rfl _ _ 170 rfl w.heap.size 123 i0 (.int .u16 0) 1 2 Tryz.underlying170 hi hz0 hz1 hz2 rfl (by decide) _ _ _ rfl (hrow1.alloc _) ⟨w1.heap.size, 0, none⟩ 1 1 [hv16 u] rfl rfl (cell_one_new _ _ _) (by simp [Value.oneCell', hv16]) (by unfold maxLen; omega) (by omega) (by simp; omega) ?_; intro v' w2 hown' hgrow _; obtain ⟨g', cap', rfl⟩ := ownsRow_succ hown'; obtain ⟨hv1, hv2, hr2, hk2, hb2⟩ := hO1.appended (by decide) hrow1 (by omega) l1 hown' hgrow; have hc2 := hv1.cell; have hf2 := hv1.frozen))
    have bM1 := box_keep hMm G1 (fun r e => by cases e)
    have bR1 := box_keep hRr G1 (fun r e => by cases e)
    have bK1 := box_keep hKk G1 (fun r e => by cases e)
    have far : ∀ {B : Nat} {t : TypeId} {x : Value}, Boxed w1 B t x → t ≠ 123 → B ≠ O → Boxed (w2.setCell ⟨O, 0, none⟩ (.slice (some ⟨g', 0, none⟩) (us.length + 1) cap')) B t x := fun {B t x} h ht hb => box_away _ (((h.alloc _).kept hgrow (h.not_row ht hrow1))) hb
    have bM2 := far bM1 (by decide) n1
    have bR2 := far bR1 (by decide) (Ne.symm n4)
    have bK2 := far bK1 (by decide) (Ne.symm n5)
    have hkk : KeepsOthers W w1 := KeepsOthers.of_grownBy G1 (fun _ _ e => by cases e)
    have hB1 : Below w.heap.size W w1 := (Below.refl _ _).grown G1 (by omega) (by simp)
    refine ⟨hkk.trans hk2, ⟨hB1.trans hb2, ?_⟩, ⟨⟨_, hv2, ?_, trivial⟩, HGd.out, bR2, bK2, bM2⟩, hB.trans (hB1.trans hb2)⟩
    ·rintro k o rfl ho -
     unfold Boxed at hMm bM2
     rw [hMm] at ho
     rw [bM2]
     exact ho
    ·rw [HV.out, List.length_append, List.map_append]
     exact hr2
  case done =>
   rintro D xs W hD rfl ⟨⟨⟨v, hO, hrow, -⟩, hg, hRr, hKk, -⟩, hB⟩ hK
   have HN : Hid (groupsV (sl s) = some (valsG (numF 0 (splitV 58 (sl s))))) := goodG_all (sl s) HNE.out hg
   obtain ⟨n1, n2, n3, n4, n5, n6, l1, l2, l3⟩ := ne.out
   have n6' : K ≠ R := Ne.symm n6
   obtain ⟨ao, cap, rfl, -⟩ := cv_of_row hrow
   have hcO := hO.cell
   have hcR := hRr.cell
   have hfR := hRr.frozen
   have hcK := hKk.cell
   have hfK := hKk.frozen
   clear hg fR fK fO fS fM
   generalize valsG (numF 0 (splitV 58 (sl s))) = us at *
   gi_wp2
   obtain ⟨X, hX⟩ : ∃ X, ((W.setCell ⟨R, 0, none⟩ (.slice ao us.length cap)).setCell ⟨K, 0, none⟩ (.bool true)) = X := ⟨_, rfl⟩
   rw [hX]
   have k1 : KeepsOthers W X := by rw [← hX]; exact (KeepsOthers.setCell _ _ _).trans (KeepsOthers.setCell _ _ _)
   have k2 : Boxed X R 170 (.slice ao us.length cap) := by rw [← hX]; exact box_away _ (hRr.set _) n6
   have k3 : Boxed X K 4 (.bool true) := by rw [← hX]; exact Boxed.set _ (box_away _ hKk n6')
   have k4 : Below w.heap.size w X := by rw [← hX]; exact (hB.setCell (p := ⟨R, 0, none⟩) l2 _).setCell (p := ⟨K, 0, none⟩) l3 _
   have k5 : X.ownsRow w.heap.size 123 1 (.slice ao us.length cap) us.length (us.map hv16) := by
    rw [← hX]
    have r1 := hrow.kept (grownBy_setCell' W R (.slice ao us.length cap)) (.inr (hRr.not_row (by decide) hrow).symm)
    have bK : Boxed (W.setCell ⟨R, 0, none⟩ (.slice ao us.length cap)) K 4 (.bool false) := box_away _ hKk n6'
    exact r1.kept (grownBy_setCell' _ K (.bool true)) (.inr (bK.not_row (by decide) r1).symm)
   clear hX
   have hK' := k1.same D _ hK rfl
   refine ⟨by simp, .inl ⟨_, _, rfl, run_takeDeferred hK', ?_⟩⟩
   have hr : ∀ r, some D = some r → ∃ o : Obj, X.heap[r]? = some o ∧ o.isCells = false := fun r e => by cases e; exact ⟨_, hK', rfl⟩
   refine ⟨_, ret_cells rfl _ _ R K (.slice ao us.length cap) (.bool true) rfl rfl (box_keep k2 (grownBy_putObj' _ D (.deferred none)) hr) (box_keep k3 (grownBy_putObj' _ D (.deferred none)) hr) (run_isAgg_plain Tryz.underlying170 rfl _) (run_isAgg_plain Tryz.underlying4 rfl _), ?_⟩
   refine ⟨.slice ao us.length cap, ?_, ?_, ?_⟩
   ·rw [HN.out]; rfl
   ·rw [HN.out]; exact ownsRow_putObj k5 _ hK' rfl
   ·exact grown_of (k4.trans (belowK_b (w := w) (Nat.le_refl _) _ D _ _ (by omega) hK' rfl rfl))
  case stop =>
   rintro D c pre W hD hpre ⟨⟨rfl, hbad, hRr, hKk⟩, hB⟩ hK
   have HN : Hid (groupsV (sl s) = none) := not_goodG (sl s) HNE.out hpre hbad
   gi_wp2
   refine ⟨by simp, .inl ⟨_, _, rfl, run_takeDeferred hK, ?_⟩⟩
   have hr : ∀ r, some D = some r → ∃ o : Obj, W.heap[r]? = some o ∧ o.isCells = false := fun r e => by cases e; exact ⟨_, hK, rfl⟩
   refine ⟨_, ret_cells rfl _ _ R K (.slice none 0 0) (.bool false) rfl rfl (box_keep hRr (grownBy_putObj' _ D (.deferred none)) hr) (box_keep hKk (grownBy_putObj' _ D (.deferred none)) hr) (run_isAgg_plain Tryz.underlying170 rfl _) (run_isAgg_plain Tryz.underlying4 rfl _), ?_⟩
   refine ⟨.slice none 0 0, ?_, ?_, ?_⟩
   ·rw [HN.out]; rfl
   ·rw [HN.out]; exact World.ownsRow_nil _ _ _ _
   ·exact grown_of (hB.trans (belowK_b (w := w) (Nat.le_refl _) W D _ _ (by omega) hK rfl rfl))
def fitB (gp : Option Nat) (nx ny : Nat) : Bool := match gp with
 | none => nx == 8
 | some _ => decide (nx + ny ≤ 7)
def halves (s H T : List UInt8) (gp : Option Nat) : Prop := match gp with
 | none => H = s ∧ T = []
 | some k => H = s.take k ∧ T = s.drop (k + 2)
theorem parse6_halves (s H T : List UInt8) (h : halves s H T (gapV s)) :
  parse6V s = (groupsV H).bind fun x => (groupsV T).bind fun y => if fitB (gapV s) x.length y.length = true then some (bytesG (x ++ List.replicate (8 - x.length - y.length) 0 ++ y)) else none := by
 unfold parse6V
 cases hg : gapV s with
 | none =>
  rw [hg] at h
  obtain ⟨rfl, rfl⟩ := h
  simp only
  have e : groupsV [] = some [] := rfl
  cases groupsV H with
  | none => rfl
  | some x =>
   rw [e]
   simp only [Option.bind_some, fitB, List.length_nil, List.append_nil, Nat.sub_zero, beq_iff_eq]
   by_cases h8 : x.length = 8
   ·rw [if_pos h8, if_pos h8, h8]; simp
   ·rw [if_neg h8, if_neg h8]
 | some k =>
  rw [hg] at h
  obtain ⟨rfl, rfl⟩ := h
  simp only [fitB, decide_eq_true_eq]
theorem allV_mem {α β : Type} {f : α → Option β} {xs : List α} {vs : List β} (h : allV f xs = some vs) : ∀ v ∈ vs, ∃ x ∈ xs, f x = some v := by
 induction xs generalizing vs with
 | nil => simp [allV] at h; subst h; intro v hv; cases hv
 | cons x r ih =>
  simp only [allV] at h
  cases hx : f x with
  | none => rw [hx] at h; cases h
  | some u =>
   rw [hx] at h
   cases hr : allV f r with
   | none => rw [hr] at h; cases h
   | some us =>
    rw [hr] at h
    simp only [Option.bind_some, Option.map_some, Option.some.injEq] at h
    subst h
    intro v hv
    rcases List.mem_cons.1 hv with rfl | hv
    ·exact ⟨x, by simp, hx⟩
    ·obtain ⟨y, hy, e⟩ := ih hr v hv
     exact ⟨y, by simp [hy], e⟩
theorem groups_lt {s : List UInt8} {gs : List Nat} (h : groupsV s = some gs) : ∀ g ∈ gs, g < 65536 := by
 unfold groupsV at h
 split at h
 ·simp at h; subst h; intro g hg; cases hg
 ·split at h
  ·cases h
  ·intro g hg
   obtain ⟨x, -, e⟩ := allV_mem h g hg
   exact group_lt e
theorem groups_len {s : List UInt8} {gs : List Nat} (h : groupsV s = some gs) : gs.length ≤ 8 := by
 unfold groupsV at h
 split at h
 ·simp at h; subst h; simp
 ·split at h
  ·cases h
  ·rw [allV_len h]; omega
theorem bytes_len (gs : List Nat) : (bytesG gs).length = 2 * gs.length := by
 induction gs with
 | nil => rfl
 | cons g r ih => simp only [bytesG, List.flatMap_cons, List.length_append, List.length_cons, List.length_nil] at *; omega
end Go.Proofs.YtghbbephhoniaaaGreatDoor
