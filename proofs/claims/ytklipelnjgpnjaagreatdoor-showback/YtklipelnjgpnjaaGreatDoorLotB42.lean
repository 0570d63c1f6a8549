import Derived.Test.YtklipelnjgpnjaaGreatDoorLotB4
import Derived.Test.YtklipelnjgpnjaaGreatDoorLotB41
import Derived.Maps.AppendAt
import Derived.Test.YtklipelnjgpnjaaGreatDoorLotB15
import Derived.Deep.RegionHeld3
import Derived.Laws.CopyOwn
import Derived.Test.YtklipelnjgpnjaaGreatDoorLotB7
set_option maxHeartbeats 64000000
set_option maxRecDepth 100000
namespace Go.Proofs.YtklipelnjgpnjaaGreatDoor
open Go.RowKit Go.Shelf

attribute [local go_sem] Oper.semAt_some
def a1K (pre : List (Nat × List UInt8)) : Prop := ∀ p ∈ pre, (I1 p.2).isSome = true ∧ p.1 < 8
def a0y (pre : List (Nat × List UInt8)) : List Nat := pre.map fun p => (I1 p.2).getD 0
theorem a8N (pre : List (Nat × List UInt8)) (x : Nat × List UInt8) : a1K (pre ++ [x]) ↔ a1K pre ∧ (I1 x.2).isSome = true ∧ x.1 < 8 := by
 unfold a1K
 constructor
 ·intro h
  exact ⟨fun p hp => h p (by simp [hp]), h x (by simp)⟩
 ·rintro ⟨h1, h2⟩ p hp
  rcases List.mem_append.1 hp with hp | hp
  ·exact h1 p hp
  ·simp only [List.mem_singleton] at hp
   subst hp
   exact h2
theorem av2 (s : List UInt8) (hs : s ≠ []) (h : a1K (o5 0 (j5 58 s))) : r9 s = some (a0y (o5 0 (j5 58 s))) := by
 have h8 : (j5 58 s).length ≤ 8 := by
  rcases Nat.lt_or_ge 8 (j5 58 s).length with hl | hl
  ·have := (h _ (List.mem_of_getElem? (a6L 0 (j5 58 s) 8 hl))).2
   simp only at this
   omega
  ·exact hl
 have ha : ∀ x ∈ j5 58 s, (I1 x).isSome = true := fun x hx => by
  rw [← a55 0 (j5 58 s)] at hx
  obtain ⟨p, hp, rfl⟩ := List.mem_map.1 hx
  exact (h p hp).1
 rw [r9, if_neg hs, if_neg (by omega), a7M ha]
 have e : a0y (o5 0 (j5 58 s)) = ((o5 0 (j5 58 s)).map (·.2)).map fun x => (I1 x).getD 0 := by simp [a0y, Function.comp_def]
 rw [e, a55]
theorem aI7 (s : List UInt8) (hs : s ≠ []) {pre : List (Nat × List UInt8)} (hp : pre <+: o5 0 (j5 58 s)) (h : ¬ a1K pre) : r9 s = none := by
 rw [r9, if_neg hs]
 split
 ·rfl
 ·rename_i h8
  cases ha : S9 I1 (j5 58 s) with
  | none => rfl
  | some ns =>
   exfalso
   refine h fun p hm => ?_
   have hm2 := a6M (hp.subset hm)
   exact ⟨a7N ha _ hm2.2, by omega⟩
theorem av9 (w : World) (s m : ByteArray) : ∀ W0, (((((w.alloc (.cells #[.slice none 0 0] 238)).alloc (.cells #[.bool false] 4)).alloc (.cells #[.slice none 0 0] 238)).alloc (.cells #[.string s] 9)).alloc (.cells #[.string m] 9)) = W0 →
  Boxed W0 w.heap.size 238 (.slice none 0 0) ∧ Boxed W0 (w.heap.size + 1) 4 (.bool false) ∧ Boxed W0 (w.heap.size + 1 + 1) 238 (.slice none 0 0) ∧ Boxed W0 (w.heap.size + 1 + 1 + 1) 9 (.string s) ∧ Boxed W0 (w.heap.size + 1 + 1 + 1 + 1) 9 (.string m) ∧ w.grownBy W0 none ∧ W0.heap.size = w.heap.size + 5 := by
 rintro W0 rfl
 refine ⟨?_, ?_, ?_, ?_, ?_, ?_, ?_⟩
 ·exact H9 (H9 (H9 (H9 (U6 _ _ _ rfl) _) _) _) _
 ·exact H9 (H9 (H9 (U6 _ _ _ (by simp only [World.size_alloc])) _) _) _
 ·exact H9 (H9 (U6 _ _ _ (by simp only [World.size_alloc])) _) _
 ·exact H9 (U6 _ _ _ (by simp only [World.size_alloc])) _
 ·exact U6 _ _ _ (by simp only [World.size_alloc])
 ·exact d3 (d3 (d3 (d3 (World.grownBy_alloc _ _ _) (World.grownBy_alloc _ _ _)) (World.grownBy_alloc _ _ _)) (World.grownBy_alloc _ _ _)) (World.grownBy_alloc _ _ _)
 ·simp only [World.size_alloc]
def IG (w : World) (R K O M : Nat) (pre : List (Nat × List UInt8)) (W : World) : Prop :=
 ((∃ v, Boxed W O 238 v ∧ W.ownsRow w.heap.size 176 1 v (a0y pre).length ((a0y pre).map a02) ∧ True) ∧ (a1K pre ∧ Boxed W R 238 (.slice none 0 0) ∧ Boxed W K 4 (.bool false) ∧ Boxed W M 9 (.string ⟨#[58]⟩))) ∧ Below w.heap.size w W
def XG (w : World) (R K : Nat) (c : Code) (pre : List (Nat × List UInt8)) (W : World) : Prop :=
 (c = .ret ∧ ¬ a1K pre ∧ Boxed W R 238 (.slice none 0 0) ∧ Boxed W K 4 (.bool false)) ∧ Below w.heap.size w W
theorem ah2 (w : World) (R K O M B : Nat) (hB : w.heap.size ≤ B) : OwnFrom B (IG w R K O M) :=
 OwnFrom.and (OwnFrom.and (Own.from (holdsRow_own w.heap.size O 238 176 1 (fun pre => (a0y pre).length) (fun pre => (a0y pre).map a02) (fun _ _ => True)) _) (Own.from (fun _ _ _ _ hs hg hr => ⟨hs.1, N7 hs.2.1 hg hr, N7 hs.2.2.1 hg hr, N7 hs.2.2.2 hg hr⟩) _)) (ownFrom_below (Nat.le_refl _) hB)
theorem ai0 (w : World) (R K B : Nat) (hB : w.heap.size ≤ B) (c : Code) : OwnFrom B (XG w R K c) :=
 OwnFrom.and (Own.from (fun _ _ _ _ hs hg hr => ⟨hs.1, hs.2.1, N7 hs.2.2.1 hg hr, N7 hs.2.2.2 hg hr⟩) _) (ownFrom_below (Nat.le_refl _) hB)
theorem a6X {P : Program} {fn : Func} {p q : Tmp} {ty te : TypeId} (h : fn.results = #[.cell p ty, .cell q te]) (tmps : Array Value) (w : World) (g e : Nat) (u v : Value) (hp : tmps.getD p undef = .pointer (some ⟨g, 0, none⟩)) (hq : tmps.getD q undef = .pointer (some ⟨e, 0, none⟩)) (A : Boxed w g ty u) (B : Boxed w e te v)
  (hu : (isAgg ty).run P w = .ok false w) (hv : (isAgg te).run P w = .ok false w) : (results fn tmps).run P w = .ok (.tuple #[u, v]) w := by
 have hp' : tmps[p]?.getD undef = .pointer (some ⟨g, 0, none⟩) := by simpa using hp
 have hq' : tmps[q]?.getD undef = .pointer (some ⟨e, 0, none⟩) := by simpa using hq
 have h1 : (loadVar ty ⟨g, 0, none⟩).run P w = .ok u w := by
  have hc := A.cell
  simp [loadVar, Sem.run_bind, hu, go_sem, hc]
 have h2 : (loadVar te ⟨e, 0, none⟩).run P w = .ok v w := by
  have hc := B.cell
  simp [loadVar, Sem.run_bind, hv, go_sem, hc]
 simp [results, h, hp', hq', asAddr, h1, h2, Sem.run_bind]
theorem ax7 : (Tryz.prog.info? 176).map (fun i => (i.zero, i.size, i.bytes)) = some (some (.int .u16 0), 1, 2) := by kernel_rfl
theorem a8P (s : ByteArray) (w : World) (hs : s.size ≤ 1048576) (T : j7 w) :
  Calls Tryz.prog 241 #[.string s] w fun e w' => ∃ v, e = .returned (.tuple #[v, .bool (r9 (sl s)).isSome]) ∧ a5Q w' w.heap.size v ((r9 (sl s)).getD []) ∧ w.grownBy w' none := by
 obtain ⟨i0, hi, hz0, hz1, hz2⟩ := info_parts ax7
 have HT : Hid (j7 w) := T
 have h3 := T.size
 clear T
 have HS := q7 s
 by_cases h0 : s.size = 0
 ·have hn : sl s = [] := List.eq_nil_of_length_eq_zero (by omega)
  have e : r9 (sl s) = some [] := by rw [r9, if_pos hn]
  rw [e]
  obtain rfl : s = ⟨#[]⟩ := by
   have := congrArg List.toArray hn
   unfold sl at this
   apply ByteArray.ext
   simpa using this
  clear hn e HS h0
  go_enter Tryz.func241, Tryz.ntmps241
  go_wp2
  refine bodyPost_ret (a6X rfl _ _ w.heap.size (w.heap.size + 1) (.slice none 0 0) (.bool true) rfl rfl (H9 (U6 _ _ _ rfl) _) (U6 _ _ _ (by simp only [World.size_alloc])) (run_isAgg_plain Tryz.underlying238 rfl _) (run_isAgg_plain Tryz.underlying4 rfl _)) rfl ?_
  exact ⟨_, rfl, World.ownsRow_nil _ _ _ _, d3 (World.grownBy_alloc _ _ _) (World.grownBy_alloc _ _ _)⟩
 ·have hsb : (s.toList == []) = false := by
   rw [ByteArray.toList_eq]
   exact beq_eq_false_iff_ne.2 (fun e => by unfold sl at HS; rw [e] at HS; simp at HS; omega)
  have HNE : Hid (sl s ≠ []) := fun e => by rw [e] at HS; simp at HS; omega
  refine (callsIn_wide (n := 3)).1 ?_
  refine callsIn_of_wp_marks Tryz.func241 rfl trivial ?_ rfl
  simp only [Tryz.ntmps241, List.size_toArray, List.length_cons, List.length_nil, Nat.reduceAdd, Nat.reduceSub, Array.replicate_succ, Array.replicate_zero, List.push_toArray, List.append_toArray, List.nil_append, List.cons_append]
  gi_wp2_with (refine ⟨trivial, ?_⟩; gi_at_call 238; refine (callsIn_wide.2 (a7Q _ _ _)).mono ?_; rintro e w' ⟨rfl, rfl⟩)
  clear hsb h0
  obtain ⟨W0, hW0⟩ : ∃ W0, (((((w.alloc (.cells #[.slice none 0 0] 238)).alloc (.cells #[.bool false] 4)).alloc (.cells #[.slice none 0 0] 238)).alloc (.cells #[.string s] 9)).alloc (.cells #[.string ⟨#[58]⟩] 9)) = W0 := ⟨_, rfl⟩
  obtain ⟨fR, fK, fO, fS, fM, G0, hsz⟩ := av9 w s ⟨#[58]⟩ W0 hW0
  rw [hW0]
  clear hW0
  obtain ⟨M, hM⟩ : ∃ k, w.heap.size + 1 + 1 + 1 + 1 = k := ⟨_, rfl⟩
  rw [hM] at fM ⊢
  obtain ⟨Bs, hBs⟩ : ∃ k, w.heap.size + 1 + 1 + 1 = k := ⟨_, rfl⟩
  rw [hBs] at fS ⊢
  obtain ⟨O, hO⟩ : ∃ k, w.heap.size + 1 + 1 = k := ⟨_, rfl⟩
  rw [hO] at fO ⊢
  obtain ⟨K, hK⟩ : ∃ k, w.heap.size + 1 = k := ⟨_, rfl⟩
  rw [hK] at fK ⊢
  obtain ⟨R, hR⟩ : ∃ k, w.heap.size = k := ⟨_, rfl⟩
  rw [show (Value.pointer (some ⟨w.heap.size, 0, none⟩)) = .pointer (some ⟨R, 0, none⟩) by rw [hR]]
  rw [hR] at fR
  have ne : Hid (M ≠ O ∧ M ≠ R ∧ M ≠ K ∧ O ≠ R ∧ O ≠ K ∧ R ≠ K ∧ w.heap.size ≤ O ∧ w.heap.size ≤ R ∧ w.heap.size ≤ K) := by
   refine ⟨?_, ?_, ?_, ?_, ?_, ?_, ?_, ?_, ?_⟩ <;> omega
  clear hM hBs hO hK hR
  have hle : w.heap.size ≤ W0.heap.size := G0.size
  refine wpIn_rangeFunc_ownF rfl (by omega) (gf := 243) (lb := #[.pointer (some ⟨Bs, 0, none⟩), .pointer (some ⟨M, 0, none⟩)]) rfl trivial (enters_of Tryz.func243 (by kernel_rfl) rfl)
   (a9S _ (by omega) Bs M w.heap.size (fun k => k = M) 58 (sl s) (by omega) (.inl rfl) h3 W0 (HT.out.grown G0) (by rw [← a0W]; exact fS.cell) fM.cell)
   (fun h k => h.trans k) (Kp.book hle) (Below.refl _ _) (fun _ => rfl)
   (IG w R K O M) (XG w R K) (ah2 w R K O M _ hle) (fun c => ai0 w R K _ hle c)
   ⟨⟨⟨_, fO, World.ownsRow_nil _ _ _ _, trivial⟩, (fun p hp => absurd hp (by simp)), fR, fK, fM⟩, a1u G0⟩
   (fun x => { tmps := #[.string s, undef, .pointer (some ⟨R, 0, none⟩), .pointer (some ⟨K, 0, none⟩), .pointer (some ⟨O, 0, none⟩), .int .i64 (x.1 : Int), str x.2, undef, undef, .string s, .bool false, .string s, .func (.func 243) #[] #[.pointer (some ⟨Bs, 0, none⟩), .pointer (some ⟨M, 0, none⟩)], .int .i64 (x.1 : Int), str x.2, undef, undef, undef, undef, undef, undef, undef, undef, undef, undef, undef, undef, undef, undef, undef, undef], defers := [] }) ?assign ?body ?done ?stop
  case assign =>
   intro l x W K hK
   gi_wp2
   exact hK
  case body =>
   rintro l pre ⟨i, t⟩ W ⟨⟨⟨v, hO, hrow, -⟩, hg, hRr, hKk, hMm⟩, hB⟩ hlen
   have hG := av4 ⟨t.toArray⟩ W
   rw [show I1 (sl ⟨t.toArray⟩) = I1 t from rfl] at hG
   obtain ⟨n1, n2, n3, n4, n5, n6, l1, l2, l3⟩ := ne.out
   have n6' : K ≠ R := Ne.symm n6
   have hpl : (a0y pre).length ≤ 1048577 := by
    have := a7d 58 [] (sl s)
    unfold j5 at hlen
    unfold a0y
    rw [List.length_map]
    omega
   have hB' := hB.size
   by_cases hbad : I1 t = none ∨ 8 ≤ i
   ·have HB : Hid (¬ a1K (pre ++ [(i, t)])) := fun h => by
     have h2 := ((a8N _ _).1 h).2
     rcases hbad with hb | hb
     ·rw [show I1 (i, t).2 = none from hb] at h2
      exact absurd h2.1 (by simp)
     ·have := h2.2
      simp only at this
      omega
    have fin : ∀ w1 : World, W.grownBy w1 none → ownPostK (Kp w.heap.size fun k => k = M) (IG w R K O M) (XG w R K) (pre ++ [(i, t)]) W .ret { tmps := #[], defers := [] } ((w1.setCell ⟨R, 0, none⟩ (.slice none 0 0)).setCell ⟨K, 0, none⟩ (.bool false)) := fun w1 G1 => by
     have bR1 := N7 hRr G1 (fun r e => by cases e)
     have bK1 := N7 hKk G1 (fun r e => by cases e)
     have hkk : KeepsOthers W w1 := KeepsOthers.of_grownBy G1 (fun _ _ e => by cases e)
     have hB1 : Below w.heap.size W w1 := (Below.refl _ _).grown G1 (by omega) (by simp)
     exact ⟨(hkk.trans (KeepsOthers.setCell _ _ _)).trans (KeepsOthers.setCell _ _ _), ⟨rfl, HB.out, V7 _ (bR1.set _) n6, Boxed.set _ (V7 _ bK1 n6')⟩, ((hB.trans hB1).setCell (p := ⟨R, 0, none⟩) l2 _).setCell (p := ⟨K, 0, none⟩) l3 _⟩
    have HF : Hid (∀ w1 : World, W.grownBy w1 none → ownPostK (Kp w.heap.size fun k => k = M) (IG w R K O M) (XG w R K) (pre ++ [(i, t)]) W .ret { tmps := #[], defers := [] } ((w1.setCell ⟨R, 0, none⟩ (.slice none 0 0)).setCell ⟨K, 0, none⟩ (.bool false))) := fin
    clear fin
    cases hn : I1 t with
    | none =>
     rw [hn] at hG
     have hG' : Calls Tryz.prog 245 #[str t] W fun e w' => e = .returned (.tuple #[.int .u16 0, .bool false]) ∧ W.grownBy w' none := hG
     clear hG
     gi_wp2_with (refine ⟨trivial, ?_⟩; gi_at_call 245; refine (CallsIn.inRound l (callsIn_wide.2 hG')).mono ?_; rintro e w1 ⟨rfl, G1⟩; have hR1 := N7 hRr G1 (fun r e => by cases e); have hc1 := hR1.cell; have hf1 := hR1.frozen; have hK1 := N7 hKk G1 (fun r e => by cases e); have hc2 := hK1.cell; have hf2 := hK1.frozen)
     exact HF.out w1 G1
    | some u =>
     rw [hn] at hG
     have hi8 : (8 : Int) ≤ (i : Int) := by
      rcases hbad with hb | hb
      ·rw [hn] at hb; cases hb
      ·omega
     have hG' : Calls Tryz.prog 245 #[str t] W fun e w' => e = .returned (.tuple #[.int .u16 (u : Int), .bool true]) ∧ W.grownBy w' none := hG
     clear hG hbad
     gi_wp2_with (refine ⟨trivial, ?_⟩; gi_at_call 245; refine (CallsIn.inRound l (callsIn_wide.2 hG')).mono ?_; rintro e w1 ⟨rfl, G1⟩; have hR1 := N7 hRr G1 (fun r e => by cases e); have hc1 := hR1.cell; have hf1 := hR1.frozen; have hK1 := N7 hKk G1 (fun r e => by cases e); have hc2 := hK1.cell; have hf2 := hK1.frozen)
     exact HF.out w1 G1
   ·obtain ⟨u, hu⟩ : ∃ u, I1 t = some u := by
     cases h : I1 t with
     | none => exact absurd (.inl h) hbad
     | some u => exact ⟨u, rfl⟩
    have hi8 : ¬ (8 : Int) ≤ (i : Int) := fun h => hbad (.inr (by omega))
    rw [hu] at hG
    have hG' : Calls Tryz.prog 245 #[str t] W fun e w' => e = .returned (.tuple #[.int .u16 (u : Int), .bool true]) ∧ W.grownBy w' none := hG
    have HV : Hid (a0y (pre ++ [(i, t)]) = a0y pre ++ [u]) := by
     show _ = _
     simp [a0y, hu]
    have HGd : Hid (a1K (pre ++ [(i, t)])) := (a8N _ _).2 ⟨hg, by rw [show I1 (i, t).2 = some u from hu]; rfl, by have h : ¬ 8 ≤ i := fun h => hbad (.inr h); simp only; omega⟩
    obtain ⟨ao, cap, rfl, -⟩ := T0 hrow
    clear hG hbad hg
    generalize a0y pre = us at *
    gi_wp2_with (first
     | (refine ⟨trivial, ?_⟩; gi_at_call 245; refine (CallsIn.inRound l (callsIn_wide.2 hG')).mono ?_; rintro e w1 ⟨rfl, G1⟩; have hO1 := N7 hO G1 (fun r e => by cases e); have hc1 := hO1.cell; have hrow1 := E7 hrow G1; have hl1 := G1.size)
     | (gi_at_builtin; refine wpListIn_append_own _ rfl _ _ 238 rfl w.heap.size 176 i0 (.int .u16 0) 1 2 Tryz.underlying238 hi hz0 hz1 hz2 rfl (by decide) _ _ _ rfl (hrow1.alloc _) ⟨w1.heap.size, 0, none⟩ 1 1 [a02 u] rfl rfl (cell_one_new _ _ _) (by simp [Value.oneCell', a02]) (by unfold maxLen; omega) (by omega) (by simp; omega) ?_; intro v' w2 hown' hgrow _; obtain ⟨g', cap', rfl⟩ := ownsRow_succ hown'; obtain ⟨hv1, hv2, hr2, hk2, hb2⟩ := hO1.appended (by decide) hrow1 (by omega) l1 hown' hgrow; have hc2 := hv1.cell; have hf2 := hv1.frozen))
    have bM1 := N7 hMm G1 (fun r e => by cases e)
    have bR1 := N7 hRr G1 (fun r e => by cases e)
    have bK1 := N7 hKk G1 (fun r e => by cases e)
    have far : ∀ {B : Nat} {t : TypeId} {x : Value}, Boxed w1 B t x → t ≠ 176 → B ≠ O → Boxed (w2.setCell ⟨O, 0, none⟩ (.slice (some ⟨g', 0, none⟩) (us.length + 1) cap')) B t x := fun {B t x} h ht hb => V7 _ (((h.alloc _).kept hgrow (h.not_row ht hrow1))) hb
    have bM2 := far bM1 (by decide) n1
    have bR2 := far bR1 (by decide) (Ne.symm n4)
    have bK2 := far bK1 (by decide) (Ne.symm n5)
    have hkk : KeepsOthers W w1 := KeepsOthers.of_grownBy G1 (fun _ _ e => by cases e)
    have hB1 : Below w.heap.size W w1 := (Below.refl _ _).grown G1 (by omega) (by simp)
    refine ⟨hkk.trans hk2, ⟨hB1.trans hb2, ?_⟩, ⟨⟨_, hv2, ?_, trivial⟩, HGd.out, bR2, bK2, bM2⟩, hB.trans (hB1.trans hb2)⟩
    ·rintro k o rfl ho -
     unfold Boxed at hMm bM2
     rw [hMm] at ho
     rw [bM2]
     exact ho
    ·rw [HV.out, List.length_append, List.map_append]
     exact hr2
  case done =>
   rintro D xs W hD rfl ⟨⟨⟨v, hO, hrow, -⟩, hg, hRr, hKk, -⟩, hB⟩ hK
   have HN : Hid (r9 (sl s) = some (a0y (o5 0 (j5 58 (sl s))))) := av2 (sl s) HNE.out hg
   obtain ⟨n1, n2, n3, n4, n5, n6, l1, l2, l3⟩ := ne.out
   have n6' : K ≠ R := Ne.symm n6
   obtain ⟨ao, cap, rfl, -⟩ := T0 hrow
   have hcO := hO.cell
   have hcR := hRr.cell
   have hfR := hRr.frozen
   have hcK := hKk.cell
   have hfK := hKk.frozen
   clear hg fR fK fO fS fM
   generalize a0y (o5 0 (j5 58 (sl s))) = us at *
   gi_wp2
   obtain ⟨X, hX⟩ : ∃ X, ((W.setCell ⟨R, 0, none⟩ (.slice ao us.length cap)).setCell ⟨K, 0, none⟩ (.bool true)) = X := ⟨_, rfl⟩
   rw [hX]
   have k1 : KeepsOthers W X := by rw [← hX]; exact (KeepsOthers.setCell _ _ _).trans (KeepsOthers.setCell _ _ _)
   have k2 : Boxed X R 238 (.slice ao us.length cap) := by rw [← hX]; exact V7 _ (hRr.set _) n6
   have k3 : Boxed X K 4 (.bool true) := by rw [← hX]; exact Boxed.set _ (V7 _ hKk n6')
   have k4 : Below w.heap.size w X := by rw [← hX]; exact (hB.setCell (p := ⟨R, 0, none⟩) l2 _).setCell (p := ⟨K, 0, none⟩) l3 _
   have k5 : X.ownsRow w.heap.size 176 1 (.slice ao us.length cap) us.length (us.map a02) := by
    rw [← hX]
    have r1 := hrow.kept (grownBy_setCell' W R (.slice ao us.length cap)) (.inr (hRr.not_row (by decide) hrow).symm)
    have bK : Boxed (W.setCell ⟨R, 0, none⟩ (.slice ao us.length cap)) K 4 (.bool false) := V7 _ hKk n6'
    exact r1.kept (grownBy_setCell' _ K (.bool true)) (.inr (bK.not_row (by decide) r1).symm)
   clear hX
   have hK' := k1.same D _ hK rfl
   refine ⟨by simp, .inl ⟨_, _, rfl, run_takeDeferred hK', ?_⟩⟩
   have hr : ∀ r, some D = some r → ∃ o : Obj, X.heap[r]? = some o ∧ o.isCells = false := fun r e => by cases e; exact ⟨_, hK', rfl⟩
   refine ⟨_, a6X rfl _ _ R K (.slice ao us.length cap) (.bool true) rfl rfl (N7 k2 (grownBy_putObj' _ D (.deferred none)) hr) (N7 k3 (grownBy_putObj' _ D (.deferred none)) hr) (run_isAgg_plain Tryz.underlying238 rfl _) (run_isAgg_plain Tryz.underlying4 rfl _), ?_⟩
   refine ⟨.slice ao us.length cap, ?_, ?_, ?_⟩
   ·rw [HN.out]; rfl
   ·rw [HN.out]; exact ownsRow_putObj k5 _ hK' rfl
   ·exact a0L (k4.trans (belowK_b (w := w) (Nat.le_refl _) _ D _ _ (by omega) hK' rfl rfl))
  case stop =>
   rintro D c pre W hD hpre ⟨⟨rfl, hbad, hRr, hKk⟩, hB⟩ hK
   have HN : Hid (r9 (sl s) = none) := aI7 (sl s) HNE.out hpre hbad
   gi_wp2
   refine ⟨by simp, .inl ⟨_, _, rfl, run_takeDeferred hK, ?_⟩⟩
   have hr : ∀ r, some D = some r → ∃ o : Obj, W.heap[r]? = some o ∧ o.isCells = false := fun r e => by cases e; exact ⟨_, hK, rfl⟩
   refine ⟨_, a6X rfl _ _ R K (.slice none 0 0) (.bool false) rfl rfl (N7 hRr (grownBy_putObj' _ D (.deferred none)) hr) (N7 hKk (grownBy_putObj' _ D (.deferred none)) hr) (run_isAgg_plain Tryz.underlying238 rfl _) (run_isAgg_plain Tryz.underlying4 rfl _), ?_⟩
   refine ⟨.slice none 0 0, ?_, ?_, ?_⟩
   ·rw [HN.out]; rfl
   ·rw [HN.out]; exact World.ownsRow_nil _ _ _ _
   ·exact a0L (hB.trans (belowK_b (w := w) (Nat.le_refl _) W D _ _ (by omega) hK rfl rfl))
def a6g (gp : Option Nat) (nx ny : Nat) : Bool := match gp with
 | none => nx == 8
 | some _ => decide (nx + ny ≤ 7)
def aw5 (s H T : List UInt8) (gp : Option Nat) : Prop := match gp with
 | none => H = s ∧ T = []
 | some k => H = s.take k ∧ T = s.drop (k + 2)
theorem a9N (s H T : List UInt8) (h : aw5 s H T (M4 s)) :
  L1 s = (r9 H).bind fun x => (r9 T).bind fun y => if a6g (M4 s) x.length y.length = true then some (j4 (x ++ List.replicate (8 - x.length - y.length) 0 ++ y)) else none := by
 unfold L1
 cases hg : M4 s with
 | none =>
  rw [hg] at h
  obtain ⟨rfl, rfl⟩ := h
  simp only
  have e : r9 [] = some [] := rfl
  cases r9 H with
  | none => rfl
  | some x =>
   rw [e]
   simp only [Option.bind_some, a6g, List.length_nil, List.append_nil, Nat.sub_zero, beq_iff_eq]
   by_cases h8 : x.length = 8
   ·rw [if_pos h8, if_pos h8, h8]; simp
   ·rw [if_neg h8, if_neg h8]
 | some k =>
  rw [hg] at h
  obtain ⟨rfl, rfl⟩ := h
  simp only [a6g, decide_eq_true_eq]
theorem ai4 {α β : Type} {f : α → Option β} {xs : List α} {vs : List β} (h : S9 f xs = some vs) : ∀ v ∈ vs, ∃ x ∈ xs, f x = some v := by
 induction xs generalizing vs with
 | nil => simp [S9] at h; subst h; intro v hv; cases hv
 | cons x r ih =>
  simp only [S9] at h
  cases hx : f x with
  | none => rw [hx] at h; cases h
  | some u =>
   rw [hx] at h
   cases hr : S9 f r with
   | none => rw [hr] at h; cases h
   | some us =>
    rw [hr] at h
    simp only [Option.bind_some, Option.map_some, Option.some.injEq] at h
    subst h
    intro v hv
    rcases List.mem_cons.1 hv with rfl | hv
    ·exact ⟨x, by simp, hx⟩
    ·obtain ⟨y, hy, e⟩ := ih hr v hv
     exact ⟨y, by simp [hy], e⟩
theorem a8Q {s : List UInt8} {gs : List Nat} (h : r9 s = some gs) : ∀ g ∈ gs, g < 65536 := by
 unfold r9 at h
 split at h
 ·simp at h; subst h; intro g hg; cases hg
 ·split at h
  ·cases h
  ·intro g hg
   obtain ⟨x, -, e⟩ := ai4 h g hg
   exact a8O e
theorem a6o {s : List UInt8} {gs : List Nat} (h : r9 s = some gs) : gs.length ≤ 8 := by
 unfold r9 at h
 split at h
 ·simp at h; subst h; simp
 ·split at h
  ·cases h
  ·rw [a7O h]; omega
theorem a8g (gs : List Nat) : (j4 gs).length = 2 * gs.length := by
 induction gs with
 | nil => rfl
 | cons g r ih => simp only [j4, List.flatMap_cons, List.length_append, List.length_cons, List.length_nil] at *; omega
theorem a5X (a b : List Nat) : j4 (a ++ b) = j4 a ++ j4 b := by simp [j4]
theorem ao2 (n : Nat) : j4 (List.replicate n 0) = List.replicate (2 * n) 0 := by
 induction n with
 | zero => rfl
 | succ n ih =>
  rw [List.replicate_succ, show (0 :: List.replicate n 0) = [0] ++ List.replicate n 0 from rfl, a5X, ih, show 2 * (n + 1) = 2 * n + 1 + 1 by omega, List.replicate_succ, List.replicate_succ]
  rfl
def a14 (l : List Nat) : List UInt8 := j4 l ++ List.replicate (16 - 2 * l.length) 0
theorem ac9 (l : List Nat) : splice ((List.replicate 16 (0 : UInt8)).map bv) 0 ((j4 l).map bv) = (a14 l).map bv := by
 unfold splice a14
 rw [List.take_zero, List.nil_append, Nat.zero_add, List.length_map, a0h, ← List.map_drop, List.drop_replicate, List.map_append]
theorem ad0 (l r : List Nat) (h : l.length + r.length ≤ 8) : splice ((a14 l).map bv) (2 * (8 - r.length)) ((j4 r).map bv) = (j4 (l ++ List.replicate (8 - l.length - r.length) 0 ++ r)).map bv := by
 unfold splice a14
 have e1 : (j4 l ++ List.replicate (16 - 2 * l.length) (0 : UInt8)).take (2 * (8 - r.length)) = j4 l ++ List.replicate (2 * (8 - l.length - r.length)) 0 := by
  rw [List.take_append, a0h, List.take_of_length_le (by rw [a0h]; omega), List.take_replicate]
  congr 2
  omega
 have e2 : (j4 l ++ List.replicate (16 - 2 * l.length) (0 : UInt8)).drop (2 * (8 - r.length) + 2 * r.length) = [] := by
  apply List.drop_eq_nil_of_le
  rw [List.length_append, a0h, List.length_replicate]
  omega
 rw [List.length_map, a0h, ← List.map_take, ← List.map_drop, e1, e2, a5X, a5X, ao2]
 simp
theorem aM5 (s x y : List UInt8) (m : Bool) (h : (m = false ∧ M4 s = none ∧ x = s ∧ y = []) ∨ (m = true ∧ ∃ k, M4 s = some k ∧ x = s.take k ∧ y = s.drop (k + 2))) :
  L1 s = (r9 x).bind fun l => (r9 y).bind fun r => if l.length + r.length ≤ 8 ∧ m = decide (l.length + r.length < 8) then some (j4 (l ++ List.replicate (8 - l.length - r.length) 0 ++ r)) else none := by
 rcases h with ⟨rfl, hg, hx, rfl⟩ | ⟨rfl, k, hg, rfl, rfl⟩
 ·subst hx
  rw [a9N x x [] (by rw [hg]; exact ⟨rfl, rfl⟩), hg]
  cases hl : r9 x with
  | none => rfl
  | some l =>
   have hl8 := a6o hl
   show (if (l.length == 8) = true then _ else _) = (if l.length + 0 ≤ 8 ∧ false = decide (l.length + 0 < 8) then _ else _)
   by_cases h8 : l.length = 8
   ·rw [if_pos (by simpa using h8), if_pos ⟨by omega, by rw [h8]; rfl⟩]
   ·rw [if_neg (by simpa using h8), if_neg (fun e => by have := e.2; simp at this; omega)]
 ·rw [a9N s _ _ (by rw [hg]; exact ⟨rfl, rfl⟩), hg]
  cases r9 (s.take k) with
  | none => rfl
  | some l =>
   cases r9 (s.drop (k + 2)) with
   | none => rfl
   | some r =>
    show (if decide (l.length + r.length ≤ 7) = true then _ else _) = (if l.length + r.length ≤ 8 ∧ true = decide (l.length + r.length < 8) then _ else _)
    by_cases h7 : l.length + r.length ≤ 7
    ·rw [if_pos (by simpa using h7), if_pos ⟨by omega, by simp; omega⟩]
    ·rw [if_neg (by simpa using h7), if_neg (fun e => by have := e.2; simp at this; omega)]
theorem a4D {w : World} {ao : Option Addr} {xs : List UInt8} (h : Cells w ao xs) (hp : 0 < (xs.map bv).length) : ∃ ad, ao = some ad ∧ ∀ j v, (xs.map bv)[j]? = some v → w.cell? (ad.add j) = some v := by
 rw [List.length_map] at hp
 cases ao with
 | none => have := h.1 rfl; subst this; simp at hp
 | some ad =>
  refine ⟨ad, rfl, fun j v hv => ?_⟩
  obtain ⟨hj, e⟩ := List.getElem?_eq_some_iff.1 hv
  rw [List.length_map] at hj
  rw [h.2 ad rfl j hj, ← e, List.getElem_map]
theorem aM1 (s : ByteArray) (w : World) (hs : s.size ≤ 1048576) (T : j7 w) :
  Calls Tryz.prog 236 #[.string s] w fun e w' => e = .returned (.tuple #[a4y 16 (L1 (sl s)), .int .i64 (a4G (L1 (sl s)))]) ∧ w.grownBy w' none := by
 have HS := q7 s
 have HT : Hid (j7 w) := T
 have h3 := T.size
 clear T
 have hsz5 : (Tryz.prog.info? 5).map (·.size) = some 1 := by kernel_rfl
 rw [a0W s]
 obtain ⟨S, hS⟩ : ∃ S, sl s = S := ⟨_, rfl⟩
 rw [hS] at HS ⊢
 clear hS
 have A0 := AAt.alloc w 41 (List.replicate 16 0)
 have G0 := World.grownBy_alloc w (.cells ((List.replicate 16 (0 : UInt8)).map bv).toArray 41) none
 rw [show ((List.replicate 16 (0 : UInt8)).map bv).toArray = #[.int .u8 0, .int .u8 0, .int .u8 0, .int .u8 0, .int .u8 0, .int .u8 0, .int .u8 0, .int .u8 0, .int .u8 0, .int .u8 0, .int .u8 0, .int .u8 0, .int .u8 0, .int .u8 0, .int .u8 0, .int .u8 0] from rfl] at A0 G0
 have CC := ap8 S _ (by omega) (HT.out.grown G0)
 go_enter Tryz.func236, Tryz.ntmps236
 go_wp2_with fail
 refine CC.mono ?_
 rintro e w1 ⟨⟨x, y, m, rfl, hm⟩, k, rfl⟩
 have HPT : Hid (L1 S = (r9 x).bind fun l => (r9 y).bind fun r => if l.length + r.length ≤ 8 ∧ m = decide (l.length + r.length < 8) then some (j4 (l ++ List.replicate (8 - l.length - r.length) 0 ++ r)) else none) := aM5 S x y m hm
 have hxl : x.length ≤ 1048576 := by
  rcases hm with ⟨-, -, rfl, -⟩ | ⟨-, q, -, rfl, -⟩
  ·omega
  ·rw [List.length_take]; omega
 have hyl : y.length ≤ 1048576 := by
  rcases hm with ⟨-, -, -, rfl⟩ | ⟨-, q, -, -, rfl⟩
  ·simp
  ·rw [List.length_drop]; omega
 have A1 := A0.grown (f9 _ k none) (by simp)
 have G1 := d3 G0 (f9 _ k none)
 clear A0 G0 CC hm
 obtain ⟨R, hR, hRw⟩ : ∃ R, w.heap.size = R ∧ w.heap.size ≤ R := ⟨_, rfl, Nat.le_refl _⟩
 rw [hR] at A1
 rw [show (Value.pointer (some ⟨w.heap.size, 0, none⟩)) = .pointer (some ⟨R, 0, none⟩) by rw [hR]]
 generalize (w.alloc (.cells #[.int .u8 0, .int .u8 0, .int .u8 0, .int .u8 0, .int .u8 0, .int .u8 0, .int .u8 0, .int .u8 0, .int .u8 0, .int .u8 0, .int .u8 0, .int .u8 0, .int .u8 0, .int .u8 0, .int .u8 0, .int .u8 0] 41)).drewN k = wk at *
 have CX : Hid (∀ W : World, j7 W → Calls Tryz.prog 241 #[str x] W fun e w' => ∃ v, e = .returned (.tuple #[v, .bool (r9 x).isSome]) ∧ a5Q w' W.heap.size v ((r9 x).getD []) ∧ W.grownBy w' none) := fun W t => a8P ⟨x.toArray⟩ W (by rw [← q7]; exact hxl) t
 have CY : Hid (∀ W : World, j7 W → Calls Tryz.prog 241 #[str y] W fun e w' => ∃ v, e = .returned (.tuple #[v, .bool (r9 y).isSome]) ∧ a5Q w' W.heap.size v ((r9 y).getD []) ∧ W.grownBy w' none) := fun W t => a8P ⟨y.toArray⟩ W (by rw [← q7]; exact hyl) t
 have HLX : Hid (((r9 x).getD []).length ≤ 8 ∧ ∀ g ∈ (r9 x).getD [], g < 65536) := by
  show _ ∧ _
  cases h : r9 x with
  | none => exact ⟨by simp, fun g hg => absurd hg (by simp)⟩
  | some l => exact ⟨a6o h, a8Q h⟩
 have HLY : Hid (((r9 y).getD []).length ≤ 8 ∧ ∀ g ∈ (r9 y).getD [], g < 65536) := by
  show _ ∧ _
  cases h : r9 y with
  | none => exact ⟨by simp, fun g hg => absurd hg (by simp)⟩
  | some l => exact ⟨a6o h, a8Q h⟩
 go_wp2_with fail
 refine (CX.out _ (HT.out.grown G1)).mono ?_
 rintro e w2 ⟨vx, rfl, OX, GX⟩
 go_wp2_with fail
 refine (CY.out _ (HT.out.grown (d3 G1 GX))).mono ?_
 rintro e w3 ⟨vy, rfl, OY, GY⟩
 have A3 := (A1.grown GX (by simp)).grown GY (by simp)
 have G3 := d3 G1 (d3 GX GY)
 obtain ⟨ax, cx, rfl, CVX, -, -, -, -⟩ := T0 (E7 OX GY)
 obtain ⟨ay, cy, rfl, CVY, -, -, -, -⟩ := T0 OY
 have HCX : Hid (CV w3 ax (((r9 x).getD []).map a02)) := CVX
 have HCY : Hid (CV w3 ay (((r9 y).getD []).map a02)) := CVY
 clear CX CY OX OY GX GY CVX CVY A1 G1 hR
 obtain ⟨l, hl⟩ : ∃ l, (r9 x).getD [] = l := ⟨_, rfl⟩
 obtain ⟨r, hr⟩ : ∃ r, (r9 y).getD [] = r := ⟨_, rfl⟩
 rw [hl] at HCX HLX
 rw [hr] at HCY HLY
 rw [hl, hr]
 have hl8 := HLX.out.1
 have hr8 := HLY.out.1
 have w1 : IntKind.i64.wrap (8 - (l.length : Int)) = 8 - (l.length : Int) := by rw [IntKind.wrap_i64]; omega
 have w2' : IntKind.i64.wrap (8 - (l.length : Int) - (r.length : Int)) = 8 - (l.length : Int) - (r.length : Int) := by rw [IntKind.wrap_i64]; omega
 cases hX : r9 x with
 | none =>
  have HN : Hid (L1 S = none) := by show _ = _; rw [HPT.out, hX]; rfl
  rw [show (none : Option (List Nat)).isSome = false from rfl]
  clear HCX HCY hX hl hr HPT
  go_wp2_with (refine wpList_store_row rfl 41 (.tmp 2) (.tmp 51) rfl R ((List.replicate 16 (0 : UInt8)).map bv).toArray rfl rfl 41 _ A3 U7 rfl (a0G _) ?_)
  refine bodyPost_ret (a2L rfl _ _ R (List.replicate 16 0) 16 5 rfl (A3.setRow (List.replicate 16 0)) Tryz.underlying41 U7) rfl ?_
  exact ⟨by rw [HN.out]; rfl, a2t G3 _ _ (.inr hRw)⟩
 | some l' =>
  obtain rfl : l' = l := by rw [hX] at hl; exact hl
  rw [show (some l' : Option (List Nat)).isSome = true from rfl]
  cases hY : r9 y with
  | none =>
   have HN : Hid (L1 S = none) := by show _ = _; rw [HPT.out, hX, hY]; rfl
   rw [show (none : Option (List Nat)).isSome = false from rfl]
   clear HCX HCY hX hY hl hr HPT
   go_wp2_with (refine wpList_store_row rfl 41 (.tmp 2) (.tmp 51) rfl R ((List.replicate 16 (0 : UInt8)).map bv).toArray rfl rfl 41 _ A3 U7 rfl (a0G _) ?_)
   refine bodyPost_ret (a2L rfl _ _ R (List.replicate 16 0) 16 5 rfl (A3.setRow (List.replicate 16 0)) Tryz.underlying41 U7) rfl ?_
   exact ⟨by rw [HN.out]; rfl, a2t G3 _ _ (.inr hRw)⟩
  | some r' =>
   obtain rfl : r' = r := by rw [hY] at hr; exact hr
   rw [show (some r' : Option (List Nat)).isSome = true from rfl]
   have HPT2 : Hid (L1 S = if l'.length + r'.length ≤ 8 ∧ m = decide (l'.length + r'.length < 8) then some (j4 (l' ++ List.replicate (8 - l'.length - r'.length) 0 ++ r')) else none) := by show _ = _; rw [HPT.out, hX, hY]; rfl
   clear hX hY hl hr HPT
   by_cases h8 : l'.length + r'.length ≤ 8
   case neg =>
    have HN : Hid (L1 S = none) := by show _ = _; rw [HPT2.out, if_neg (fun e => h8 e.1)]
    have c1 : 8 - (l'.length : Int) - (r'.length : Int) < 0 := by omega
    clear HCX HCY HPT2
    go_wp2_with (refine wpList_store_row rfl 41 (.tmp 2) (.tmp 51) rfl R ((List.replicate 16 (0 : UInt8)).map bv).toArray rfl rfl 41 _ A3 U7 rfl (a0G _) ?_)
    refine bodyPost_ret (a2L rfl _ _ R (List.replicate 16 0) 16 5 rfl (A3.setRow (List.replicate 16 0)) Tryz.underlying41 U7) rfl ?_
    exact ⟨by rw [HN.out]; rfl, a2t G3 _ _ (.inr hRw)⟩
   case pos =>
    have c1 : ¬ 8 - (l'.length : Int) - (r'.length : Int) < 0 := by omega
    by_cases hmm : m = decide (l'.length + r'.length < 8)
    case neg =>
     have HN : Hid (L1 S = none) := by show _ = _; rw [HPT2.out, if_neg (fun e => hmm e.2)]
     have HMM : Hid (m ≠ decide (l'.length + r'.length < 8)) := hmm
     clear HCX HCY HPT2 hmm
     by_cases h7 : l'.length + r'.length < 8
     ·have c2 : (0 : Int) < 8 - (l'.length : Int) - (r'.length : Int) := by omega
      obtain rfl : m = false := by have := HMM.out; rw [decide_eq_true h7] at this; cases m <;> simp_all
      go_wp2_with (refine wpList_store_row rfl 41 (.tmp 2) (.tmp 51) rfl R ((List.replicate 16 (0 : UInt8)).map bv).toArray rfl rfl 41 _ A3 U7 rfl (a0G _) ?_)
      refine bodyPost_ret (a2L rfl _ _ R (List.replicate 16 0) 16 5 rfl (A3.setRow (List.replicate 16 0)) Tryz.underlying41 U7) rfl ?_
      exact ⟨by rw [HN.out]; rfl, a2t G3 _ _ (.inr hRw)⟩
     ·have c2 : ¬ (0 : Int) < 8 - (l'.length : Int) - (r'.length : Int) := by omega
      have c4 : decide ((r'.length : Int) < 8 - (l'.length : Int)) = false := decide_eq_false (by omega)
      obtain rfl : m = true := by have := HMM.out; rw [decide_eq_false h7] at this; cases m <;> simp_all
      go_wp2_with (refine wpList_store_row rfl 41 (.tmp 2) (.tmp 51) rfl R ((List.replicate 16 (0 : UInt8)).map bv).toArray rfl rfl 41 _ A3 U7 rfl (a0G _) ?_)
      refine bodyPost_ret (a2L rfl _ _ R (List.replicate 16 0) 16 5 rfl (A3.setRow (List.replicate 16 0)) Tryz.underlying41 U7) rfl ?_
      exact ⟨by rw [HN.out]; rfl, a2t G3 _ _ (.inr hRw)⟩
    case pos =>
     have HN : Hid (L1 S = some (j4 (l' ++ List.replicate (8 - l'.length - r'.length) 0 ++ r'))) := by show _ = _; rw [HPT2.out, if_pos ⟨h8, hmm⟩]
     clear HPT2
     by_cases h7 : l'.length + r'.length < 8
     ·have c2 : (0 : Int) < 8 - (l'.length : Int) - (r'.length : Int) := by omega
      have c4 : decide ((r'.length : Int) < 8 - (l'.length : Int)) = true := decide_eq_true (by omega)
      obtain rfl : m = true := by rw [hmm]; exact decide_eq_true h7
      clear hmm
      go_upto_region 8 with fail
      have AQ := AAt.alloc w3 41 (List.replicate 16 0)
      have KQ := World.grownBy_alloc w3 (.cells ((List.replicate 16 (0 : UInt8)).map bv).toArray 41) none
      rw [show ((List.replicate 16 (0 : UInt8)).map bv).toArray = #[.int .u8 0, .int .u8 0, .int .u8 0, .int .u8 0, .int .u8 0, .int .u8 0, .int .u8 0, .int .u8 0, .int .u8 0, .int .u8 0, .int .u8 0, .int .u8 0, .int .u8 0, .int .u8 0, .int .u8 0, .int .u8 0] from rfl] at AQ KQ
      have RQ := A3.grown KQ (by simp)
      have GQ := d3 G3 KQ
      have hRA := A3.lt
      have hsq : w.heap.size ≤ w3.heap.size := G3.size
      have CXQ := HCX.out.keptNone KQ
      have CYQ := HCY.out.keptNone KQ
      have uX : ∀ ad, ay = some ad → r'.map a02 ≠ [] → ad.block < w3.heap.size := fun ad had hne => by
       have hp : 0 < (r'.map a02).length := List.length_pos_iff.2 hne
       have := block_lt_of_cell (HCY.out.2 ad had 0 hp)
       rw [show (ad.add 0).block = ad.block by unfold Addr.add; split <;> rfl] at this
       exact this
      obtain ⟨A, hA⟩ : ∃ A, w3.heap.size = A := ⟨_, rfl⟩
      have hq1 : A + 1 = (w3.alloc (.cells #[.int .u8 0, .int .u8 0, .int .u8 0, .int .u8 0, .int .u8 0, .int .u8 0, .int .u8 0, .int .u8 0, .int .u8 0, .int .u8 0, .int .u8 0, .int .u8 0, .int .u8 0, .int .u8 0, .int .u8 0, .int .u8 0] 41)).heap.size := by rw [World.size_alloc, hA]
      rw [hA] at AQ hRA hsq uX ⊢
      clear A3 G3 KQ HCX HCY hA
      generalize w3.alloc (.cells #[.int .u8 0, .int .u8 0, .int .u8 0, .int .u8 0, .int .u8 0, .int .u8 0, .int .u8 0, .int .u8 0, .int .u8 0, .int .u8 0, .int .u8 0, .int .u8 0, .int .u8 0, .int .u8 0, .int .u8 0, .int .u8 0] 41) = wq at *
      have HB1 : Hid (∀ W : World, wq.grownBy W none → Below A wq W) := fun W G => (Below.refl _ _).grown G (by omega) (by simp)
      have hld := f9 wq 1 none
      have CLX : Calls Tryz.prog 242 #[.slice ax l'.length cx] wq.drew fun e w' => ∃ v, e = .returned v ∧ q8 w' wq.drew.heap.size v (j4 l') ∧ wq.drew.grownBy w' none := a4T ax cx l' wq.drew (CXQ.keptNone hld) HLX.out.2 hl8
      have hlb := a0h l'
      go_region_held3 (fun _ => True) (trivial) (first | (go_at_call 242; refine CLX.mono ?_; rintro e w5 ⟨v5, rfl, O5, G5⟩; obtain ⟨a5, c5, rfl, C5, -⟩ := O5.rd; dsimp only) | (refine step_copy_splice rfl (.tmp 52) (.tmp 54) 115 115 rfl 5 Tryz.underlying115 hsz5 (some ⟨A, 0, none⟩) a5 16 16 (j4 l').length c5 (by simp [Act.eval]) (by simp [Act.eval]) A 0 ((List.replicate 16 (0 : UInt8)).map bv) 41 (AQ.grown (d3 hld G5) (by simp)) ((j4 l').map bv) (by rw [List.length_map]; exact (Nat.min_eq_left (by omega)).symm) (fun hp => ⟨rfl, a4D C5 hp⟩) (by rw [List.length_map, List.length_map, List.length_replicate]; omega) (a0H _) A wq (HB1.out _ (d3 hld G5)) (Nat.le_refl _) ?_; intro w6 hg6 hb6))
      have A6 : AAt w6 A 41 (a14 l') := by unfold AAt; rw [hg6.out, ac9]
      have R6 : AAt w6 R 41 (List.replicate 16 0) := by unfold AAt at RQ ⊢; rw [hb6.block R hRA]; exact RQ
      have C6 : CV w6 ay (r'.map a02) := CYQ.same fun ad had hne _ => hb6.block ad.block (uX ad had hne)
      have B6 : Below w.heap.size w w6 := (a1u GQ).trans (hb6.mono hsq)
      have hs6 : A + 1 ≤ w6.heap.size := by have := hb6.size; omega
      clear hg6 hb6 AQ RQ GQ CXQ CYQ uX HB1 hld CLX G5 O5 C5 hq1 hlb w1 w2'
      obtain ⟨q, hq⟩ : ∃ q, 8 - r'.length = q := ⟨_, rfl⟩
      obtain ⟨z, hz⟩ : ∃ z, 2 * q = z := ⟨_, rfl⟩
      have v1 : IntKind.i64.wrap (8 - (r'.length : Int)) = (q : Int) := by rw [IntKind.wrap_i64]; omega
      have v2 : IntKind.i64.wrap (2 * (q : Int)) = (z : Int) := by rw [IntKind.wrap_i64]; omega
      have z0 : (0 : Int) ≤ (z : Int) := by omega
      have z16 : (z : Int) ≤ 16 := by omega
      have HZ : Hid (z = 2 * (8 - r'.length)) := by show _ = _; omega
      have hrb := a0h r'
      have hz2 : (j4 r').length = 16 - z := by omega
      have HB2 : Hid (∀ W : World, w6.grownBy W none → Below A w6 W) := fun W G => (Below.refl _ _).grown G (by omega) (by simp)
      have hld6 := f9 w6 1 none
      have HPOS : Hid (0 < ((j4 r').map bv).length → (some (if 16 = z then ⟨A, 0, none⟩ else ⟨A, z, none⟩) : Option Addr) = some ⟨A, z, none⟩) := fun hp => by
       rw [List.length_map] at hp
       rw [if_neg (by omega)]
      have HFIT : Hid (z + ((j4 r').map bv).length ≤ ((a14 l').map bv).length) := by
       show _ ≤ _
       rw [List.length_map, List.length_map, a14, List.length_append, a0h, a0h, List.length_replicate]
       have := HZ.out
       omega
      have HN2 : Hid (((j4 r').map bv).length = Nat.min (j4 r').length (16 - z)) := by
       show _ = _
       rw [List.length_map, hz2]
       exact (Nat.min_self _).symm
      have CLY : Calls Tryz.prog 242 #[.slice ay r'.length cy] w6.drew fun e w' => ∃ v, e = .returned v ∧ q8 w' w6.drew.heap.size v (j4 r') ∧ w6.drew.grownBy w' none := a4T ay cy r' w6.drew (C6.keptNone hld6) HLY.out.2 hr8
      clear hq hz hrb hz2 C6
      go_wp2_with fail
      go_region_held3 (fun _ => True) (trivial) (first | (go_at_call 242; refine CLY.mono ?_; rintro e w7 ⟨v7, rfl, O7, G7⟩; obtain ⟨a7, c7, rfl, C7, -⟩ := O7.rd; dsimp only) | (refine step_copy_splice rfl (.tmp 60) (.tmp 62) 115 115 rfl 5 Tryz.underlying115 hsz5 (some (if 16 = z then ⟨A, 0, none⟩ else ⟨A, z, none⟩)) a7 (16 - z) (16 - z) (j4 r').length c7 (by simp [Act.eval]) (by simp [Act.eval]) A z ((a14 l').map bv) 41 (A6.grown (d3 hld6 G7) (by simp)) ((j4 r').map bv) HN2.out (fun hp => ⟨HPOS.out hp, a4D C7 hp⟩) HFIT.out (a0H _) A w6 (HB2.out _ (d3 hld6 G7)) (Nat.le_refl _) ?_; intro w8 hg8 hb8))
      have HFL : Hid ((j4 (l' ++ List.replicate (8 - l'.length - r'.length) 0 ++ r')).length = 16) := by
       show _ = _
       rw [a0h, List.length_append, List.length_append, List.length_replicate]
       omega
      have A8 : AAt w8 A 41 (j4 (l' ++ List.replicate (8 - l'.length - r'.length) 0 ++ r')) := by
       unfold AAt
       rw [hg8.out, HZ.out, ad0 l' r' h8]
      have R8 : AAt w8 R 41 (List.replicate 16 0) := by unfold AAt at R6 ⊢; rw [hb8.block R hRA]; exact R6
      have B8 : Below w.heap.size w w8 := B6.trans (hb8.mono hsq)
      have HZ1 : Hid ((Tryz.prog.info? 41).map (·.size) = some ((j4 (l' ++ List.replicate (8 - l'.length - r'.length) 0 ++ r')).map bv).toArray.size ∧ ((List.replicate 16 (0 : UInt8)).map bv).toArray.size = ((j4 (l' ++ List.replicate (8 - l'.length - r'.length) 0 ++ r')).map bv).toArray.size ∧ (Tryz.prog.info? 41).map (·.size) = some (j4 (l' ++ List.replicate (8 - l'.length - r'.length) 0 ++ r')).length) := by
       refine ⟨?_, ?_, ?_⟩
       ·rw [U2, HFL.out]; exact U7
       ·rw [U2, U2, HFL.out]; rfl
       ·rw [HFL.out]; exact U7
      clear hg8 hb8 A6 R6 B6 HB2 hld6 CLY G7 O7 C7 HFL
      generalize j4 (l' ++ List.replicate (8 - l'.length - r'.length) 0 ++ r') = fin at *
      go_wp2_with (first | refine wpList_load_row rfl 41 (.tmp 12) rfl A rfl 41 (fin.map bv).toArray (0, 0) _ A8 Tryz.underlying41 rfl HZ1.out.1 ?_ | refine wpList_store_row rfl 41 (.tmp 2) (.tmp 64) rfl R (fin.map bv).toArray rfl rfl 41 _ R8 HZ1.out.1 HZ1.out.2.1 (a0G _) ?_)
      all_goals
       refine bodyPost_ret (a2L rfl _ _ R fin 16 5 rfl (R8.setRow fin) Tryz.underlying41 HZ1.out.2.2) rfl ?_
       exact ⟨by rw [HN.out]; rfl, a2t (a0L B8) _ _ (.inr hRw)⟩
     ·have c2 : ¬ (0 : Int) < 8 - (l'.length : Int) - (r'.length : Int) := by omega
      have c4 : decide ((r'.length : Int) < 8 - (l'.length : Int)) = false := decide_eq_false (by omega)
      obtain rfl : m = false := by rw [hmm]; exact decide_eq_false h7
      clear hmm
      go_upto_region 8 with fail
      have AQ := AAt.alloc w3 41 (List.replicate 16 0)
      have KQ := World.grownBy_alloc w3 (.cells ((List.replicate 16 (0 : UInt8)).map bv).toArray 41) none
      rw [show ((List.replicate 16 (0 : UInt8)).map bv).toArray = #[.int .u8 0, .int .u8 0, .int .u8 0, .int .u8 0, .int .u8 0, .int .u8 0, .int .u8 0, .int .u8 0, .int .u8 0, .int .u8 0, .int .u8 0, .int .u8 0, .int .u8 0, .int .u8 0, .int .u8 0, .int .u8 0] from rfl] at AQ KQ
      have RQ := A3.grown KQ (by simp)
      have GQ := d3 G3 KQ
      have hRA := A3.lt
      have hsq : w.heap.size ≤ w3.heap.size := G3.size
      have CXQ := HCX.out.keptNone KQ
      have CYQ := HCY.out.keptNone KQ
      have uX : ∀ ad, ay = some ad → r'.map a02 ≠ [] → ad.block < w3.heap.size := fun ad had hne => by
       have hp : 0 < (r'.map a02).length := List.length_pos_iff.2 hne
       have := block_lt_of_cell (HCY.out.2 ad had 0 hp)
       rw [show (ad.add 0).block = ad.block by unfold Addr.add; split <;> rfl] at this
       exact this
      obtain ⟨A, hA⟩ : ∃ A, w3.heap.size = A := ⟨_, rfl⟩
      have hq1 : A + 1 = (w3.alloc (.cells #[.int .u8 0, .int .u8 0, .int .u8 0, .int .u8 0, .int .u8 0, .int .u8 0, .int .u8 0, .int .u8 0, .int .u8 0, .int .u8 0, .int .u8 0, .int .u8 0, .int .u8 0, .int .u8 0, .int .u8 0, .int .u8 0] 41)).heap.size := by rw [World.size_alloc, hA]
      rw [hA] at AQ hRA hsq uX ⊢
      clear A3 G3 KQ HCX HCY hA
      generalize w3.alloc (.cells #[.int .u8 0, .int .u8 0, .int .u8 0, .int .u8 0, .int .u8 0, .int .u8 0, .int .u8 0, .int .u8 0, .int .u8 0, .int .u8 0, .int .u8 0, .int .u8 0, .int .u8 0, .int .u8 0, .int .u8 0, .int .u8 0] 41) = wq at *
      have HB1 : Hid (∀ W : World, wq.grownBy W none → Below A wq W) := fun W G => (Below.refl _ _).grown G (by omega) (by simp)
      have hld := f9 wq 1 none
      have CLX : Calls Tryz.prog 242 #[.slice ax l'.length cx] wq.drew fun e w' => ∃ v, e = .returned v ∧ q8 w' wq.drew.heap.size v (j4 l') ∧ wq.drew.grownBy w' none := a4T ax cx l' wq.drew (CXQ.keptNone hld) HLX.out.2 hl8
      have hlb := a0h l'
      go_region_held3 (fun _ => True) (trivial) (first | (go_at_call 242; refine CLX.mono ?_; rintro e w5 ⟨v5, rfl, O5, G5⟩; obtain ⟨a5, c5, rfl, C5, -⟩ := O5.rd; dsimp only) | (refine step_copy_splice rfl (.tmp 52) (.tmp 54) 115 115 rfl 5 Tryz.underlying115 hsz5 (some ⟨A, 0, none⟩) a5 16 16 (j4 l').length c5 (by simp [Act.eval]) (by simp [Act.eval]) A 0 ((List.replicate 16 (0 : UInt8)).map bv) 41 (AQ.grown (d3 hld G5) (by simp)) ((j4 l').map bv) (by rw [List.length_map]; exact (Nat.min_eq_left (by omega)).symm) (fun hp => ⟨rfl, a4D C5 hp⟩) (by rw [List.length_map, List.length_map, List.length_replicate]; omega) (a0H _) A wq (HB1.out _ (d3 hld G5)) (Nat.le_refl _) ?_; intro w6 hg6 hb6))
      have A6 : AAt w6 A 41 (a14 l') := by unfold AAt; rw [hg6.out, ac9]
      have R6 : AAt w6 R 41 (List.replicate 16 0) := by unfold AAt at RQ ⊢; rw [hb6.block R hRA]; exact RQ
      have C6 : CV w6 ay (r'.map a02) := CYQ.same fun ad had hne _ => hb6.block ad.block (uX ad had hne)
      have B6 : Below w.heap.size w w6 := (a1u GQ).trans (hb6.mono hsq)
      have hs6 : A + 1 ≤ w6.heap.size := by have := hb6.size; omega
      clear hg6 hb6 AQ RQ GQ CXQ CYQ uX HB1 hld CLX G5 O5 C5 hq1 hlb w1 w2'
      obtain ⟨q, hq⟩ : ∃ q, 8 - r'.length = q := ⟨_, rfl⟩
      obtain ⟨z, hz⟩ : ∃ z, 2 * q = z := ⟨_, rfl⟩
      have v1 : IntKind.i64.wrap (8 - (r'.length : Int)) = (q : Int) := by rw [IntKind.wrap_i64]; omega
      have v2 : IntKind.i64.wrap (2 * (q : Int)) = (z : Int) := by rw [IntKind.wrap_i64]; omega
      have z0 : (0 : Int) ≤ (z : Int) := by omega
      have z16 : (z : Int) ≤ 16 := by omega
      have HZ : Hid (z = 2 * (8 - r'.length)) := by show _ = _; omega
      have hrb := a0h r'
      have hz2 : (j4 r').length = 16 - z := by omega
      have HB2 : Hid (∀ W : World, w6.grownBy W none → Below A w6 W) := fun W G => (Below.refl _ _).grown G (by omega) (by simp)
      have hld6 := f9 w6 1 none
      have HPOS : Hid (0 < ((j4 r').map bv).length → (some (if 16 = z then ⟨A, 0, none⟩ else ⟨A, z, none⟩) : Option Addr) = some ⟨A, z, none⟩) := fun hp => by
       rw [List.length_map] at hp
       rw [if_neg (by omega)]
      have HFIT : Hid (z + ((j4 r').map bv).length ≤ ((a14 l').map bv).length) := by
       show _ ≤ _
       rw [List.length_map, List.length_map, a14, List.length_append, a0h, a0h, List.length_replicate]
       have := HZ.out
       omega
      have HN2 : Hid (((j4 r').map bv).length = Nat.min (j4 r').length (16 - z)) := by
       show _ = _
       rw [List.length_map, hz2]
       exact (Nat.min_self _).symm
      have CLY : Calls Tryz.prog 242 #[.slice ay r'.length cy] w6.drew fun e w' => ∃ v, e = .returned v ∧ q8 w' w6.drew.heap.size v (j4 r') ∧ w6.drew.grownBy w' none := a4T ay cy r' w6.drew (C6.keptNone hld6) HLY.out.2 hr8
      clear hq hz hrb hz2 C6
      go_wp2_with fail
      go_region_held3 (fun _ => True) (trivial) (first | (go_at_call 242; refine CLY.mono ?_; rintro e w7 ⟨v7, rfl, O7, G7⟩; obtain ⟨a7, c7, rfl, C7, -⟩ := O7.rd; dsimp only) | (refine step_copy_splice rfl (.tmp 60) (.tmp 62) 115 115 rfl 5 Tryz.underlying115 hsz5 (some (if 16 = z then ⟨A, 0, none⟩ else ⟨A, z, none⟩)) a7 (16 - z) (16 - z) (j4 r').length c7 (by simp [Act.eval]) (by simp [Act.eval]) A z ((a14 l').map bv) 41 (A6.grown (d3 hld6 G7) (by simp)) ((j4 r').map bv) HN2.out (fun hp => ⟨HPOS.out hp, a4D C7 hp⟩) HFIT.out (a0H _) A w6 (HB2.out _ (d3 hld6 G7)) (Nat.le_refl _) ?_; intro w8 hg8 hb8))
      have HFL : Hid ((j4 (l' ++ List.replicate (8 - l'.length - r'.length) 0 ++ r')).length = 16) := by
       show _ = _
       rw [a0h, List.length_append, List.length_append, List.length_replicate]
       omega
      have A8 : AAt w8 A 41 (j4 (l' ++ List.replicate (8 - l'.length - r'.length) 0 ++ r')) := by
       unfold AAt
       rw [hg8.out, HZ.out, ad0 l' r' h8]
      have R8 : AAt w8 R 41 (List.replicate 16 0) := by unfold AAt at R6 ⊢; rw [hb8.block R hRA]; exact R6
      have B8 : Below w.heap.size w w8 := B6.trans (hb8.mono hsq)
      have HZ1 : Hid ((Tryz.prog.info? 41).map (·.size) = some ((j4 (l' ++ List.replicate (8 - l'.length - r'.length) 0 ++ r')).map bv).toArray.size ∧ ((List.replicate 16 (0 : UInt8)).map bv).toArray.size = ((j4 (l' ++ List.replicate (8 - l'.length - r'.length) 0 ++ r')).map bv).toArray.size ∧ (Tryz.prog.info? 41).map (·.size) = some (j4 (l' ++ List.replicate (8 - l'.length - r'.length) 0 ++ r')).length) := by
       refine ⟨?_, ?_, ?_⟩
       ·rw [U2, HFL.out]; exact U7
       ·rw [U2, U2, HFL.out]; rfl
       ·rw [HFL.out]; exact U7
      clear hg8 hb8 A6 R6 B6 HB2 hld6 CLY G7 O7 C7 HFL
      generalize j4 (l' ++ List.replicate (8 - l'.length - r'.length) 0 ++ r') = fin at *
      go_wp2_with (first | refine wpList_load_row rfl 41 (.tmp 12) rfl A rfl 41 (fin.map bv).toArray (0, 0) _ A8 Tryz.underlying41 rfl HZ1.out.1 ?_ | refine wpList_store_row rfl 41 (.tmp 2) (.tmp 64) rfl R (fin.map bv).toArray rfl rfl 41 _ R8 HZ1.out.1 HZ1.out.2.1 (a0G _) ?_)
      all_goals
       refine bodyPost_ret (a2L rfl _ _ R fin 16 5 rfl (R8.setRow fin) Tryz.underlying41 HZ1.out.2.2) rfl ?_
       exact ⟨by rw [HN.out]; rfl, a2t (a0L B8) _ _ (.inr hRw)⟩
theorem a9M {s r : List UInt8} (h : M5 s = some r) : r.length = 4 := by
 unfold M5 at h
 split at h
 ·rename_i h4
  cases ha : S9 (D2 255) (j5 46 s) with
  | none => rw [ha] at h; cases h
  | some ns =>
   rw [ha] at h
   simp only [Option.map_some, Option.some.injEq] at h
   subst h
   rw [List.length_map, a7O ha, h4]
 ·cases h
theorem aL8 (s : List UInt8) : ((M5 s).getD (List.replicate 4 0)).length = 4 := by
 cases h : M5 s with
 | none => rfl
 | some r => exact a9M h
theorem a9O {s r : List UInt8} (h : L1 s = some r) : r.length = 16 := by
 unfold L1 at h
 split at h
 ·cases hx : r9 s with
  | none => rw [hx] at h; cases h
  | some x =>
   rw [hx] at h
   simp only [Option.bind_some] at h
   split at h
   ·simp only [Option.some.injEq] at h
    subst h
    rw [a8g]; omega
   ·cases h
 ·rename_i k _
  cases hx : r9 (s.take k) with
  | none => rw [hx] at h; cases h
  | some x =>
   cases hy : r9 (s.drop (k + 2)) with
   | none => rw [hx, hy] at h; cases h
   | some y =>
    rw [hx, hy] at h
    simp only [Option.bind_some] at h
    split at h
    ·simp only [Option.some.injEq] at h
     subst h
     rw [a8g, List.length_append, List.length_append, List.length_replicate]; omega
    ·cases h
theorem aM2 (s : List UInt8) : ((L1 s).getD (List.replicate 16 0)).length = 16 := by
 cases h : L1 s with
 | none => rfl
 | some r => exact a9O h

end Go.Proofs.YtklipelnjgpnjaaGreatDoor
