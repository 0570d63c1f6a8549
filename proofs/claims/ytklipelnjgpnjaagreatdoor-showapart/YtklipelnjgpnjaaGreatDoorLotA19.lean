import Derived.Test.YtklipelnjgpnjaaGreatDoorLotA18
import Derived.Test.YtklipelnjgpnjaaGreatDoorLotA4
import Derived.Test.YtklipelnjgpnjaaGreatDoorLotA1
import Derived.Maps.AppendAt
import Derived.Deep.RegionHeld3
import Derived.Laws.CopyOwn
namespace Go.Proofs.YtklipelnjgpnjaaGreatDoor
open Go.RowKit Go.Shelf
set_option maxRecDepth 100000

attribute [local go_sem] Oper.semAt_some
def txtU (pre : List (Nat × UInt16)) : List UInt8 := pre.foldl (fun t p => (if 0 < p.1 then t ++ [58] else t) ++ shortV p.2.toNat) []
theorem txtU_snoc (pre : List (Nat × UInt16)) (x : Nat × UInt16) : txtU (pre ++ [x]) = (if 0 < x.1 then txtU pre ++ [58] else txtU pre) ++ shortV x.2.toNat := by simp [txtU]
theorem txtU_len (pre : List (Nat × UInt16)) : (txtU pre).length ≤ 5 * pre.length := by
 have key : ∀ (l : List (Nat × UInt16)) (a : List UInt8), (l.foldl (fun t p => (if 0 < p.1 then t ++ [58] else t) ++ shortV p.2.toNat) a).length ≤ a.length + 5 * l.length := by
  intro l
  induction l with
  | nil => intro a; simp
  | cons x r ih =>
   intro a
   rw [List.foldl_cons]
   have h1 := ih ((if 0 < x.1 then a ++ [58] else a) ++ shortV x.2.toNat)
   have h2 := (short_piece x.2.toNat).2.2.1
   have h3 : (if 0 < x.1 then a ++ [58] else a).length ≤ a.length + 1 := by split <;> simp
   rw [List.length_append] at h1
   simp only [List.length_cons]
   omega
 have := key pre []
 simpa [txtU] using this
theorem txtU_join (gs : List Nat) (hg : ∀ g ∈ gs, g < 65536) : txtU (numU gs) = joinV 58 (gs.map shortV) := by
 have key : ∀ n (gs : List Nat), gs.length = n → (∀ g ∈ gs, g < 65536) → txtU (numU gs) = joinV 58 (gs.map shortV) := by
  intro n
  induction n with
  | zero =>
   intro gs hn _
   obtain rfl : gs = [] := List.eq_nil_of_length_eq_zero hn
   rfl
  | succ n ih =>
   intro gs hn hg
   have hne : gs ≠ [] := fun e => by rw [e] at hn; cases hn
   obtain ⟨r, x, rfl⟩ : ∃ r x, gs = r ++ [x] := ⟨gs.dropLast, gs.getLast hne, (List.dropLast_concat_getLast hne).symm⟩
   have hr : r.length = n := by simpa using hn
   have hx := hg x (by simp)
   rw [numU_snoc, txtU_snoc, ih r hr (fun g hm => hg g (by simp [hm])), List.map_append, List.map_singleton, join_snoc]
   simp only
   rw [UInt16.toNat_ofNat_of_lt' hx]
   by_cases h0 : r = []
   ·subst h0; simp [joinV]
   ·have h1 : 0 < r.length := List.length_pos_iff.2 h0
    have h2 : ¬ (r.map shortV = []) := by simpa using h0
    rw [if_pos h1, if_neg h2]
    simp
 exact key gs.length gs rfl hg
theorem ap_others {B : Nat} {w w' : World} (h : Ap B w w') : KeepsOthers w w' := ⟨h.size, fun k o hk hc => h.2 k o hk (by simp) (fun c fz e => by subst e; cases hc)⟩
theorem ap_box {B b : Nat} {w w' : World} {t : TypeId} {v : Value} (h : Ap B w w') (hb : Boxed w b t v) (ht : t ≠ 5) : Boxed w' b t v := h.heap hb ht
def IU (w : World) (O Bb : Nat) (sv : Value) (pre : List (Nat × UInt16)) (W : World) : Prop :=
 ((∃ v, Boxed W O 115 v ∧ W.ownsRow w.heap.size 5 1 v (txtU pre).length ((txtU pre).map bv) ∧ True) ∧ Boxed W Bb 115 sv) ∧ Below w.heap.size w W
theorem IU_own (w : World) (O Bb : Nat) (sv : Value) (B : Nat) (hB : w.heap.size ≤ B) : OwnFrom B (IU w O Bb sv) :=
 OwnFrom.and (OwnFrom.and (Own.from (holdsRow_own w.heap.size O 115 5 1 (fun pre => (txtU pre).length) (fun pre => (txtU pre).map bv) (fun _ _ => True)) _) (Own.from (fun _ _ _ _ hs hg hr => box_keep hs hg hr) _)) (ownFrom_below (Nat.le_refl _) hB)
theorem printed_world (w : World) (v : Value) : ∀ W0, ((w.alloc (.cells #[.slice none 0 0] 115)).alloc (.cells #[v] 115)) = W0 →
  Boxed W0 w.heap.size 115 (.slice none 0 0) ∧ Boxed W0 (w.heap.size + 1) 115 v ∧ w.grownBy W0 none ∧ W0.heap.size = w.heap.size + 2 := by
 rintro W0 rfl
 exact ⟨hkeep (hnew _ _ _ rfl) _, hnew _ _ _ (by simp only [World.size_alloc]), grown_trans (World.grownBy_alloc _ _ _) (World.grownBy_alloc _ _ _), by simp only [World.size_alloc]⟩
set_option maxRecDepth 100000 in
set_option maxHeartbeats 4000000 in
theorem printed_any (ao : Option Addr) (ca : Nat) (xs : List UInt8) (w : World) (hc : Cells w ao xs) (h16 : xs.length ≤ 16) (T : TabA w) :
  Calls Tryz.prog 184 #[.slice ao xs.length ca] w fun e w' => e = .returned (str (joinV 58 ((pairsG xs).map shortV))) ∧ w.grownBy w' none := by
 obtain ⟨i0, hi, hz0, hz1, hz2⟩ := info_parts info5
 have HT : Hid (TabA w) := T
 have HC : Hid (Cells w ao xs) := hc
 have h3 := T.size
 have hq : (pairsG xs).length ≤ 8 := by have := pairs_half xs; omega
 clear T hc
 refine (callsIn_wide (n := 3)).1 ?_
 refine callsIn_of_wp_marks Tryz.func184 rfl trivial ?_ rfl
 simp only [Tryz.ntmps184, List.size_toArray, List.length_cons, List.length_nil, Nat.reduceAdd, Nat.reduceSub, Array.replicate_succ, Array.replicate_zero, List.push_toArray, List.append_toArray, List.nil_append, List.cons_append]
 gi_wp2_with (refine ⟨trivial, ?_⟩; gi_at_call 203; refine (callsIn_wide.2 (pairs_any _ _ _ _)).mono ?_; rintro e w' ⟨rfl, rfl⟩)
 obtain ⟨W0, hW0⟩ : ∃ W0, ((w.alloc (.cells #[.slice none 0 0] 115)).alloc (.cells #[.slice ao xs.length ca] 115)) = W0 := ⟨_, rfl⟩
 obtain ⟨fO, fB, G0, hsz⟩ := printed_world w (.slice ao xs.length ca) W0 hW0
 rw [hW0]
 clear hW0
 obtain ⟨Bb, hBb⟩ : ∃ k, w.heap.size + 1 = k := ⟨_, rfl⟩
 rw [hBb] at fB ⊢
 obtain ⟨O, hO⟩ : ∃ k, w.heap.size = k := ⟨_, rfl⟩
 rw [show (Value.pointer (some ⟨w.heap.size, 0, none⟩)) = .pointer (some ⟨O, 0, none⟩) by rw [hO]]
 rw [hO] at fO
 have ne : Hid (Bb ≠ O ∧ w.heap.size ≤ O) := by
  refine ⟨?_, ?_⟩ <;> omega
 clear hBb hO
 have hle : w.heap.size ≤ W0.heap.size := G0.size
 refine wpIn_rangeFunc_ownF rfl (by omega) (gf := 213) (lb := #[.pointer (some ⟨Bb, 0, none⟩)]) rfl trivial (enters_of Tryz.func213 (by kernel_rfl) rfl)
  (pairsU_stops _ (by omega) Bb w.heap.size (fun k => k = Bb) ao ca xs (by omega) (.inl rfl) (fun ad e hx => .inl (HC.out.under ad e hx)) W0 fB.cell (HC.out.keptNone G0))
  (fun h k => h.trans k) (Kp.book hle) (Below.refl _ _) (fun _ => rfl)
  (IU w O Bb (.slice ao xs.length ca)) (fun _ _ _ => False) (IU_own w O Bb (.slice ao xs.length ca) _ hle) (fun _ _ _ _ _ hs _ _ => hs)
  ⟨⟨⟨_, fO, World.ownsRow_nil _ _ _ _, trivial⟩, fB⟩, below_of G0⟩
  (fun x => { tmps := #[.slice ao xs.length ca, undef, .string ⟨#[]⟩, .pointer (some ⟨O, 0, none⟩), .int .i64 (x.1 : Int), .int .u32 (x.2.toNat : Int), .slice ao xs.length ca, .func (.func 213) #[] #[.pointer (some ⟨Bb, 0, none⟩)], .int .i64 (x.1 : Int), .int .u32 (x.2.toNat : Int), undef, undef, undef, undef, undef, undef, undef, undef, undef, undef, undef], defers := [] }) ?assign ?body ?done ?stop
 case assign =>
  intro l x W K hK
  gi_wp2
  exact hK
 case body =>
  rintro l pre ⟨i, g⟩ W ⟨⟨⟨v, hO, hrow, -⟩, hBx⟩, hB⟩ hlen
  obtain ⟨n1, l1⟩ := ne.out
  have g16 := g.toNat_lt
  have htl : (txtU pre).length ≤ 40 := by have := txtU_len pre; omega
  have hB' := hB.size
  have HTW : Hid (∀ X : World, Below w.heap.size w X → TabA X) := fun X h => HT.out.below h3 h
  have HTX : Hid (txtU (pre ++ [(i, g)]) = (if 0 < i then txtU pre ++ [58] else txtU pre) ++ shortV g.toNat) := txtU_snoc pre (i, g)
  obtain ⟨ap, cap, rfl, -⟩ := cv_of_row hrow
  -- what the second half leaves
  have fin : ∀ (W1 w2 : World) (v1 v2 : Value) (ys : List UInt8), KeepsOthers W W1 → Below w.heap.size W W1 → Boxed W1 O 115 v1 → Boxed W1 Bb 115 (.slice ao xs.length ca) → Ap w.heap.size W1 w2 → Owns w2 w.heap.size v2 (ys ++ shortV g.toNat) → ys = (if 0 < i then txtU pre ++ [58] else txtU pre) →
    ownPostK (Kp w.heap.size fun k => k = Bb) (IU w O Bb (.slice ao xs.length ca)) (fun _ _ _ => False) (pre ++ [(i, g)]) W .normal { tmps := #[], defers := [] } (w2.setCell ⟨O, 0, none⟩ v2) := fun W1 w2 v1 v2 ys k1 b1 o1 x1 a2 o2 hy => by
   have o3 := ap_box a2 o1 (by decide)
   have x3 := box_away (i := 0) v2 (ap_box a2 x1 (by decide)) n1
   have b3 : Below w.heap.size W (w2.setCell ⟨O, 0, none⟩ v2) := (b1.trans a2.1).setCell (p := ⟨O, 0, none⟩) l1 _
   refine ⟨(k1.trans (ap_others a2)).trans (KeepsOthers.setCell _ _ _), ⟨b3, ?_⟩, ⟨⟨v2, o3.set _, ?_, trivial⟩, x3⟩, hB.trans b3⟩
   ·rintro k o rfl ho -
    unfold Boxed at hBx x3
    rw [hBx] at ho
    rw [x3]
    exact ho
   ·rw [HTX.out, ← hy]
    exact o2.kept (grownBy_setCell' w2 O v2) (.inr (o3.not_row (by decide) o2).symm)
  have HF : Hid (∀ (W1 w2 : World) (v1 v2 : Value) (ys : List UInt8), KeepsOthers W W1 → Below w.heap.size W W1 → Boxed W1 O 115 v1 → Boxed W1 Bb 115 (.slice ao xs.length ca) → Ap w.heap.size W1 w2 → Owns w2 w.heap.size v2 (ys ++ shortV g.toNat) → ys = (if 0 < i then txtU pre ++ [58] else txtU pre) →
    ownPostK (Kp w.heap.size fun k => k = Bb) (IU w O Bb (.slice ao xs.length ca)) (fun _ _ _ => False) (pre ++ [(i, g)]) W .normal { tmps := #[], defers := [] } (w2.setCell ⟨O, 0, none⟩ v2)) := fin
  clear fin fO fB HTX
  generalize txtU pre = ys at *
  have hc1 := hO.cell
  have hf1 := hO.frozen
  by_cases hi0 : 0 < i
  ·have hi' : (0 : Int) < (i : Int) := by omega
   gi_wp2_with (first
    | (gi_at_builtin; refine wpListIn_append_own _ rfl _ _ 115 rfl w.heap.size 5 i0 (.int .u8 0) 1 1 Tryz.underlying115 hi hz0 hz1 hz2 rfl (by decide) _ _ _ rfl (hrow.alloc _) ⟨W.heap.size, 0, none⟩ 1 1 [bv 58] rfl rfl (cell_one_new _ _ _) (by simp [Value.oneCell', bv]) (by unfold maxLen; omega) (by omega) (by simp; omega) ?_; intro v' w1 hown' hgrow _; obtain ⟨g', cap', rfl⟩ := ownsRow_succ hown'; obtain ⟨hv1, hv2, hr2, hk2, hb2⟩ := hO.appended (by decide) hrow (by omega) l1 hown' hgrow; have hc2 := hv1.cell; have hf2 := hv1.frozen; have hc3 := hv2.cell; have hf3 := hv2.frozen)
    | (refine ⟨trivial, ?_⟩; gi_at_call 185; refine (CallsIn.inRound l (callsIn_wide.2 (append_hex w.heap.size g.toNat _ (ys ++ [58]) _ g16 (by unfold Owns; rw [List.length_append, List.map_append]; exact hr2) (by have := hb2.size; omega) (by rw [List.length_append]; simp only [List.length_cons, List.length_nil]; omega) (HTW.out _ (hB.trans hb2))))).mono ?_; rintro e w2 ⟨v2, rfl, O2, A2⟩; obtain ⟨ap2, cap2, rfl, -⟩ := cv_of_row O2; have b2 := ap_box A2 hv2 (by decide); have hc4 := b2.cell; have hf4 := b2.frozen))
   have x1 := box_away (i := 0) (.slice (some ⟨g', 0, none⟩) (ys.length + 1) cap') ((hBx.alloc _).kept hgrow (hBx.not_row (by decide) hrow)) n1
   have e : ys.length + ((shortV g.toNat).length + 1) = (ys ++ [58] ++ shortV g.toNat).length := by simp only [List.length_append, List.length_cons, List.length_nil]; omega
   exact HF.out _ w2 _ _ (ys ++ [58]) hk2 hb2 hv2 x1 A2 (by rw [e]; exact O2) (by rw [if_pos hi0])
  ·have hi' : ¬ (0 : Int) < (i : Int) := by omega
   have CA := append_hex w.heap.size g.toNat (.slice ap ys.length cap) ys W g16 hrow hB' (by omega) (HTW.out _ hB)
   gi_wp2_with (refine ⟨trivial, ?_⟩; gi_at_call 185; refine (CallsIn.inRound l (callsIn_wide.2 CA)).mono ?_; rintro e w2 ⟨v2, rfl, O2, A2⟩; obtain ⟨ap2, cap2, rfl, -⟩ := cv_of_row O2; have b2 := ap_box A2 hO (by decide); have hc2 := b2.cell; have hf2 := b2.frozen)
   exact HF.out W w2 _ _ ys (KeepsOthers.refl _) (Below.refl _ _) hO hBx A2 (by rw [List.length_append] at O2; exact O2) (by rw [if_neg hi0])
 case done =>
  rintro D ys W hD rfl ⟨⟨⟨v, hO, hrow, -⟩, -⟩, hB⟩ hK
  rw [txtU_join _ (pairs_lt xs)] at hrow
  have hcO := hO.cell
  obtain ⟨ap, cap, rfl, -⟩ := cv_of_row hrow
  have hcv := run_str (P := Tryz.prog) (w := W) (base := w.heap.size) (ys := joinV 58 ((pairsG xs).map shortV)) hrow 115 9 Tryz.underlying115 Tryz.underlying5 Tryz.underlying9
  clear fO fB
  gi_wp2
  refine ⟨by simp, .inl ⟨_, _, rfl, run_takeDeferred hK, ?_⟩⟩
  exact ⟨_, results_tmp rfl _ _ _, rfl, grown_of (hB.trans (belowK_b (w := w) (Nat.le_refl _) W D _ _ (by omega) hK rfl rfl))⟩
 case stop =>
  rintro D c pre W _ _ h _
  exact h.elim

open Go.RowKit Go.Shelf

attribute [local go_sem] Oper.semAt_some
def astepR (q : (Nat × Nat) × (Nat × Nat)) (x : Nat × Nat) : (Nat × Nat) × (Nat × Nat) :=
 if x.2 ≠ 0 then (q.1, (x.1 + 1, 0)) else (if 2 ≤ q.2.2 + 1 ∧ q.1.2 < q.2.2 + 1 then (q.2.1, q.2.2 + 1) else q.1, (q.2.1, q.2.2 + 1))
def rowSt (pre : List (Nat × Nat)) : (Nat × Nat) × (Nat × Nat) := pre.foldl astepR ((0, 0), (0, 0))
theorem rowSt_snoc (pre : List (Nat × Nat)) (x : Nat × Nat) : rowSt (pre ++ [x]) = astepR (rowSt pre) x := by simp [rowSt]
def stepRB (q : (Nat × Nat) × (Nat × Nat)) (x : Nat × Bool) : (Nat × Nat) × (Nat × Nat) :=
 if x.2 = false then (q.1, (x.1 + 1, 0)) else (if 2 ≤ q.2.2 + 1 ∧ q.1.2 < q.2.2 + 1 then (q.2.1, q.2.2 + 1) else q.1, (q.2.1, q.2.2 + 1))
def bestB : Nat → List Bool → Option (Nat × Nat) → Option (Nat × Nat)
 | _, [], acc => acc
 | i, g :: r, acc => bestB (i + 1) r (if longOf acc < ((g :: r).takeWhile fun b => b).length then some (i, ((g :: r).takeWhile fun b => b).length) else acc)
theorem zrow_bool (gs : List Nat) : zrow gs = ((gs.map fun g => g == 0).takeWhile fun b => b).length := by
 unfold zrow
 induction gs with
 | nil => rfl
 | cons g r ih =>
  simp only [List.map_cons, List.takeWhile_cons]
  cases g == 0
  ·rfl
  ·simp only [if_true, List.length_cons, ih]
theorem bestF_bool (i : Nat) (gs : List Nat) (acc : Option (Nat × Nat)) : bestF i gs acc = bestB i (gs.map fun g => g == 0) acc := by
 induction gs generalizing i acc with
 | nil => rfl
 | cons g r ih =>
  rw [bestF, ih, zrow_bool, List.map_cons, bestB]
theorem rowSt_bool (i : Nat) (gs : List Nat) (q : (Nat × Nat) × (Nat × Nat)) : (numF i gs).foldl astepR q = (numF i (gs.map fun g => g == 0)).foldl stepRB q := by
 induction gs generalizing i q with
 | nil => rfl
 | cons g r ih =>
  simp only [numF, List.map_cons, List.foldl_cons]
  rw [ih]
  congr 1
  unfold astepR stepRB
  by_cases h : g = 0
  ·subst h; simp
  ·have : (g == 0) = false := by simpa using h
   simp [h]
theorem scan_best : ∀ a b c d e f g h : Bool, ((numF 0 [a, b, c, d, e, f, g, h]).foldl stepRB ((0, 0), (0, 0))).1 = (bestB 0 [a, b, c, d, e, f, g, h] none).getD (0, 0) := by decide +kernel
theorem rowSt_best (gs : List Nat) (h8 : gs.length = 8) : (rowSt (numF 0 gs)).1 = (bestF 0 gs none).getD (0, 0) := by
 unfold rowSt
 rw [rowSt_bool, bestF_bool]
 have hl : (gs.map fun g => g == 0).length = 8 := by rw [List.length_map]; exact h8
 generalize (gs.map fun g => g == 0) = bs at *
 match bs, hl with
 | [a, b, c, d, e, f, g, h], _ => exact scan_best a b c d e f g h
def BoxTwo (W : World) (B : Nat) (t : TypeId) (u v : Value) : Prop := W.heap[B]? = some (.cells #[u, v] t (0, 0))
theorem BoxTwo.cell0 {W : World} {B : Nat} {t : TypeId} {u v : Value} (h : BoxTwo W B t u v) : W.cell? ⟨B, 0, none⟩ = some u := by simp [World.cell?, show W.heap[B]? = _ from h]
theorem BoxTwo.cell1 {W : World} {B : Nat} {t : TypeId} {u v : Value} (h : BoxTwo W B t u v) : W.cell? ⟨B, 1, none⟩ = some v := by simp [World.cell?, show W.heap[B]? = _ from h]
theorem BoxTwo.free {W : World} {B : Nat} {t : TypeId} {u v : Value} (h : BoxTwo W B t u v) (i : Nat) : W.frozen? ⟨B, i, none⟩ = false := by simp [World.frozen?, show W.heap[B]? = _ from h]
theorem BoxTwo.keep {X Y : World} {row : Option Nat} {B : Nat} {t : TypeId} {u v : Value} (h : BoxTwo X B t u v) (hg : X.grownBy Y row) (hr : ∀ r, row = some r → ∃ o : Obj, X.heap[r]? = some o ∧ o.isCells = false) : BoxTwo Y B t u v := by
 unfold BoxTwo at *
 rw [hg.block B (Array.getElem?_eq_some_iff.1 h).1 (fun e => by
  obtain ⟨o, ho, hc⟩ := hr B e.symm
  rw [h] at ho
  cases ho
  cases hc)]
 exact h
theorem BoxTwo.away {W : World} {B b i : Nat} {t : TypeId} {u v : Value} (x : Value) (h : BoxTwo W B t u v) (hb : B ≠ b) : BoxTwo (W.setCell ⟨b, i, none⟩ x) B t u v := by
 unfold BoxTwo at *
 rw [heap_setCell_other _ _ _ _ hb]
 exact h
theorem BoxTwo.set0 {W : World} {B : Nat} {t : TypeId} {u v : Value} (x : Value) (h : BoxTwo W B t u v) : BoxTwo (W.setCell ⟨B, 0, none⟩ x) B t x v := by
 unfold BoxTwo at *
 rw [heap_setCell_same W B 0 _ t x h]
 rfl
theorem BoxTwo.set1 {W : World} {B : Nat} {t : TypeId} {u v : Value} (x : Value) (h : BoxTwo W B t u v) : BoxTwo (W.setCell ⟨B, 1, none⟩ x) B t u x := by
 unfold BoxTwo at *
 rw [heap_setCell_same W B 1 _ t x h]
 rfl
theorem aat_cells {w : World} {g t : Nat} {xs : List UInt8} (h : AAt w g t xs) : Cells w (some ⟨g, 0, none⟩) xs := by
 refine ⟨fun e => (by cases e), fun ad e i hi => ?_⟩
 cases e
 rw [Addr.add_lit, Nat.zero_add]
 exact h.cell hi
theorem longest_world (w : World) (cs : Array Value) : ∀ W0, (((((w.alloc (.cells cs 41)).alloc (.cells #[.int .i64 0, .int .i64 0] 183)).alloc (.cells #[.int .i64 0, .int .i64 0] 183)).alloc (.cells #[.int .i64 0, .int .i64 0] 183)).alloc (.cells #[.slice (some ⟨w.heap.size, 0, none⟩) 16 16] 115)) = W0 →
  W0.heap[w.heap.size]? = some (.cells cs 41 (0, 0)) ∧ BoxTwo W0 (w.heap.size + 1) 183 (.int .i64 0) (.int .i64 0) ∧ BoxTwo W0 (w.heap.size + 1 + 1) 183 (.int .i64 0) (.int .i64 0) ∧ BoxTwo W0 (w.heap.size + 1 + 1 + 1) 183 (.int .i64 0) (.int .i64 0) ∧ Boxed W0 (w.heap.size + 1 + 1 + 1 + 1) 115 (.slice (some ⟨w.heap.size, 0, none⟩) 16 16) ∧ w.grownBy W0 none ∧ W0.heap.size = w.heap.size + 5 := by
 rintro W0 rfl
 refine ⟨?_, ?_, ?_, ?_, ?_, ?_, ?_⟩
 ·exact hkeep (hkeep (hkeep (hkeep (hnew _ _ _ rfl) _) _) _) _
 ·exact hkeep (hkeep (hkeep (hnew _ _ _ (by simp only [World.size_alloc])) _) _) _
 ·exact hkeep (hkeep (hnew _ _ _ (by simp only [World.size_alloc])) _) _
 ·exact hkeep (hnew _ _ _ (by simp only [World.size_alloc])) _
 ·exact hnew _ _ _ (by simp only [World.size_alloc])
 ·exact grown_trans (grown_trans (grown_trans (grown_trans (World.grownBy_alloc _ _ _) (World.grownBy_alloc _ _ _)) (World.grownBy_alloc _ _ _)) (World.grownBy_alloc _ _ _)) (World.grownBy_alloc _ _ _)
 ·simp only [World.size_alloc]
def IL (w : World) (R L P : Nat) (pre : List (Nat × Nat)) (W : World) : Prop :=
 (∃ (la pa : Int) (ls ps : Nat), BoxTwo W L 183 (.int .i64 la) (.int .i64 (ls : Int)) ∧ BoxTwo W P 183 (.int .i64 pa) (.int .i64 (ps : Int)) ∧ BoxTwo W R 183 (.int .i64 0) (.int .i64 0) ∧ ps ≤ pre.length ∧ ls ≤ pre.length ∧ ((∀ p ∈ pre, p.1 < 8) → la = ((rowSt pre).1.1 : Int) ∧ ls = (rowSt pre).1.2 ∧ pa = ((rowSt pre).2.1 : Int) ∧ ps = (rowSt pre).2.2)) ∧ Below w.heap.size w W
theorem IL_own (w : World) (R L P B : Nat) (hB : w.heap.size ≤ B) : OwnFrom B (IL w R L P) :=
 OwnFrom.and (Own.from (fun _ _ _ _ hs hg hr => by
  obtain ⟨la, pa, ls, ps, h1, h2, h3, h4⟩ := hs
  exact ⟨la, pa, ls, ps, h1.keep hg hr, h2.keep hg hr, h3.keep hg hr, h4⟩) _) (ownFrom_below (Nat.le_refl _) hB)
theorem all_snoc {pre : List (Nat × Nat)} {x : Nat × Nat} (h : ∀ p ∈ pre ++ [x], p.1 < 8) : (∀ p ∈ pre, p.1 < 8) ∧ x.1 < 8 := ⟨fun p hp => h p (by simp [hp]), h x (by simp)⟩
set_option maxRecDepth 100000 in
set_option maxHeartbeats 4000000 in
theorem longest_any (xs : List UInt8) (w : World) (h16 : xs.length = 16) :
  Calls Tryz.prog 183 #[.agg (xs.map bv).toArray] w fun e w' => e = .returned (.agg #[.int .i64 (((bestF 0 (pairsG xs) none).getD (0, 0)).1 : Int), .int .i64 (((bestF 0 (pairsG xs) none).getD (0, 0)).2 : Int)]) ∧ w.grownBy w' none := by
 have H16 : Hid (xs.length = 16) := h16
 have HQ : Hid ((pairsG xs).length = 8) := by have := pairs_half xs; show _ = 8; omega
 clear h16
 obtain ⟨cs, hcs⟩ : ∃ cs, (xs.map bv).toArray = cs := ⟨_, rfl⟩
 rw [hcs]
 refine (callsIn_wide (n := 3)).1 ?_
 refine callsIn_of_wp_marks Tryz.func183 rfl trivial ?_ rfl
 simp only [Tryz.ntmps183, List.size_toArray, List.length_cons, List.length_nil, Nat.reduceAdd, Nat.reduceSub, Array.replicate_succ, Array.replicate_zero, List.push_toArray, List.append_toArray, List.nil_append, List.cons_append]
 gi_wp2_with (refine ⟨trivial, ?_⟩; gi_at_call 203; refine (callsIn_wide.2 (pairs_any _ _ _ _)).mono ?_; rintro e w' ⟨rfl, rfl⟩)
 obtain ⟨W0, hW0⟩ : ∃ W0, (((((w.alloc (.cells cs 41)).alloc (.cells #[.int .i64 0, .int .i64 0] 183)).alloc (.cells #[.int .i64 0, .int .i64 0] 183)).alloc (.cells #[.int .i64 0, .int .i64 0] 183)).alloc (.cells #[.slice (some ⟨w.heap.size, 0, none⟩) 16 16] 115)) = W0 := ⟨_, rfl⟩
 obtain ⟨fA, fR, fL, fP, fB, G0, hsz⟩ := longest_world w cs W0 hW0
 rw [hW0]
 clear hW0
 obtain ⟨Bb, hBb⟩ : ∃ k, w.heap.size + 1 + 1 + 1 + 1 = k := ⟨_, rfl⟩
 rw [hBb] at fB ⊢
 obtain ⟨P, hP⟩ : ∃ k, w.heap.size + 1 + 1 + 1 = k := ⟨_, rfl⟩
 rw [hP] at fP ⊢
 obtain ⟨L, hL⟩ : ∃ k, w.heap.size + 1 + 1 = k := ⟨_, rfl⟩
 rw [hL] at fL ⊢
 obtain ⟨R, hR⟩ : ∃ k, w.heap.size + 1 = k := ⟨_, rfl⟩
 rw [hR] at fR ⊢
 obtain ⟨A, hA⟩ : ∃ k, w.heap.size = k := ⟨_, rfl⟩
 rw [show (Value.pointer (some ⟨w.heap.size, 0, none⟩)) = .pointer (some ⟨A, 0, none⟩) by rw [hA], show (Value.slice (some ⟨w.heap.size, 0, none⟩) 16 16) = .slice (some ⟨A, 0, none⟩) 16 16 by rw [hA]]
 rw [show (Value.slice (some ⟨w.heap.size, 0, none⟩) 16 16) = .slice (some ⟨A, 0, none⟩) 16 16 by rw [hA]] at fB
 rw [hA] at fA
 have ne : Hid (A ≠ L ∧ A ≠ P ∧ Bb ≠ L ∧ Bb ≠ P ∧ L ≠ P ∧ L ≠ R ∧ P ≠ R ∧ w.heap.size ≤ L ∧ w.heap.size ≤ P ∧ w.heap.size ≤ R) := by
  refine ⟨?_, ?_, ?_, ?_, ?_, ?_, ?_, ?_, ?_, ?_⟩ <;> omega
 clear hBb hP hL hR hA
 have hle : w.heap.size ≤ W0.heap.size := G0.size
 have aA : AAt W0 A 41 xs := by unfold AAt; rw [hcs]; exact fA
 have hx16 : xs.length ≤ 1048576 := by have := H16.out; omega
 refine wpIn_rangeFunc_ownF rfl (by omega) (gf := 213) (lb := #[.pointer (some ⟨Bb, 0, none⟩)]) rfl trivial (enters_of Tryz.func213 (by kernel_rfl) rfl)
  (pairs_stops _ (by omega) Bb w.heap.size (fun k => k = Bb ∨ k = A) (some ⟨A, 0, none⟩) 16 xs hx16 (.inl (.inl rfl)) (fun ad e _ => by cases e; exact .inr (.inr rfl)) W0 (by rw [H16.out]; exact fB.cell) (aat_cells aA))
  (fun h k => h.trans k) (Kp.book hle) (Below.refl _ _) (fun _ => rfl)
  (IL w R L P) (fun _ _ _ => False) (IL_own w R L P _ hle) (fun _ _ _ _ _ hs _ _ => hs)
  ⟨⟨0, 0, 0, 0, fL, fP, fR, Nat.zero_le _, Nat.zero_le _, fun _ => ⟨rfl, rfl, rfl, rfl⟩⟩, below_of G0⟩
  (fun x => { tmps := #[.agg cs, .pointer (some ⟨A, 0, none⟩), .pointer (some ⟨R, 0, none⟩), .pointer (some ⟨L, 0, none⟩), .pointer (some ⟨P, 0, none⟩), .int .i64 (x.1 : Int), .int .u32 (x.2 : Int), .slice (some ⟨A, 0, none⟩) 16 16, .func (.func 213) #[] #[.pointer (some ⟨Bb, 0, none⟩)], .int .i64 (x.1 : Int), .int .u32 (x.2 : Int), undef, undef, undef, undef, undef, undef, undef, undef, undef, undef, undef, undef, undef, undef, undef, undef, undef, undef, undef, undef, undef], defers := [] }) ?assign ?body ?done ?stop
 case assign =>
  intro l x W K hK
  gi_wp2
  exact hK
 case body =>
  rintro l pre ⟨i, g⟩ W ⟨⟨la, pa, ls, ps, hL, hP, hR, hps, hls, heq⟩, hB⟩ hlen
  obtain ⟨n1, n2, n3, n4, n5, n6, n7, l1, l2, l3⟩ := ne.out
  have h8 : pre.length < 8 := by have := HQ.out; omega
  have kp : ∀ X : World, Below w.heap.size W X → (∀ k, k ≠ L → k ≠ P → X.heap[k]? = W.heap[k]?) → Kp w.heap.size (fun k => k = Bb ∨ k = A) W X := fun X hb hk => ⟨hb, fun k o hs ho _ => by
   rcases hs with rfl | rfl
   ·rw [hk _ n3 n4]; exact ho
   ·rw [hk _ n1 n2]; exact ho⟩
  have HEQ : Hid ((∀ p ∈ pre, p.1 < 8) → la = ((rowSt pre).1.1 : Int) ∧ ls = (rowSt pre).1.2 ∧ pa = ((rowSt pre).2.1 : Int) ∧ ps = (rowSt pre).2.2) := heq
  have HKP : Hid (∀ X : World, Below w.heap.size W X → (∀ k, k ≠ L → k ≠ P → X.heap[k]? = W.heap[k]?) → Kp w.heap.size (fun k => k = Bb ∨ k = A) W X) := kp
  clear heq kp fA fR fL fP fB aA
  have cP0 := hP.cell0
  have cP1 := hP.cell1
  have fP0 := hP.free 0
  have fP1 := hP.free 1
  by_cases hg : g = 0
  ·subst hg
   have hP1 := hP.set1 (.int .i64 ((ps : Int) + 1))
   have cQ0 := hP1.cell0
   have cQ1 := hP1.cell1
   have hL1 := hL.away (i := 1) (.int .i64 ((ps : Int) + 1)) n5
   have cL0 := hL1.cell0
   have cL1 := hL1.cell1
   have fL0 := hL1.free 0
   have fL1 := hL1.free 1
   have hR1 := hR.away (i := 1) (.int .i64 ((ps : Int) + 1)) (Ne.symm n7)
   have hst : ∀ ha : ∀ p ∈ pre ++ [(i, 0)], p.1 < 8, rowSt (pre ++ [(i, 0)]) = (if 2 ≤ ps + 1 ∧ ls < ps + 1 then ((rowSt pre).2.1, ps + 1) else (rowSt pre).1, ((rowSt pre).2.1, ps + 1)) := fun ha => by
    obtain ⟨-, e2, -, e4⟩ := HEQ.out (all_snoc ha).1
    rw [rowSt_snoc, astepR, if_neg (by simp), e2, e4]
   have HST : Hid (∀ ha : ∀ p ∈ pre ++ [(i, 0)], p.1 < 8, rowSt (pre ++ [(i, 0)]) = (if 2 ≤ ps + 1 ∧ ls < ps + 1 then ((rowSt pre).2.1, ps + 1) else (rowSt pre).1, ((rowSt pre).2.1, ps + 1))) := hst
   clear hst
   by_cases ht : 2 ≤ ps + 1 ∧ ls < ps + 1
   ·have t1 : (2 : Int) ≤ (ps : Int) + 1 := by omega
    have t2 : (ls : Int) < (ps : Int) + 1 := by omega
    gi_wp2
    refine ⟨((KeepsOthers.setCell _ _ _).trans (KeepsOthers.setCell _ _ _)).trans (KeepsOthers.setCell _ _ _), HKP.out _ ((((Below.refl _ _).setCell (p := ⟨P, 1, none⟩) l2 _).setCell (p := ⟨L, 0, none⟩) l1 _).setCell (p := ⟨L, 1, none⟩) l1 _) (fun k h1 h2 => ?_), ⟨pa, pa, ps + 1, ps + 1, (hL1.set0 _).set1 _, (hP1.away _ (Ne.symm n5)).away _ (Ne.symm n5), (hR1.away _ (Ne.symm n6)).away _ (Ne.symm n6), by simp; omega, by simp; omega, fun ha => ?_⟩, ((hB.setCell (p := ⟨P, 1, none⟩) l2 _).setCell (p := ⟨L, 0, none⟩) l1 _).setCell (p := ⟨L, 1, none⟩) l1 _⟩
    ·rw [heap_setCell_other _ _ _ _ (show k ≠ L from h1), heap_setCell_other _ _ _ _ (show k ≠ L from h1), heap_setCell_other _ _ _ _ (show k ≠ P from h2)]
    ·obtain ⟨e1, e2, e3, e4⟩ := HEQ.out (all_snoc ha).1
     rw [HST.out ha, if_pos ht]
     exact ⟨e3, rfl, e3, rfl⟩
   ·have tt : ¬ (2 : Int) ≤ (ps : Int) + 1 ∨ ((2 : Int) ≤ (ps : Int) + 1 ∧ ¬ (ls : Int) < (ps : Int) + 1) := by omega
    have HT : Hid (¬ (2 ≤ ps + 1 ∧ ls < ps + 1)) := ht
    clear ht
    rcases tt with t1 | ⟨t1, t2⟩
    all_goals
     gi_wp2
     refine ⟨KeepsOthers.setCell _ _ _, HKP.out _ ((Below.refl _ _).setCell (p := ⟨P, 1, none⟩) l2 _) (fun k _ h2 => heap_setCell_other _ _ _ _ (show k ≠ P from h2)), ⟨la, pa, ls, ps + 1, hL1, hP1, hR1, by simp; omega, by simp; omega, fun ha => ?_⟩, hB.setCell (p := ⟨P, 1, none⟩) l2 _⟩
     obtain ⟨e1, e2, e3, e4⟩ := HEQ.out (all_snoc ha).1
     rw [HST.out ha, if_neg HT.out]
     exact ⟨e1, e2, e3, rfl⟩
  ·have hg' : ((g : Int) != 0) = true := by rw [bne_iff_ne]; omega
   gi_wp2
   refine ⟨(KeepsOthers.setCell _ _ _).trans (KeepsOthers.setCell _ _ _), HKP.out _ (((Below.refl _ _).setCell (p := ⟨P, 0, none⟩) l2 _).setCell (p := ⟨P, 1, none⟩) l2 _) (fun k _ h2 => ?_), ⟨la, wrap64 ((i : Int) + 1), ls, 0, (hL.away _ n5).away _ n5, (hP.set0 _).set1 _, (hR.away _ (Ne.symm n7)).away _ (Ne.symm n7), Nat.zero_le _, by simp; omega, fun ha => ?_⟩, (hB.setCell (p := ⟨P, 0, none⟩) l2 _).setCell (p := ⟨P, 1, none⟩) l2 _⟩
   ·rw [heap_setCell_other _ _ _ _ (show k ≠ P from h2), heap_setCell_other _ _ _ _ (show k ≠ P from h2)]
   ·obtain ⟨a1, a2⟩ := all_snoc ha
    obtain ⟨e1, e2, -, -⟩ := HEQ.out a1
    simp only at a2
    rw [rowSt_snoc, astepR, if_pos hg]
    exact ⟨e1, e2, by unfold wrap64; simp only; omega, rfl⟩
 case done =>
  rintro D ys W hD rfl ⟨⟨la, pa, ls, ps, hL, hP, hR, -, -, heq⟩, hB⟩ hK
  obtain ⟨n1, n2, n3, n4, n5, n6, n7, l1, l2, l3⟩ := ne.out
  obtain ⟨e1, e2, -, -⟩ := heq (fun p hp => by have := (numF_mem hp).1; have := HQ.out; omega)
  rw [rowSt_best _ HQ.out] at e1 e2
  have cL0 := hL.cell0
  have cL1 := hL.cell1
  have cR0 := hR.cell0
  have cR1 := hR.cell1
  have fR0 := hR.free 0
  have fR1 := hR.free 1
  have HE : Hid (la = (((bestF 0 (pairsG xs) none).getD (0, 0)).1 : Int) ∧ ls = ((bestF 0 (pairsG xs) none).getD (0, 0)).2) := ⟨e1, e2⟩
  clear e1 e2 heq fA fR fL fP fB aA hP
  gi_wp2
  obtain ⟨X, hX⟩ : ∃ X, ((W.setCell ⟨R, 0, none⟩ (.int .i64 la)).setCell ⟨R, 1, none⟩ (.int .i64 (ls : Int))) = X := ⟨_, rfl⟩
  rw [hX]
  have k1 : KeepsOthers W X := by rw [← hX]; exact (KeepsOthers.setCell _ _ _).trans (KeepsOthers.setCell _ _ _)
  have k2 : BoxTwo X R 183 (.int .i64 la) (.int .i64 (ls : Int)) := by rw [← hX]; exact (hR.set0 _).set1 _
  have k4 : Below w.heap.size w X := by rw [← hX]; exact (hB.setCell (p := ⟨R, 0, none⟩) l3 _).setCell (p := ⟨R, 1, none⟩) l3 _
  clear hX
  have hK' := k1.same D _ hK rfl
  refine ⟨by simp, .inl ⟨_, _, rfl, run_takeDeferred hK', ?_⟩⟩
  have hr : ∀ r, some D = some r → ∃ o : Obj, X.heap[r]? = some o ∧ o.isCells = false := fun r e => by cases e; exact ⟨_, hK', rfl⟩
  refine ⟨_, results_cell_row rfl _ _ R 183 _ (0, 0) _ rfl (k2.keep (grownBy_putObj' _ D (.deferred none)) hr) Tryz.underlying183 rfl (by kernel_rfl), ?_, ?_⟩
  ·rw [HE.out.1, HE.out.2]
  ·exact grown_of (k4.trans (belowK_b (w := w) (Nat.le_refl _) _ D _ _ (by omega) hK' rfl rfl))
 case stop =>
  rintro D c pre W _ _ h _
  exact h.elim
theorem pairs_take : ∀ (k : Nat) (xs : List UInt8), pairsG (xs.take (2 * k)) = (pairsG xs).take k
 | 0, xs => by simp [pairsG]
 | k + 1, [] => by simp [pairsG]
 | k + 1, [_] => by simp [pairsG, show 2 * (k + 1) = 2 * k + 1 + 1 by omega]
 | k + 1, a :: b :: r => by
  rw [show 2 * (k + 1) = 2 * k + 1 + 1 by omega, List.take_succ_cons, List.take_succ_cons, pairsG, pairsG, List.take_succ_cons, pairs_take k r]
theorem pairs_dropG : ∀ (k : Nat) (xs : List UInt8), pairsG (xs.drop (2 * k)) = (pairsG xs).drop k
 | 0, xs => by simp
 | k + 1, [] => by simp [pairsG]
 | k + 1, [_] => by simp [pairsG, show 2 * (k + 1) = 2 * k + 1 + 1 by omega]
 | k + 1, a :: b :: r => by
  rw [show 2 * (k + 1) = 2 * k + 1 + 1 by omega, List.drop_succ_cons, List.drop_succ_cons, pairsG, List.drop_succ_cons, pairs_dropG k r]
theorem aat_part {w : World} {g t : Nat} {xs : List UInt8} (h : AAt w g t xs) (i n : Nat) (hi : i + n ≤ xs.length) : Cells w (some ⟨g, i, none⟩) ((xs.drop i).take n) := by
 refine ⟨fun e => (by cases e), fun ad e k hk => ?_⟩
 cases e
 rw [Addr.add_lit]
 have hk' : k < n := by rw [List.length_take] at hk; omega
 have := h.cell (i := i + k) (by omega)
 rw [this]
 simp [bv]
abbrev BoxP (wb : World) (B : Nat) (u v : Value) (W : World) : Prop := W.cell? ⟨B, 0, none⟩ = some u ∧ W.cell? ⟨B, 1, none⟩ = some v ∧ wb.grownBy W none
theorem boxp_call {wb W W' : World} {B : Nat} {u v : Value} (K : W.grownBy W' none) (h : BoxP wb B u v W) : BoxP wb B u v W' := ⟨K.cell h.1 (by simp), K.cell h.2.1 (by simp), grown_trans h.2.2 K⟩
theorem boxp_drew {wb W : World} {B : Nat} {u v : Value} (h : BoxP wb B u v W) : BoxP wb B u v W.drew := boxp_call (grown_drewN W 1 none) h
set_option maxRecDepth 100000 in
set_option maxHeartbeats 4000000 in
theorem print6_any (xs : List UInt8) (w : World) (h16 : xs.length = 16) (T : TabA w) :
  Calls Tryz.prog 166 #[.agg (xs.map bv).toArray] w fun e w' => e = .returned (str (print6V (pairsG xs))) ∧ w.grownBy w' none := by
 have HT : Hid (TabA w) := T
 have CL : Hid (∀ W : World, Calls Tryz.prog 183 #[.agg (xs.map bv).toArray] W fun e w' => e = .returned (.agg #[.int .i64 (((bestF 0 (pairsG xs) none).getD (0, 0)).1 : Int), .int .i64 (((bestF 0 (pairsG xs) none).getD (0, 0)).2 : Int)]) ∧ W.grownBy w' none) := fun W => longest_any xs W h16
 have HZ : Hid ((Tryz.prog.info? 41).map (·.size) = some (xs.map bv).toArray.size) := by
  show _ = _
  rw [bv_size, h16]; exact size41
 have A0 := AAt.alloc w 41 xs
 have G0 := World.grownBy_alloc w (.cells (xs.map bv).toArray 41) none
 have hh := pairs_half xs
 clear T
 go_enter Tryz.func166, Tryz.ntmps166
 go_wp2_with (refine wpList_load_row rfl 41 (.tmp 1) rfl w.heap.size rfl 41 (xs.map bv).toArray (0, 0) _ A0 Tryz.underlying41 rfl HZ.out ?_)
 refine (CL.out _).mono ?_
 rintro e w1 ⟨rfl, K1⟩
 have A1 := A0.grown K1 (by simp)
 have G1 := grown_trans G0 K1
 clear A0 G0 K1 CL
 have H16 : Hid (xs.length = 16) := h16
 have HH : Hid ((pairsG xs).length = 8) := by show _ = 8; omega
 clear h16 hh HZ
 obtain ⟨A, hA⟩ : ∃ A, w.heap.size = A := ⟨_, rfl⟩
 rw [hA] at A1
 rw [show (Value.pointer (some ⟨w.heap.size, 0, none⟩)) = .pointer (some ⟨A, 0, none⟩) by rw [hA]]
 clear hA
 cases hb : bestF 0 (pairsG xs) none with
 | none =>
  have HP : Hid (print6V (pairsG xs) = joinV 58 ((pairsG xs).map shortV)) := by show _ = _; rw [print6V, hb]
  dsimp only [Option.getD_none]
  clear hb
  have A2 := A1.grown (World.grownBy_alloc w1 (.cells #[.int .i64 0, .int .i64 0] 183) none) (by simp)
  have G2 := grown_trans G1 (World.grownBy_alloc w1 (.cells #[.int .i64 0, .int .i64 0] 183) none)
  have CP := fun W h t => printed_any (some ⟨A, 0, none⟩) 16 xs W h (by have := H16.out; omega) t
  rw [H16.out] at CP
  rw [show ((0 : Nat) : Int) = 0 from rfl]
  go_wp2_with (go_at_call 184; refine (CP _ (aat_cells A2) (HT.out.grown G2)).mono ?_; rintro e w2 ⟨rfl, K2⟩)
  go_ret
  exact ⟨by rw [HP.out]; rfl, grown_trans G2 K2⟩
 | some p =>
  obtain ⟨h1, h2, -⟩ := best_row (pairsG xs) p hb
  obtain ⟨i, n⟩ := p
  simp only at h1 h2
  have h8 : i + n ≤ 8 := by have := HH.out; omega
  have HP : Hid (print6V (pairsG xs) = joinV 58 (((pairsG xs).take i).map shortV) ++ (58 :: 58 :: joinV 58 (((pairsG xs).drop (i + n)).map shortV))) := by show _ = _; rw [print6V, hb]
  dsimp only [Option.getD_some]
  clear hb h2
  have z0 : ((n : Int) == 0) = false := by rw [beq_eq_false_iff_ne]; omega
  have A2 := A1.grown (World.grownBy_alloc w1 (.cells #[.int .i64 (i : Int), .int .i64 (n : Int)] 183) none) (by simp)
  have G2 := grown_trans G1 (World.grownBy_alloc w1 (.cells #[.int .i64 (i : Int), .int .i64 (n : Int)] 183) none)
  have C2 := cv_lit w1 183 [.int .i64 (i : Int), .int .i64 (n : Int)]
  have c0 : (w1.alloc (.cells #[.int .i64 (i : Int), .int .i64 (n : Int)] 183)).cell? ⟨w1.heap.size, 0, none⟩ = some (.int .i64 (i : Int)) := C2.2 _ rfl 0 (by simp)
  have c1 : (w1.alloc (.cells #[.int .i64 (i : Int), .int .i64 (n : Int)] 183)).cell? ⟨w1.heap.size, 1, none⟩ = some (.int .i64 (n : Int)) := C2.2 _ rfl 1 (by simp)
  have hle1 : 2 * (i : Int) ≤ 16 := by omega
  have hle2 : 2 * ((i : Int) + (n : Int)) ≤ 16 := by omega
  go_wp2_with fail
  clear C2 A1 G1
  generalize hwb : w1.alloc (.cells #[.int .i64 (i : Int), .int .i64 (n : Int)] 183) = wb at *
  generalize w1.heap.size = B at *
  clear hwb
  obtain ⟨k, hk⟩ : ∃ k, 2 * i = k := ⟨_, rfl⟩
  obtain ⟨q, hq⟩ : ∃ q, i + n = q := ⟨_, rfl⟩
  obtain ⟨r, hr⟩ : ∃ r, 2 * q = r := ⟨_, rfl⟩
  have hw1 : IntKind.i64.wrap (2 * (i : Int)) = (k : Int) := by rw [IntKind.wrap_i64]; omega
  have hw2 : IntKind.i64.wrap ((i : Int) + (n : Int)) = (q : Int) := by rw [IntKind.wrap_i64]; omega
  have hw3 : IntKind.i64.wrap (2 * (q : Int)) = (r : Int) := by rw [IntKind.wrap_i64]; omega
  have k0 : (0 : Int) ≤ (k : Int) := by omega
  have k16 : (k : Int) ≤ 16 := by omega
  have r0 : (0 : Int) ≤ (r : Int) := by omega
  have r16 : (r : Int) ≤ 16 := by omega
  have HK : Hid (2 * i = k ∧ 2 * (i + n) = r) := ⟨hk, by omega⟩
  clear hk hq hr hle1 hle2
  have B0 : BoxP wb B (.int .i64 (i : Int)) (.int .i64 (n : Int)) wb.drew := boxp_drew ⟨c0, c1, World.grownBy.refl _ _⟩
  have e1 : (xs.drop 0).take k = xs.take (2 * i) := by rw [List.drop_zero, HK.out.1]
  have e2 : (xs.drop r).take (16 - r) = xs.drop (2 * (i + n)) := by rw [HK.out.2, List.take_of_length_le (by rw [List.length_drop]; have := H16.out; omega)]
  have l1 : (xs.take (2 * i)).length = k := by rw [List.length_take]; have := H16.out; have := HK.out.1; omega
  have l2 : (xs.drop (2 * (i + n))).length = 16 - r := by rw [List.length_drop]; have := H16.out; have := HK.out.2; omega
  have CP1 : Hid (∀ W : World, wb.grownBy W none → Calls Tryz.prog 184 #[.slice (some ⟨A, 0, none⟩) k 16] W fun e w' => e = .returned (str (joinV 58 (((pairsG xs).take i).map shortV))) ∧ W.grownBy w' none) := fun W G => by
   have c := aat_part (A2.grown G (by simp)) 0 k (by have := H16.out; omega)
   rw [e1] at c
   have h := printed_any (some ⟨A, 0, none⟩) 16 (xs.take (2 * i)) W c (by omega) (HT.out.grown (grown_trans G2 G))
   rw [l1, pairs_take] at h
   exact h
  have CP2 : Hid (∀ W : World, wb.grownBy W none → Calls Tryz.prog 184 #[.slice (some (if 16 = r then ⟨A, 0, none⟩ else ⟨A, r, none⟩)) (16 - r) (16 - r)] W fun e w' => e = .returned (str (joinV 58 (((pairsG xs).drop (i + n)).map shortV))) ∧ W.grownBy w' none) := fun W G => by
   have c : Cells W (some (if 16 = r then ⟨A, 0, none⟩ else ⟨A, r, none⟩)) (xs.drop (2 * (i + n))) := by
    by_cases hr : 16 = r
    ·have hnil : xs.drop (2 * (i + n)) = [] := List.eq_nil_of_length_eq_zero (by omega)
     rw [hnil]
     exact ⟨fun _ => rfl, fun ad _ j hj => absurd hj (by simp)⟩
    ·rw [if_neg hr]
     have c := aat_part (A2.grown G (by simp)) r (16 - r) (by have := H16.out; omega)
     rw [e2] at c
     exact c
   have h := printed_any (some (if 16 = r then ⟨A, 0, none⟩ else ⟨A, r, none⟩)) (16 - r) (xs.drop (2 * (i + n))) W c (by omega) (HT.out.grown (grown_trans G2 G))
   rw [l2, pairs_dropG] at h
   exact h
  have HG2 : Hid (w.grownBy wb none) := G2
  clear e1 e2 l1 l2 A2 G2
  have pl : ∀ zs : List Nat, ∀ l ∈ zs.map shortV, l.length ≤ 4 := fun zs l hl => by
   obtain ⟨g, -, rfl⟩ := List.mem_map.1 hl
   exact (short_piece g).2.2.1
  have ht1 : (joinV 58 (((pairsG xs).take i).map shortV)).length ≤ 40 := by
   have := join_len 58 _ 4 (pl ((pairsG xs).take i))
   rw [List.length_map, List.length_take] at this
   have := HH.out
   omega
  have ht2 : (joinV 58 (((pairsG xs).drop (i + n)).map shortV)).length ≤ 40 := by
   have := join_len 58 _ 4 (pl ((pairsG xs).drop (i + n)))
   rw [List.length_map, List.length_drop] at this
   have := HH.out
   omega
  clear pl
  generalize joinV 58 (((pairsG xs).take i).map shortV) = t1 at *
  generalize joinV 58 (((pairsG xs).drop (i + n)).map shortV) = t2 at *
  have hbig1 : ¬ 9223372036854775807 < t1.length + 2 := by omega
  have hbig2 : ¬ 9223372036854775807 < t1.length + 2 + t2.length := by omega
  go_region_held3 (fun W => W.cell? ⟨B, 0, none⟩ = some (.int .i64 (i : Int)) ∧ W.cell? ⟨B, 1, none⟩ = some (.int .i64 (n : Int)) ∧ wb.grownBy W none) (first | exact boxp_call K (by assumption) | (with_reducible assumption) | exact B0) (first | (go_at_call_of 184 (Value.slice (some ⟨A, 0, none⟩) k 16); refine (CP1.out _ (by exact (by assumption : BoxP wb B (.int .i64 (i : Int)) (.int .i64 (n : Int)) _).2.2)).mono ?_; rintro e w' ⟨rfl, K⟩; dsimp only) | (go_at_call 184; refine (CP2.out _ (by exact (by assumption : BoxP wb B (.int .i64 (i : Int)) (.int .i64 (n : Int)) _).2.2)).mono ?_; rintro e w' ⟨rfl, K⟩; dsimp only))
  have KF := (by assumption : BoxP wb B (.int .i64 (i : Int)) (.int .i64 (n : Int)) w')
  have ec : ((⟨t1.toArray⟩ : ByteArray) ++ (⟨#[58, 58]⟩ : ByteArray) ++ (⟨t2.toArray⟩ : ByteArray)) = ⟨(t1 ++ 58 :: 58 :: t2).toArray⟩ := by
   rw [show (⟨#[58, 58]⟩ : ByteArray) = ⟨([58, 58] : List UInt8).toArray⟩ from rfl, cat, cat, List.append_assoc]
   rfl
  have HEC : Hid (((⟨t1.toArray⟩ : ByteArray) ++ (⟨#[58, 58]⟩ : ByteArray) ++ (⟨t2.toArray⟩ : ByteArray)) = ⟨(t1 ++ 58 :: 58 :: t2).toArray⟩) := ec
  clear ec
  go_wp2
  all_goals
   go_ret
   refine ⟨?_, grown_trans HG2.out KF.2.2⟩
   rw [HP.out]
   show Ending.returned (.string ((⟨t1.toArray⟩ : ByteArray) ++ (⟨#[58, 58]⟩ : ByteArray) ++ (⟨t2.toArray⟩ : ByteArray))) = _
   rw [HEC.out]
set_option maxRecDepth 100000 in
set_option maxHeartbeats 8000000 in
theorem shadr_any (x : Ng) (w : World) (T : TabA w) : Calls Tryz.prog 138 #[.agg x.cells.toArray] w fun e w' => e = .returned (str (adrT x)) ∧ w.grownBy w' none := by
 have HT : Hid (TabA w) := T
 clear T
 have HBX := box_ng x
 have h3 := World.grownBy_alloc w (.cells x.cells.toArray 43) none
 have V := NB.alloc w x
 have HAL : Hid ((adgs x).length = 16) := adgs_len x
 obtain ⟨X, hX⟩ : ∃ X, x.cells.toArray = X := ⟨_, rfl⟩
 rw [hX] at HBX ⊢
 go_enter Tryz.func138, Tryz.ntmps138
 go_upto_region 1 with fail
 rw [← hX] at *
 generalize w.alloc (.cells x.cells.toArray 43) = w1 at *
 generalize w.heap.size = B at *
 have c5 := V.of
 have HAR : Hid (w1.rangeAt B 7 ((adgs x).map bv)) := V.addr
 have HSZ : Hid ((Tryz.prog.info? 41).map (·.size) = some ((adgs x).map bv).length) := size_arr16 x
 clear HBX hX X V
 by_cases h : x.of = 3
 ·have t3 : (x.of == 3) = true := by simpa using h
  have HE : Hid (adrT x = print6V (pairsG (adgs x))) := by unfold Hid adrT; rw [if_pos h]
  have CP := print6_any (adgs x) w1 HAL.out (HT.out.grown h3)
  generalize adgs x = al at *
  clear h
  go_wp2_with (refine wpList_load_mid rfl 41 (.tmp 7) rfl B 7 rfl (al.map bv) _ HAR.out Tryz.underlying41 rfl HSZ.out ?_)
  refine CP.mono ?_
  rintro e w2 ⟨rfl, K2⟩
  go_wp2
  go_ret
  exact ⟨by rw [HE.out]; rfl, grown_trans h3 K2⟩
 ·have t3 : (x.of == 3) = false := by simpa using h
  have HE : Hid (adrT x = print4V ((adgs x).take 4)) := by unfold Hid adrT; rw [if_neg h]
  clear h
  go_upto_region 4 with fail
  have V2 := VAt.alloc w1 114 #[.int .u8 0, .int .u8 0, .int .u8 0, .int .u8 0]
  have K2 := World.grownBy_alloc w1 (.cells #[.int .u8 0, .int .u8 0, .int .u8 0, .int .u8 0] 114) none
  generalize w1.alloc (.cells #[.int .u8 0, .int .u8 0, .int .u8 0, .int .u8 0] 114) = w2 at *
  have HGW : Hid (w.grownBy w2 none ∧ w.heap.size ≤ w1.heap.size) := ⟨grown_trans h3 K2, h3.size⟩
  have HR2 : Hid (w2.rangeAt B 7 ((adgs x).map bv)) := fun j v hv => K2.cell (HAR.out j v hv) (by simp)
  generalize w1.heap.size = D at *
  obtain ⟨ys, hys⟩ : ∃ ys, (adgs x).take 4 = ys := ⟨_, rfl⟩
  have hy4 : ys.length = 4 := by rw [← hys, List.length_take, HAL.out]; rfl
  rw [hys] at HE
  have HR6 : Hid (w2.heap[D]? = some (.cells (List.replicate 4 (.int .u8 0)).toArray 114 (0, 0))) := V2
  have HC6 : Hid (∀ j v, (ys.map bv)[j]? = some v → w2.cell? ((⟨B, 7, none⟩ : Addr).add j) = some v) := fun j v hj => by
   rw [Addr.add_mid]
   refine HR2.out j v ?_
   rw [← hys, List.map_take, List.getElem?_take] at hj
   split at hj
   ·exact hj
   ·cases hj
  have HB6 : Hid (Below D w2 w2.drew) := (Below.refl D w2).grown (grown_drewN w2 1 none) (Nat.le_of_lt V2.lt) (by simp)
  have hl4 : (ys.map bv).length = 4 := by rw [List.length_map]; exact hy4
  have hsz5 : (Tryz.prog.info? 5).map (·.size) = some 1 := by kernel_rfl
  clear K2 V2 h3
  go_region_law (refine step_copy_splice rfl (.tmp 10) (.tmp 12) 115 115 rfl 5 Tryz.underlying115 hsz5 (some ⟨D, 0, none⟩) (some ⟨B, 7, none⟩) 4 4 16 16 (by first | rfl | simp [Act.eval]) (by first | rfl | simp [Act.eval]) D 0 (List.replicate 4 (.int .u8 0)) 114 (by exact HR6.out) (ys.map bv) (by rw [hl4]; rfl) (fun _ => ⟨rfl, _, rfl, by exact HC6.out⟩) (by rw [hl4]; simp) (bv_one ys) D w2 (by exact HB6.out) (Nat.le_refl _) ?_; intro w7 hg7 hb7)
  have RA7 : VAt w7 D 114 (ys.map bv).toArray := by
   unfold VAt
   rw [hg7.out, splice_all4 ys hy4]
  have G7 : w.grownBy w7 none := ⟨hb7.os.trans HGW.out.1.os, hb7.tape.trans HGW.out.1.tape, hb7.output.trans HGW.out.1.output, Nat.le_trans HGW.out.1.size hb7.size, fun k hk hne => (hb7.block k (by have := HGW.out.2; omega)).trans (HGW.out.1.block k hk hne)⟩
  have CP := print4_any ys w7 hy4 (HT.out.grown G7)
  have HZ4 : Hid ((Tryz.prog.info? 114).map (·.size) = some (ys.map bv).toArray.size) := by unfold Hid; rw [bv_size, hy4]; exact size114
  clear hg7 hb7 HR6 HC6 HB6 hl4 hsz5
  go_wp2_with (refine wpList_load_row rfl 114 (.tmp 3) rfl D rfl 114 (ys.map bv).toArray (0, 0) _ RA7 Tryz.underlying114 rfl HZ4.out ?_)
  refine CP.mono ?_
  rintro e w8 ⟨rfl, K8⟩
  go_wp2
  go_ret
  exact ⟨by rw [HE.out]; rfl, grown_trans G7 K8⟩

end Go.Proofs.YtklipelnjgpnjaaGreatDoor
