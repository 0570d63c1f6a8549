/-
  Package addr: groups as text.
-/
import Derived.Test.YtbklagdegnflgaaDoorAddrH3
import Derived.Test.YtbklagdegnflgaaDoorAddrI
import Derived.Test.YtbklagdegnflgaaDoorAddrG
import Derived.Test.YtbklagdegnflgaaDoorHex
import Derived.Maps.AppendAt
namespace Go.Proofs.YtbklagdegnflgaaDoor
open Go.RowKit Go.Shelf
set_option maxRecDepth 100000

attribute [local go_sem] Oper.semAt_some

/-- The text when these groups have come. -/
def txtU (pre : List (Nat × UInt16)) : List UInt8 := pre.foldl (fun t p => (if 0 < p.1 then t ++ [58] else t) ++ shortV p.2.toNat) []
theorem txtU_snoc (pre : List (Nat × UInt16)) (x : Nat × UInt16) : txtU (pre ++ [x]) = (if 0 < x.1 then txtU pre ++ [58] else txtU pre) ++ shortV x.2.toNat := by simp [txtU]
theorem txtU_len (pre : List (Nat × UInt16)) : (txtU pre).length ≤ 5 * pre.length := by
  have key : ∀ (l : List (Nat × UInt16)) (a : List UInt8), (l.foldl (fun t p => (if 0 < p.1 then t ++ [58] else t) ++ shortV p.2.toNat) a).length ≤ a.length + 5 * l.length := by
    intro l
    induction l with
    | nil => intro a; simp
    | cons x r ih =>
      intro a
      rw [List.foldl_cons]
      have h1 := ih ((if 0 < x.1 then a ++ [58] else a) ++ shortV x.2.toNat)
      have h2 := (short_piece x.2.toNat).2.2.1
      have h3 : (if 0 < x.1 then a ++ [58] else a).length ≤ a.length + 1 := by split <;> simp
      rw [List.length_append] at h1
      simp only [List.length_cons]
      omega
  have := key pre []
  simpa [txtU] using this
theorem txtU_join (gs : List Nat) (hg : ∀ g ∈ gs, g < 65536) : txtU (numU gs) = joinV 58 (gs.map shortV) := by
  have key : ∀ n (gs : List Nat), gs.length = n → (∀ g ∈ gs, g < 65536) → txtU (numU gs) = joinV 58 (gs.map shortV) := by
    intro n
    induction n with
    | zero =>
      intro gs hn _
      obtain rfl : gs = [] := List.eq_nil_of_length_eq_zero hn
      rfl
    | succ n ih =>
      intro gs hn hg
      have hne : gs ≠ [] := fun e => by rw [e] at hn; cases hn
      obtain ⟨r, x, rfl⟩ : ∃ r x, gs = r ++ [x] := ⟨gs.dropLast, gs.getLast hne, (List.dropLast_concat_getLast hne).symm⟩
      have hr : r.length = n := by simpa using hn
      have hx := hg x (by simp)
      rw [numU_snoc, txtU_snoc, ih r hr (fun g hm => hg g (by simp [hm])), List.map_append, List.map_singleton, join_snoc]
      simp only
      rw [UInt16.toNat_ofNat_of_lt' hx]
      by_cases h0 : r = []
      · subst h0; simp [joinV]
      · have h1 : 0 < r.length := List.length_pos_iff.2 h0
        have h2 : ¬ (r.map shortV = []) := by simpa using h0
        rw [if_pos h1, if_neg h2]
        simp
  exact key gs.length gs rfl hg

theorem ap_others {B : Nat} {w w' : World} (h : Ap B w w') : KeepsOthers w w' := ⟨h.size, fun k o hk hc => h.2 k o hk (by simp) (fun c fz e => by subst e; cases hc)⟩
theorem ap_box {B b : Nat} {w w' : World} {t : TypeId} {v : Value} (h : Ap B w w') (hb : Boxed w b t v) (ht : t ≠ 5) : Boxed w' b t v := h.heap hb ht

/-- Between two rounds. -/
def IU (w : World) (O Bb : Nat) (sv : Value) (pre : List (Nat × UInt16)) (W : World) : Prop :=
  ((∃ v, Boxed W O 34 v ∧ W.ownsRow w.heap.size 5 1 v (txtU pre).length ((txtU pre).map bv) ∧ True) ∧ Boxed W Bb 34 sv) ∧ Below w.heap.size w W
theorem IU_own (w : World) (O Bb : Nat) (sv : Value) (B : Nat) (hB : w.heap.size ≤ B) : OwnFrom B (IU w O Bb sv) :=
  OwnFrom.and (OwnFrom.and (Own.from (holdsRow_own w.heap.size O 34 5 1 (fun pre => (txtU pre).length) (fun pre => (txtU pre).map bv) (fun _ _ => True)) _) (Own.from (fun _ _ _ _ hs hg hr => box_keep hs hg hr) _)) (ownFrom_below (Nat.le_refl _) hB)

theorem printed_world (w : World) (v : Value) : ∀ W0, ((w.alloc (.cells #[.slice none 0 0] 34)).alloc (.cells #[v] 34)) = W0 →
    Boxed W0 w.heap.size 34 (.slice none 0 0) ∧ Boxed W0 (w.heap.size + 1) 34 v ∧ w.grownBy W0 none ∧ W0.heap.size = w.heap.size + 2 := by
  rintro W0 rfl
  exact ⟨hkeep (hnew _ _ _ rfl) _, hnew _ _ _ (by simp only [World.size_alloc]), grown_trans (World.grownBy_alloc _ _ _) (World.grownBy_alloc _ _ _), by simp only [World.size_alloc]⟩

set_option maxRecDepth 100000 in
set_option maxHeartbeats 4000000 in
theorem printed_any (ao : Option Addr) (ca : Nat) (xs : List UInt8) (w : World) (hc : Cells w ao xs) (h16 : xs.length ≤ 16) (T : Tab w) :
    Calls Tryd.prog 40 #[.slice ao xs.length ca] w fun e w' => e = .returned (str (joinV 58 ((pairsG xs).map shortV))) ∧ w.grownBy w' none := by
  obtain ⟨i0, hi, hz0, hz1, hz2⟩ := info_parts info5
  have HT : Hid (Tab w) := T
  have HC : Hid (Cells w ao xs) := hc
  have h3 := T.size
  have hq : (pairsG xs).length ≤ 8 := by have := pairs_half xs; omega
  clear T hc
  refine (callsIn_wide (n := 3)).1 ?_
  refine callsIn_of_wp_marks Tryd.func40 rfl trivial ?_ rfl
  simp only [Tryd.ntmps40, List.size_toArray, List.length_cons, List.length_nil, Nat.reduceAdd, Nat.reduceSub, Array.replicate_succ, Array.replicate_zero, List.push_toArray, List.append_toArray, List.nil_append, List.cons_append]
  gi_wp2_with (refine ⟨trivial, ?_⟩; gi_at_call 52; refine (callsIn_wide.2 (pairs_any _ _ _ _)).mono ?_; rintro e w' ⟨rfl, rfl⟩)
  obtain ⟨W0, hW0⟩ : ∃ W0, ((w.alloc (.cells #[.slice none 0 0] 34)).alloc (.cells #[.slice ao xs.length ca] 34)) = W0 := ⟨_, rfl⟩
  obtain ⟨fO, fB, G0, hsz⟩ := printed_world w (.slice ao xs.length ca) W0 hW0
  rw [hW0]
  clear hW0
  obtain ⟨Bb, hBb⟩ : ∃ k, w.heap.size + 1 = k := ⟨_, rfl⟩
  rw [hBb] at fB ⊢
  obtain ⟨O, hO⟩ : ∃ k, w.heap.size = k := ⟨_, rfl⟩
  rw [show (Value.pointer (some ⟨w.heap.size, 0, none⟩)) = .pointer (some ⟨O, 0, none⟩) by rw [hO]]
  rw [hO] at fO
  have ne : Hid (Bb ≠ O ∧ w.heap.size ≤ O) := by
    refine ⟨?_, ?_⟩ <;> omega
  clear hBb hO
  have hle : w.heap.size ≤ W0.heap.size := G0.size
  refine wpIn_rangeFunc_ownF rfl (by omega) (gf := 62) (lb := #[.pointer (some ⟨Bb, 0, none⟩)]) rfl trivial (enters_of Tryd.func62 (by kernel_rfl) rfl)
    (pairsU_stops _ (by omega) Bb w.heap.size (fun k => k = Bb) ao ca xs (by omega) (.inl rfl) (fun ad e hx => .inl (HC.out.under ad e hx)) W0 fB.cell (HC.out.keptNone G0))
    (fun h k => h.trans k) (Kp.book hle) (Below.refl _ _) (fun _ => rfl)
    (IU w O Bb (.slice ao xs.length ca)) (fun _ _ _ => False) (IU_own w O Bb (.slice ao xs.length ca) _ hle) (fun _ _ _ _ _ hs _ _ => hs)
    ⟨⟨⟨_, fO, World.ownsRow_nil _ _ _ _, trivial⟩, fB⟩, below_of G0⟩
    (fun x => { tmps := #[.slice ao xs.length ca, undef, .string ⟨#[]⟩, .pointer (some ⟨O, 0, none⟩), .int .i64 (x.1 : Int), .int .u32 (x.2.toNat : Int), .slice ao xs.length ca, .func (.func 62) #[] #[.pointer (some ⟨Bb, 0, none⟩)], .int .i64 (x.1 : Int), .int .u32 (x.2.toNat : Int), undef, undef, undef, undef, undef, undef, undef, undef, undef, undef, undef], defers := [] }) ?assign ?body ?done ?stop
  case assign =>
    intro l x W K hK
    gi_wp2
    exact hK
  case body =>
    rintro l pre ⟨i, g⟩ W ⟨⟨⟨v, hO, hrow, -⟩, hBx⟩, hB⟩ hlen
    obtain ⟨n1, l1⟩ := ne.out
    have g16 := g.toNat_lt
    have htl : (txtU pre).length ≤ 40 := by have := txtU_len pre; omega
    have hB' := hB.size
    have HTW : Hid (∀ X : World, Below w.heap.size w X → Tab X) := fun X h => HT.out.below h3 h
    have HTX : Hid (txtU (pre ++ [(i, g)]) = (if 0 < i then txtU pre ++ [58] else txtU pre) ++ shortV g.toNat) := txtU_snoc pre (i, g)
    obtain ⟨ap, cap, rfl, -⟩ := cv_of_row hrow
    -- what the second half leaves
    have fin : ∀ (W1 w2 : World) (v1 v2 : Value) (ys : List UInt8), KeepsOthers W W1 → Below w.heap.size W W1 → Boxed W1 O 34 v1 → Boxed W1 Bb 34 (.slice ao xs.length ca) → Ap w.heap.size W1 w2 → Owns w2 w.heap.size v2 (ys ++ shortV g.toNat) → ys = (if 0 < i then txtU pre ++ [58] else txtU pre) →
        ownPostK (Kp w.heap.size fun k => k = Bb) (IU w O Bb (.slice ao xs.length ca)) (fun _ _ _ => False) (pre ++ [(i, g)]) W .normal { tmps := #[], defers := [] } (w2.setCell ⟨O, 0, none⟩ v2) := fun W1 w2 v1 v2 ys k1 b1 o1 x1 a2 o2 hy => by
      have o3 := ap_box a2 o1 (by decide)
      have x3 := box_away (i := 0) v2 (ap_box a2 x1 (by decide)) n1
      have b3 : Below w.heap.size W (w2.setCell ⟨O, 0, none⟩ v2) := (b1.trans a2.1).setCell (p := ⟨O, 0, none⟩) l1 _
      refine ⟨(k1.trans (ap_others a2)).trans (KeepsOthers.setCell _ _ _), ⟨b3, ?_⟩, ⟨⟨v2, o3.set _, ?_, trivial⟩, x3⟩, hB.trans b3⟩
      · rintro k o rfl ho -
        unfold Boxed at hBx x3
        rw [hBx] at ho
        rw [x3]
        exact ho
      · rw [HTX.out, ← hy]
        exact o2.kept (grownBy_setCell' w2 O v2) (.inr (o3.not_row (by decide) o2).symm)
    have HF : Hid (∀ (W1 w2 : World) (v1 v2 : Value) (ys : List UInt8), KeepsOthers W W1 → Below w.heap.size W W1 → Boxed W1 O 34 v1 → Boxed W1 Bb 34 (.slice ao xs.length ca) → Ap w.heap.size W1 w2 → Owns w2 w.heap.size v2 (ys ++ shortV g.toNat) → ys = (if 0 < i then txtU pre ++ [58] else txtU pre) →
        ownPostK (Kp w.heap.size fun k => k = Bb) (IU w O Bb (.slice ao xs.length ca)) (fun _ _ _ => False) (pre ++ [(i, g)]) W .normal { tmps := #[], defers := [] } (w2.setCell ⟨O, 0, none⟩ v2)) := fin
    clear fin fO fB HTX
    generalize txtU pre = ys at *
    have hc1 := hO.cell
    have hf1 := hO.frozen
    by_cases hi0 : 0 < i
    · have hi' : (0 : Int) < (i : Int) := by omega
      gi_wp2_with (first
        | (gi_at_builtin; refine wpListIn_append_own _ rfl _ _ 34 rfl w.heap.size 5 i0 (.int .u8 0) 1 1 Tryd.underlying34 hi hz0 hz1 hz2 rfl (by decide) _ _ _ rfl (hrow.alloc _) ⟨W.heap.size, 0, none⟩ 1 1 [bv 58] rfl rfl (cell_one_new _ _ _) (by simp [Value.oneCell', bv]) (by unfold maxLen; omega) (by omega) (by simp; omega) ?_; intro v' w1 hown' hgrow _; obtain ⟨g', cap', rfl⟩ := ownsRow_succ hown'; obtain ⟨hv1, hv2, hr2, hk2, hb2⟩ := hO.appended (by decide) hrow (by omega) l1 hown' hgrow; have hc2 := hv1.cell; have hf2 := hv1.frozen; have hc3 := hv2.cell; have hf3 := hv2.frozen)
        | (refine ⟨trivial, ?_⟩; gi_at_call 32; refine (CallsIn.inRound l (callsIn_wide.2 (append_hex w.heap.size g.toNat _ (ys ++ [58]) _ g16 (by unfold Owns; rw [List.length_append, List.map_append]; exact hr2) (by have := hb2.size; omega) (by rw [List.length_append]; simp only [List.length_cons, List.length_nil]; omega) (HTW.out _ (hB.trans hb2))))).mono ?_; rintro e w2 ⟨v2, rfl, O2, A2⟩; obtain ⟨ap2, cap2, rfl, -⟩ := cv_of_row O2; have b2 := ap_box A2 hv2 (by decide); have hc4 := b2.cell; have hf4 := b2.frozen))
      have x1 := box_away (i := 0) (.slice (some ⟨g', 0, none⟩) (ys.length + 1) cap') ((hBx.alloc _).kept hgrow (hBx.not_row (by decide) hrow)) n1
      have e : ys.length + ((shortV g.toNat).length + 1) = (ys ++ [58] ++ shortV g.toNat).length := by simp only [List.length_append, List.length_cons, List.length_nil]; omega
      exact HF.out _ w2 _ _ (ys ++ [58]) hk2 hb2 hv2 x1 A2 (by rw [e]; exact O2) (by rw [if_pos hi0])
    · have hi' : ¬ (0 : Int) < (i : Int) := by omega
      have CA := append_hex w.heap.size g.toNat (.slice ap ys.length cap) ys W g16 hrow hB' (by omega) (HTW.out _ hB)
      gi_wp2_with (refine ⟨trivial, ?_⟩; gi_at_call 32; refine (CallsIn.inRound l (callsIn_wide.2 CA)).mono ?_; rintro e w2 ⟨v2, rfl, O2, A2⟩; obtain ⟨ap2, cap2, rfl, -⟩ := cv_of_row O2; have b2 := ap_box A2 hO (by decide); have hc2 := b2.cell; have hf2 := b2.frozen)
      exact HF.out W w2 _ _ ys (KeepsOthers.refl _) (Below.refl _ _) hO hBx A2 (by rw [List.length_append] at O2; exact O2) (by rw [if_neg hi0])
  case done =>
    rintro D ys W hD rfl ⟨⟨⟨v, hO, hrow, -⟩, -⟩, hB⟩ hK
    rw [txtU_join _ (pairs_lt xs)] at hrow
    have hcO := hO.cell
    obtain ⟨ap, cap, rfl, -⟩ := cv_of_row hrow
    have hcv := run_str (P := Tryd.prog) (w := W) (base := w.heap.size) (ys := joinV 58 ((pairsG xs).map shortV)) hrow 34 9 Tryd.underlying34 Tryd.underlying5 Tryd.underlying9
    clear fO fB
    gi_wp2
    refine ⟨by simp, .inl ⟨_, _, rfl, run_takeDeferred hK, ?_⟩⟩
    exact ⟨_, results_tmp rfl _ _ _, rfl, grown_of (hB.trans (belowK_b (w := w) (Nat.le_refl _) W D _ _ (by omega) hK rfl rfl))⟩
  case stop =>
    rintro D c pre W _ _ h _
    exact h.elim

end Go.Proofs.YtbklagdegnflgaaDoor
