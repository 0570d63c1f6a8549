/-
  Package addr: the longest row of noughts.
-/
import Derived.Test.YtbklagdegnflgaaDoorAddrH2
import Derived.Test.YtbklagdegnflgaaDoorAddrI
namespace Go.Proofs.YtbklagdegnflgaaDoor
open Go.RowKit Go.Shelf
set_option maxRecDepth 100000

attribute [local go_sem] Oper.semAt_some

/-- The longest row so far, and the one that is open. -/
def stepR (q : (Nat × Nat) × (Nat × Nat)) (x : Nat × Nat) : (Nat × Nat) × (Nat × Nat) :=
  if x.2 ≠ 0 then (q.1, (x.1 + 1, 0)) else (if 2 ≤ q.2.2 + 1 ∧ q.1.2 < q.2.2 + 1 then (q.2.1, q.2.2 + 1) else q.1, (q.2.1, q.2.2 + 1))
def rowSt (pre : List (Nat × Nat)) : (Nat × Nat) × (Nat × Nat) := pre.foldl stepR ((0, 0), (0, 0))
theorem rowSt_snoc (pre : List (Nat × Nat)) (x : Nat × Nat) : rowSt (pre ++ [x]) = stepR (rowSt pre) x := by simp [rowSt]

/-- The same, of noughts alone. -/
def stepRB (q : (Nat × Nat) × (Nat × Nat)) (x : Nat × Bool) : (Nat × Nat) × (Nat × Nat) :=
  if x.2 = false then (q.1, (x.1 + 1, 0)) else (if 2 ≤ q.2.2 + 1 ∧ q.1.2 < q.2.2 + 1 then (q.2.1, q.2.2 + 1) else q.1, (q.2.1, q.2.2 + 1))
def bestB : Nat → List Bool → Option (Nat × Nat) → Option (Nat × Nat)
  | _, [], acc => acc
  | i, g :: r, acc => bestB (i + 1) r (if longOf acc < ((g :: r).takeWhile fun b => b).length then some (i, ((g :: r).takeWhile fun b => b).length) else acc)

theorem zrow_bool (gs : List Nat) : zrow gs = ((gs.map fun g => g == 0).takeWhile fun b => b).length := by
  unfold zrow
  induction gs with
  | nil => rfl
  | cons g r ih =>
    simp only [List.map_cons, List.takeWhile_cons]
    cases g == 0
    · rfl
    · simp only [if_true, List.length_cons, ih]
theorem bestF_bool (i : Nat) (gs : List Nat) (acc : Option (Nat × Nat)) : bestF i gs acc = bestB i (gs.map fun g => g == 0) acc := by
  induction gs generalizing i acc with
  | nil => rfl
  | cons g r ih =>
    rw [bestF, ih, zrow_bool, List.map_cons, bestB]
theorem rowSt_bool (i : Nat) (gs : List Nat) (q : (Nat × Nat) × (Nat × Nat)) : (numF i gs).foldl stepR q = (numF i (gs.map fun g => g == 0)).foldl stepRB q := by
  induction gs generalizing i q with
  | nil => rfl
  | cons g r ih =>
    simp only [numF, List.map_cons, List.foldl_cons]
    rw [ih]
    congr 1
    unfold stepR stepRB
    by_cases h : g = 0
    · subst h; simp
    · have : (g == 0) = false := by simpa using h
      simp [h]
theorem scan_best : ∀ a b c d e f g h : Bool, ((numF 0 [a, b, c, d, e, f, g, h]).foldl stepRB ((0, 0), (0, 0))).1 = (bestB 0 [a, b, c, d, e, f, g, h] none).getD (0, 0) := by decide +kernel
/-- What the search finds. -/
theorem rowSt_best (gs : List Nat) (h8 : gs.length = 8) : (rowSt (numF 0 gs)).1 = (bestF 0 gs none).getD (0, 0) := by
  unfold rowSt
  rw [rowSt_bool, bestF_bool]
  have hl : (gs.map fun g => g == 0).length = 8 := by rw [List.length_map]; exact h8
  generalize (gs.map fun g => g == 0) = bs at *
  match bs, hl with
  | [a, b, c, d, e, f, g, h], _ => exact scan_best a b c d e f g h

/-- Two numbers in a block. -/
def BoxTwo (W : World) (B : Nat) (t : TypeId) (u v : Value) : Prop := W.heap[B]? = some (.cells #[u, v] t (0, 0))
theorem BoxTwo.cell0 {W : World} {B : Nat} {t : TypeId} {u v : Value} (h : BoxTwo W B t u v) : W.cell? ⟨B, 0, none⟩ = some u := by simp [World.cell?, show W.heap[B]? = _ from h]
theorem BoxTwo.cell1 {W : World} {B : Nat} {t : TypeId} {u v : Value} (h : BoxTwo W B t u v) : W.cell? ⟨B, 1, none⟩ = some v := by simp [World.cell?, show W.heap[B]? = _ from h]
theorem BoxTwo.free {W : World} {B : Nat} {t : TypeId} {u v : Value} (h : BoxTwo W B t u v) (i : Nat) : W.frozen? ⟨B, i, none⟩ = false := by simp [World.frozen?, show W.heap[B]? = _ from h]
theorem BoxTwo.keep {X Y : World} {row : Option Nat} {B : Nat} {t : TypeId} {u v : Value} (h : BoxTwo X B t u v) (hg : X.grownBy Y row) (hr : ∀ r, row = some r → ∃ o : Obj, X.heap[r]? = some o ∧ o.isCells = false) : BoxTwo Y B t u v := by
  unfold BoxTwo at *
  rw [hg.block B (Array.getElem?_eq_some_iff.1 h).1 (fun e => by
    obtain ⟨o, ho, hc⟩ := hr B e.symm
    rw [h] at ho
    cases ho
    cases hc)]
  exact h
theorem BoxTwo.away {W : World} {B b i : Nat} {t : TypeId} {u v : Value} (x : Value) (h : BoxTwo W B t u v) (hb : B ≠ b) : BoxTwo (W.setCell ⟨b, i, none⟩ x) B t u v := by
  unfold BoxTwo at *
  rw [heap_setCell_other _ _ _ _ hb]
  exact h
theorem BoxTwo.set0 {W : World} {B : Nat} {t : TypeId} {u v : Value} (x : Value) (h : BoxTwo W B t u v) : BoxTwo (W.setCell ⟨B, 0, none⟩ x) B t x v := by
  unfold BoxTwo at *
  rw [heap_setCell_same W B 0 _ t x h]
  rfl
theorem BoxTwo.set1 {W : World} {B : Nat} {t : TypeId} {u v : Value} (x : Value) (h : BoxTwo W B t u v) : BoxTwo (W.setCell ⟨B, 1, none⟩ x) B t u x := by
  unfold BoxTwo at *
  rw [heap_setCell_same W B 1 _ t x h]
  rfl

theorem aat_cells {w : World} {g t : Nat} {xs : List UInt8} (h : AAt w g t xs) : Cells w (some ⟨g, 0, none⟩) xs := by
  refine ⟨fun e => (by cases e), fun ad e i hi => ?_⟩
  cases e
  rw [Addr.add_lit, Nat.zero_add]
  exact h.cell hi

theorem longest_world (w : World) (cs : Array Value) : ∀ W0, (((((w.alloc (.cells cs 29)).alloc (.cells #[.int .i64 0, .int .i64 0] 71)).alloc (.cells #[.int .i64 0, .int .i64 0] 71)).alloc (.cells #[.int .i64 0, .int .i64 0] 71)).alloc (.cells #[.slice (some ⟨w.heap.size, 0, none⟩) 16 16] 34)) = W0 →
    W0.heap[w.heap.size]? = some (.cells cs 29 (0, 0)) ∧ BoxTwo W0 (w.heap.size + 1) 71 (.int .i64 0) (.int .i64 0) ∧ BoxTwo W0 (w.heap.size + 1 + 1) 71 (.int .i64 0) (.int .i64 0) ∧ BoxTwo W0 (w.heap.size + 1 + 1 + 1) 71 (.int .i64 0) (.int .i64 0) ∧ Boxed W0 (w.heap.size + 1 + 1 + 1 + 1) 34 (.slice (some ⟨w.heap.size, 0, none⟩) 16 16) ∧ w.grownBy W0 none ∧ W0.heap.size = w.heap.size + 5 := by
  rintro W0 rfl
  refine ⟨?_, ?_, ?_, ?_, ?_, ?_, ?_⟩
  · exact hkeep (hkeep (hkeep (hkeep (hnew _ _ _ rfl) _) _) _) _
  · exact hkeep (hkeep (hkeep (hnew _ _ _ (by simp only [World.size_alloc])) _) _) _
  · exact hkeep (hkeep (hnew _ _ _ (by simp only [World.size_alloc])) _) _
  · exact hkeep (hnew _ _ _ (by simp only [World.size_alloc])) _
  · exact hnew _ _ _ (by simp only [World.size_alloc])
  · exact grown_trans (grown_trans (grown_trans (grown_trans (World.grownBy_alloc _ _ _) (World.grownBy_alloc _ _ _)) (World.grownBy_alloc _ _ _)) (World.grownBy_alloc _ _ _)) (World.grownBy_alloc _ _ _)
  · simp only [World.size_alloc]

/-- Between two rounds. -/
def IL (w : World) (R L P : Nat) (pre : List (Nat × Nat)) (W : World) : Prop :=
  (∃ (la pa : Int) (ls ps : Nat), BoxTwo W L 71 (.int .i64 la) (.int .i64 (ls : Int)) ∧ BoxTwo W P 71 (.int .i64 pa) (.int .i64 (ps : Int)) ∧ BoxTwo W R 71 (.int .i64 0) (.int .i64 0) ∧ ps ≤ pre.length ∧ ls ≤ pre.length ∧ ((∀ p ∈ pre, p.1 < 8) → la = ((rowSt pre).1.1 : Int) ∧ ls = (rowSt pre).1.2 ∧ pa = ((rowSt pre).2.1 : Int) ∧ ps = (rowSt pre).2.2)) ∧ Below w.heap.size w W

theorem IL_own (w : World) (R L P B : Nat) (hB : w.heap.size ≤ B) : OwnFrom B (IL w R L P) :=
  OwnFrom.and (Own.from (fun _ _ _ _ hs hg hr => by
    obtain ⟨la, pa, ls, ps, h1, h2, h3, h4⟩ := hs
    exact ⟨la, pa, ls, ps, h1.keep hg hr, h2.keep hg hr, h3.keep hg hr, h4⟩) _) (ownFrom_below (Nat.le_refl _) hB)

theorem all_snoc {pre : List (Nat × Nat)} {x : Nat × Nat} (h : ∀ p ∈ pre ++ [x], p.1 < 8) : (∀ p ∈ pre, p.1 < 8) ∧ x.1 < 8 := ⟨fun p hp => h p (by simp [hp]), h x (by simp)⟩

set_option maxRecDepth 100000 in
set_option maxHeartbeats 4000000 in
theorem longest_any (xs : List UInt8) (w : World) (h16 : xs.length = 16) :
    Calls Tryd.prog 39 #[.agg (xs.map bv).toArray] w fun e w' => e = .returned (.agg #[.int .i64 (((bestF 0 (pairsG xs) none).getD (0, 0)).1 : Int), .int .i64 (((bestF 0 (pairsG xs) none).getD (0, 0)).2 : Int)]) ∧ w.grownBy w' none := by
  have H16 : Hid (xs.length = 16) := h16
  have HQ : Hid ((pairsG xs).length = 8) := by have := pairs_half xs; show _ = 8; omega
  clear h16
  obtain ⟨cs, hcs⟩ : ∃ cs, (xs.map bv).toArray = cs := ⟨_, rfl⟩
  rw [hcs]
  refine (callsIn_wide (n := 3)).1 ?_
  refine callsIn_of_wp_marks Tryd.func39 rfl trivial ?_ rfl
  simp only [Tryd.ntmps39, List.size_toArray, List.length_cons, List.length_nil, Nat.reduceAdd, Nat.reduceSub, Array.replicate_succ, Array.replicate_zero, List.push_toArray, List.append_toArray, List.nil_append, List.cons_append]
  gi_wp2_with (refine ⟨trivial, ?_⟩; gi_at_call 52; refine (callsIn_wide.2 (pairs_any _ _ _ _)).mono ?_; rintro e w' ⟨rfl, rfl⟩)
  obtain ⟨W0, hW0⟩ : ∃ W0, (((((w.alloc (.cells cs 29)).alloc (.cells #[.int .i64 0, .int .i64 0] 71)).alloc (.cells #[.int .i64 0, .int .i64 0] 71)).alloc (.cells #[.int .i64 0, .int .i64 0] 71)).alloc (.cells #[.slice (some ⟨w.heap.size, 0, none⟩) 16 16] 34)) = W0 := ⟨_, rfl⟩
  obtain ⟨fA, fR, fL, fP, fB, G0, hsz⟩ := longest_world w cs W0 hW0
  rw [hW0]
  clear hW0
  obtain ⟨Bb, hBb⟩ : ∃ k, w.heap.size + 1 + 1 + 1 + 1 = k := ⟨_, rfl⟩
  rw [hBb] at fB ⊢
  obtain ⟨P, hP⟩ : ∃ k, w.heap.size + 1 + 1 + 1 = k := ⟨_, rfl⟩
  rw [hP] at fP ⊢
  obtain ⟨L, hL⟩ : ∃ k, w.heap.size + 1 + 1 = k := ⟨_, rfl⟩
  rw [hL] at fL ⊢
  obtain ⟨R, hR⟩ : ∃ k, w.heap.size + 1 = k := ⟨_, rfl⟩
  rw [hR] at fR ⊢
  obtain ⟨A, hA⟩ : ∃ k, w.heap.size = k := ⟨_, rfl⟩
  rw [show (Value.pointer (some ⟨w.heap.size, 0, none⟩)) = .pointer (some ⟨A, 0, none⟩) by rw [hA], show (Value.slice (some ⟨w.heap.size, 0, none⟩) 16 16) = .slice (some ⟨A, 0, none⟩) 16 16 by rw [hA]]
  rw [show (Value.slice (some ⟨w.heap.size, 0, none⟩) 16 16) = .slice (some ⟨A, 0, none⟩) 16 16 by rw [hA]] at fB
  rw [hA] at fA
  have ne : Hid (A ≠ L ∧ A ≠ P ∧ Bb ≠ L ∧ Bb ≠ P ∧ L ≠ P ∧ L ≠ R ∧ P ≠ R ∧ w.heap.size ≤ L ∧ w.heap.size ≤ P ∧ w.heap.size ≤ R) := by
    refine ⟨?_, ?_, ?_, ?_, ?_, ?_, ?_, ?_, ?_, ?_⟩ <;> omega
  clear hBb hP hL hR hA
  have hle : w.heap.size ≤ W0.heap.size := G0.size
  have aA : AAt W0 A 29 xs := by unfold AAt; rw [hcs]; exact fA
  have hx16 : xs.length ≤ 1048576 := by have := H16.out; omega
  refine wpIn_rangeFunc_ownF rfl (by omega) (gf := 62) (lb := #[.pointer (some ⟨Bb, 0, none⟩)]) rfl trivial (enters_of Tryd.func62 (by kernel_rfl) rfl)
    (pairs_stops _ (by omega) Bb w.heap.size (fun k => k = Bb ∨ k = A) (some ⟨A, 0, none⟩) 16 xs hx16 (.inl (.inl rfl)) (fun ad e _ => by cases e; exact .inr (.inr rfl)) W0 (by rw [H16.out]; exact fB.cell) (aat_cells aA))
    (fun h k => h.trans k) (Kp.book hle) (Below.refl _ _) (fun _ => rfl)
    (IL w R L P) (fun _ _ _ => False) (IL_own w R L P _ hle) (fun _ _ _ _ _ hs _ _ => hs)
    ⟨⟨0, 0, 0, 0, fL, fP, fR, Nat.zero_le _, Nat.zero_le _, fun _ => ⟨rfl, rfl, rfl, rfl⟩⟩, below_of G0⟩
    (fun x => { tmps := #[.agg cs, .pointer (some ⟨A, 0, none⟩), .pointer (some ⟨R, 0, none⟩), .pointer (some ⟨L, 0, none⟩), .pointer (some ⟨P, 0, none⟩), .int .i64 (x.1 : Int), .int .u32 (x.2 : Int), .slice (some ⟨A, 0, none⟩) 16 16, .func (.func 62) #[] #[.pointer (some ⟨Bb, 0, none⟩)], .int .i64 (x.1 : Int), .int .u32 (x.2 : Int), undef, undef, undef, undef, undef, undef, undef, undef, undef, undef, undef, undef, undef, undef, undef, undef, undef, undef, undef, undef, undef], defers := [] }) ?assign ?body ?done ?stop
  case assign =>
    intro l x W K hK
    gi_wp2
    exact hK
  case body =>
    rintro l pre ⟨i, g⟩ W ⟨⟨la, pa, ls, ps, hL, hP, hR, hps, hls, heq⟩, hB⟩ hlen
    obtain ⟨n1, n2, n3, n4, n5, n6, n7, l1, l2, l3⟩ := ne.out
    have h8 : pre.length < 8 := by have := HQ.out; omega
    have kp : ∀ X : World, Below w.heap.size W X → (∀ k, k ≠ L → k ≠ P → X.heap[k]? = W.heap[k]?) → Kp w.heap.size (fun k => k = Bb ∨ k = A) W X := fun X hb hk => ⟨hb, fun k o hs ho _ => by
      rcases hs with rfl | rfl
      · rw [hk _ n3 n4]; exact ho
      · rw [hk _ n1 n2]; exact ho⟩
    have HEQ : Hid ((∀ p ∈ pre, p.1 < 8) → la = ((rowSt pre).1.1 : Int) ∧ ls = (rowSt pre).1.2 ∧ pa = ((rowSt pre).2.1 : Int) ∧ ps = (rowSt pre).2.2) := heq
    have HKP : Hid (∀ X : World, Below w.heap.size W X → (∀ k, k ≠ L → k ≠ P → X.heap[k]? = W.heap[k]?) → Kp w.heap.size (fun k => k = Bb ∨ k = A) W X) := kp
    clear heq kp fA fR fL fP fB aA
    have cP0 := hP.cell0
    have cP1 := hP.cell1
    have fP0 := hP.free 0
    have fP1 := hP.free 1
    by_cases hg : g = 0
    · subst hg
      have hP1 := hP.set1 (.int .i64 ((ps : Int) + 1))
      have cQ0 := hP1.cell0
      have cQ1 := hP1.cell1
      have hL1 := hL.away (i := 1) (.int .i64 ((ps : Int) + 1)) n5
      have cL0 := hL1.cell0
      have cL1 := hL1.cell1
      have fL0 := hL1.free 0
      have fL1 := hL1.free 1
      have hR1 := hR.away (i := 1) (.int .i64 ((ps : Int) + 1)) (Ne.symm n7)
      have hst : ∀ ha : ∀ p ∈ pre ++ [(i, 0)], p.1 < 8, rowSt (pre ++ [(i, 0)]) = (if 2 ≤ ps + 1 ∧ ls < ps + 1 then ((rowSt pre).2.1, ps + 1) else (rowSt pre).1, ((rowSt pre).2.1, ps + 1)) := fun ha => by
        obtain ⟨-, e2, -, e4⟩ := HEQ.out (all_snoc ha).1
        rw [rowSt_snoc, stepR, if_neg (by simp), e2, e4]
      have HST : Hid (∀ ha : ∀ p ∈ pre ++ [(i, 0)], p.1 < 8, rowSt (pre ++ [(i, 0)]) = (if 2 ≤ ps + 1 ∧ ls < ps + 1 then ((rowSt pre).2.1, ps + 1) else (rowSt pre).1, ((rowSt pre).2.1, ps + 1))) := hst
      clear hst
      by_cases ht : 2 ≤ ps + 1 ∧ ls < ps + 1
      · have t1 : (2 : Int) ≤ (ps : Int) + 1 := by omega
        have t2 : (ls : Int) < (ps : Int) + 1 := by omega
        gi_wp2
        refine ⟨((KeepsOthers.setCell _ _ _).trans (KeepsOthers.setCell _ _ _)).trans (KeepsOthers.setCell _ _ _), HKP.out _ ((((Below.refl _ _).setCell (p := ⟨P, 1, none⟩) l2 _).setCell (p := ⟨L, 0, none⟩) l1 _).setCell (p := ⟨L, 1, none⟩) l1 _) (fun k h1 h2 => ?_), ⟨pa, pa, ps + 1, ps + 1, (hL1.set0 _).set1 _, (hP1.away _ (Ne.symm n5)).away _ (Ne.symm n5), (hR1.away _ (Ne.symm n6)).away _ (Ne.symm n6), by simp; omega, by simp; omega, fun ha => ?_⟩, ((hB.setCell (p := ⟨P, 1, none⟩) l2 _).setCell (p := ⟨L, 0, none⟩) l1 _).setCell (p := ⟨L, 1, none⟩) l1 _⟩
        · rw [heap_setCell_other _ _ _ _ (show k ≠ L from h1), heap_setCell_other _ _ _ _ (show k ≠ L from h1), heap_setCell_other _ _ _ _ (show k ≠ P from h2)]
        · obtain ⟨e1, e2, e3, e4⟩ := HEQ.out (all_snoc ha).1
          rw [HST.out ha, if_pos ht]
          exact ⟨e3, rfl, e3, rfl⟩
      · have tt : ¬ (2 : Int) ≤ (ps : Int) + 1 ∨ ((2 : Int) ≤ (ps : Int) + 1 ∧ ¬ (ls : Int) < (ps : Int) + 1) := by omega
        have HT : Hid (¬ (2 ≤ ps + 1 ∧ ls < ps + 1)) := ht
        clear ht
        rcases tt with t1 | ⟨t1, t2⟩
        all_goals
          gi_wp2
          refine ⟨KeepsOthers.setCell _ _ _, HKP.out _ ((Below.refl _ _).setCell (p := ⟨P, 1, none⟩) l2 _) (fun k _ h2 => heap_setCell_other _ _ _ _ (show k ≠ P from h2)), ⟨la, pa, ls, ps + 1, hL1, hP1, hR1, by simp; omega, by simp; omega, fun ha => ?_⟩, hB.setCell (p := ⟨P, 1, none⟩) l2 _⟩
          obtain ⟨e1, e2, e3, e4⟩ := HEQ.out (all_snoc ha).1
          rw [HST.out ha, if_neg HT.out]
          exact ⟨e1, e2, e3, rfl⟩
    · have hg' : ((g : Int) != 0) = true := by rw [bne_iff_ne]; omega
      gi_wp2
      refine ⟨(KeepsOthers.setCell _ _ _).trans (KeepsOthers.setCell _ _ _), HKP.out _ (((Below.refl _ _).setCell (p := ⟨P, 0, none⟩) l2 _).setCell (p := ⟨P, 1, none⟩) l2 _) (fun k _ h2 => ?_), ⟨la, wrap64 ((i : Int) + 1), ls, 0, (hL.away _ n5).away _ n5, (hP.set0 _).set1 _, (hR.away _ (Ne.symm n7)).away _ (Ne.symm n7), Nat.zero_le _, by simp; omega, fun ha => ?_⟩, (hB.setCell (p := ⟨P, 0, none⟩) l2 _).setCell (p := ⟨P, 1, none⟩) l2 _⟩
      · rw [heap_setCell_other _ _ _ _ (show k ≠ P from h2), heap_setCell_other _ _ _ _ (show k ≠ P from h2)]
      · obtain ⟨a1, a2⟩ := all_snoc ha
        obtain ⟨e1, e2, -, -⟩ := HEQ.out a1
        simp only at a2
        rw [rowSt_snoc, stepR, if_pos hg]
        exact ⟨e1, e2, by unfold wrap64; simp only; omega, rfl⟩
  case done =>
    rintro D ys W hD rfl ⟨⟨la, pa, ls, ps, hL, hP, hR, -, -, heq⟩, hB⟩ hK
    obtain ⟨n1, n2, n3, n4, n5, n6, n7, l1, l2, l3⟩ := ne.out
    obtain ⟨e1, e2, -, -⟩ := heq (fun p hp => by have := (numF_mem hp).1; have := HQ.out; omega)
    rw [rowSt_best _ HQ.out] at e1 e2
    have cL0 := hL.cell0
    have cL1 := hL.cell1
    have cR0 := hR.cell0
    have cR1 := hR.cell1
    have fR0 := hR.free 0
    have fR1 := hR.free 1
    have HE : Hid (la = (((bestF 0 (pairsG xs) none).getD (0, 0)).1 : Int) ∧ ls = ((bestF 0 (pairsG xs) none).getD (0, 0)).2) := ⟨e1, e2⟩
    clear e1 e2 heq fA fR fL fP fB aA hP
    gi_wp2
    obtain ⟨X, hX⟩ : ∃ X, ((W.setCell ⟨R, 0, none⟩ (.int .i64 la)).setCell ⟨R, 1, none⟩ (.int .i64 (ls : Int))) = X := ⟨_, rfl⟩
    rw [hX]
    have k1 : KeepsOthers W X := by rw [← hX]; exact (KeepsOthers.setCell _ _ _).trans (KeepsOthers.setCell _ _ _)
    have k2 : BoxTwo X R 71 (.int .i64 la) (.int .i64 (ls : Int)) := by rw [← hX]; exact (hR.set0 _).set1 _
    have k4 : Below w.heap.size w X := by rw [← hX]; exact (hB.setCell (p := ⟨R, 0, none⟩) l3 _).setCell (p := ⟨R, 1, none⟩) l3 _
    clear hX
    have hK' := k1.same D _ hK rfl
    refine ⟨by simp, .inl ⟨_, _, rfl, run_takeDeferred hK', ?_⟩⟩
    have hr : ∀ r, some D = some r → ∃ o : Obj, X.heap[r]? = some o ∧ o.isCells = false := fun r e => by cases e; exact ⟨_, hK', rfl⟩
    refine ⟨_, results_cell_row rfl _ _ R 71 _ (0, 0) _ rfl (k2.keep (grownBy_putObj' _ D (.deferred none)) hr) Tryd.underlying71 rfl (by kernel_rfl), ?_, ?_⟩
    · rw [HE.out.1, HE.out.2]
    · exact grown_of (k4.trans (belowK_b (w := w) (Nat.le_refl _) _ D _ _ (by omega) hK' rfl rfl))
  case stop =>
    rintro D c pre W _ _ h _
    exact h.elim

end Go.Proofs.YtbklagdegnflgaaDoor
