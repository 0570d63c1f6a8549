import Derived.Test.YtklipelnjgpnjaaGreatDoorLotS3
import Derived.Test.YtklipelnjgpnjaaGreatDoorLotS1
import Derived.Test.YtklipelnjgpnjaaGreatDoorLotS2
import Derived.Handy
import Derived.Laws.Rows
import Derived.Laws.Tables
import Derived.Laws.ResultCell
import Derived.Deep.DeepCutAuto
import Derived.Maps.AppendAt
import Derived.Deep.RegionLaw
import Derived.BigQuiet
set_option maxHeartbeats 64000000
set_option maxRecDepth 100000
namespace Go.Proofs.YtklipelnjgpnjaaGreatDoor
open Go.RowKit Go.Shelf

attribute [local go_sem] Oper.semAt_some
theorem a2Y {X Y : World} {row : Option Nat} {g t : Nat} {xs : List UInt8} (h : AAt X g t xs) (hg : X.grownBy Y row) (hr : ∀ r, row = some r → ∃ o : Obj, X.heap[r]? = some o ∧ o.isCells = false) : AAt Y g t xs :=
 h.grown hg (fun e => by
  obtain ⟨o, ho, hc⟩ := hr g e
  unfold AAt at h
  rw [h] at ho
  cases ho
  cases hc)
theorem M7 {X Y : World} {row : Option Nat} {B : Nat} {t : TypeId} {v : Value} (h : Boxed X B t v) (hg : X.grownBy Y row) (hr : ∀ r, row = some r → ∃ o : Obj, X.heap[r]? = some o ∧ o.isCells = false) : Boxed Y B t v :=
 h.kept hg (fun e => by
  obtain ⟨o, ho, hc⟩ := hr B e.symm
  unfold Boxed at h
  rw [h] at ho
  cases ho
  cases hc)
def a1w (pre : List (Nat × List UInt8)) : List UInt8 := pre.foldl (fun a p => a.set p.1 (UInt8.ofNat ((A9 255 p.2).getD 0))) (List.replicate 4 0)
def a2t (pre : List (Nat × List UInt8)) : Prop := ∀ p ∈ pre, (A9 255 p.2).isSome = true ∧ p.1 < 4
theorem ai6 (pre : List (Nat × List UInt8)) (x : Nat × List UInt8) : a1w (pre ++ [x]) = (a1w pre).set x.1 (UInt8.ofNat ((A9 255 x.2).getD 0)) := by simp [a1w]
theorem V9 {W : World} {B b i : Nat} {t : TypeId} {v : Value} (u : Value) (h : Boxed W B t v) (hb : B ≠ b) : Boxed (W.setCell ⟨b, i, none⟩ u) B t v := by
 unfold Boxed at *
 rw [heap_setCell_other _ _ _ _ hb]
 exact h
theorem a7P (pre : List (Nat × List UInt8)) : (a1w pre).length = 4 := by
 have key : ∀ (l : List (Nat × List UInt8)) (a : List UInt8), (l.foldl (fun a p => a.set p.1 (UInt8.ofNat ((A9 255 p.2).getD 0))) a).length = a.length := by
  intro l
  induction l with
  | nil => intro a; rfl
  | cons x r ih => intro a; rw [List.foldl_cons, ih, List.length_set]
 exact key pre _
theorem U6 (W : World) (o : Obj) (k : Nat) (h : W.heap.size = k) : (W.alloc o).heap[k]? = some o := by subst h; exact heap_alloc_new W o
theorem E8 {W : World} {k : Nat} {o : Obj} (h : W.heap[k]? = some o) (o' : Obj) : (W.alloc o').heap[k]? = some o :=
 (by show (W.heap.push o')[k]? = some o; rw [Array.getElem?_push, if_neg (Nat.ne_of_lt (Array.getElem?_eq_some_iff.1 h).1)]; exact h)
theorem aL5 (w : World) (s m : ByteArray) : ∀ W0, ((((((w.alloc (.cells #[.int .u8 0, .int .u8 0, .int .u8 0, .int .u8 0] 114)).alloc (.cells #[.int .i64 0] 23)).alloc (.cells #[.int .u8 0, .int .u8 0, .int .u8 0, .int .u8 0] 114)).alloc (.cells #[.int .i64 0] 3)).alloc (.cells #[.string s] 9)).alloc (.cells #[.string m] 9)) = W0 →
  AAt W0 w.heap.size 114 (List.replicate 4 0) ∧ Boxed W0 (w.heap.size + 1) 23 (.int .i64 0) ∧ AAt W0 (w.heap.size + 1 + 1) 114 (List.replicate 4 0) ∧ Boxed W0 (w.heap.size + 1 + 1 + 1) 3 (.int .i64 0) ∧ Boxed W0 (w.heap.size + 1 + 1 + 1 + 1) 9 (.string s) ∧ Boxed W0 (w.heap.size + 1 + 1 + 1 + 1 + 1) 9 (.string m) ∧ w.grownBy W0 none ∧ W0.heap.size = w.heap.size + 6 := by
 rintro W0 rfl
 refine ⟨?_, ?_, ?_, ?_, ?_, ?_, ?_, ?_⟩
 ·exact E8 (E8 (E8 (E8 (E8 (U6 _ _ _ rfl) _) _) _) _) _
 ·exact E8 (E8 (E8 (E8 (U6 _ _ _ (by simp only [World.size_alloc])) _) _) _) _
 ·exact E8 (E8 (E8 (U6 _ _ _ (by simp only [World.size_alloc])) _) _) _
 ·exact E8 (E8 (U6 _ _ _ (by simp only [World.size_alloc])) _) _
 ·exact E8 (U6 _ _ _ (by simp only [World.size_alloc])) _
 ·exact U6 _ _ _ (by simp only [World.size_alloc])
 ·exact d3 (d3 (d3 (d3 (d3 (World.grownBy_alloc _ _ _) (World.grownBy_alloc _ _ _)) (World.grownBy_alloc _ _ _)) (World.grownBy_alloc _ _ _)) (World.grownBy_alloc _ _ _)) (World.grownBy_alloc _ _ _)
 ·simp only [World.size_alloc]
theorem a1x {w W : World} (G : w.grownBy W none) : Below w.heap.size w W := (Below.refl _ _).grown G (Nat.le_refl _) (by simp)
theorem a0M {w W : World} (h : Below w.heap.size w W) : w.grownBy W none := ⟨h.os, h.tape, h.output, h.size, fun k hk _ => h.block k hk⟩
def I4 (w : World) (R E A F : Nat) (pre : List (Nat × List UInt8)) (W : World) : Prop :=
 (a2t pre ∧ AAt W A 114 (a1w pre) ∧ Boxed W F 3 (.int .i64 (pre.length : Int)) ∧ AAt W R 114 (List.replicate 4 0) ∧ Boxed W E 23 (.int .i64 0)) ∧ Below w.heap.size w W
def X4 (w : World) (R E : Nat) (c : Code) (pre : List (Nat × List UInt8)) (W : World) : Prop :=
 (c = .ret ∧ ¬ a2t pre ∧ AAt W R 114 (List.replicate 4 0) ∧ Boxed W E 23 (.int .i64 60)) ∧ Below w.heap.size w W
theorem ag3 (w : World) (R E A F B : Nat) (hB : w.heap.size ≤ B) : OwnFrom B (I4 w R E A F) :=
 OwnFrom.and (Own.from (fun _ _ _ _ hs hg hr => ⟨hs.1, a2Y hs.2.1 hg hr, M7 hs.2.2.1 hg hr, a2Y hs.2.2.2.1 hg hr, M7 hs.2.2.2.2 hg hr⟩) _) (ownFrom_below (Nat.le_refl _) hB)
theorem ah1 (w : World) (R E B : Nat) (hB : w.heap.size ≤ B) (c : Code) : OwnFrom B (X4 w R E c) :=
 OwnFrom.and (Own.from (fun _ _ _ _ hs hg hr => ⟨hs.1, hs.2.1, a2Y hs.2.2.1 hg hr, M7 hs.2.2.2 hg hr⟩) _) (ownFrom_below (Nat.le_refl _) hB)
theorem z4 {X : World} {R : Nat} (j : Nat) (h : AAt X R 114 (List.replicate 4 0)) : AAt (X.setCell ⟨R, j, none⟩ (.int .u8 0)) R 114 (List.replicate 4 0) := by
 have := h.set j 0 (by decide)
 rw [show UInt8.ofNat 0 = 0 from rfl, List.set_replicate_self] at this
 exact this
theorem a6S {w W : World} {R E : Nat} (hR : AAt W R 114 (List.replicate 4 0)) (hE : Boxed W E 23 (.int .i64 0)) (hB : Below w.heap.size w W) (n : R ≠ E) (l1 : w.heap.size ≤ R) (l2 : w.heap.size ≤ E) :
  ∀ X, ((((((W.setCell ⟨R, 0, none⟩ (.int .u8 0)).setCell ⟨R, 1, none⟩ (.int .u8 0)).setCell ⟨R, 2, none⟩ (.int .u8 0)).setCell ⟨R, 3, none⟩ (.int .u8 0)).setCell ⟨E, 0, none⟩ (.int .i64 60))) = X →
  KeepsOthers W X ∧ AAt X R 114 (List.replicate 4 0) ∧ Boxed X E 23 (.int .i64 60) ∧ Below w.heap.size w X := by
 rintro X rfl
 refine ⟨((((KeepsOthers.setCell _ _ _).trans (KeepsOthers.setCell _ _ _)).trans (KeepsOthers.setCell _ _ _)).trans (KeepsOthers.setCell _ _ _)).trans (KeepsOthers.setCell _ _ _), ?_, ?_, ?_⟩
 ·exact (z4 3 (z4 2 (z4 1 (z4 0 hR)))).setOther _ n
 ·exact Boxed.set _ (V9 _ (V9 _ (V9 _ (V9 _ hE (Ne.symm n)) (Ne.symm n)) (Ne.symm n)) (Ne.symm n))
 ·exact ((((hB.setCell (p := ⟨R, 0, none⟩) l1 _).setCell (p := ⟨R, 1, none⟩) l1 _).setCell (p := ⟨R, 2, none⟩) l1 _).setCell (p := ⟨R, 3, none⟩) l1 _).setCell (p := ⟨E, 0, none⟩) l2 _
theorem aZ5 {w W : World} {R E : Nat} (a b c d : UInt8) (ev : Int) {xs : List UInt8} (hx : xs.length = 4) {eo : Value} (hR : AAt W R 114 xs) (hE : Boxed W E 23 eo) (hB : Below w.heap.size w W) (n : R ≠ E) (l1 : w.heap.size ≤ R) (l2 : w.heap.size ≤ E) :
  ∀ X, ((((((W.setCell ⟨R, 0, none⟩ (.int .u8 (a.toNat : Int))).setCell ⟨R, 1, none⟩ (.int .u8 (b.toNat : Int))).setCell ⟨R, 2, none⟩ (.int .u8 (c.toNat : Int))).setCell ⟨R, 3, none⟩ (.int .u8 (d.toNat : Int))).setCell ⟨E, 0, none⟩ (.int .i64 ev))) = X →
  KeepsOthers W X ∧ AAt X R 114 [a, b, c, d] ∧ Boxed X E 23 (.int .i64 ev) ∧ Below w.heap.size w X := by
 rintro X rfl
 refine ⟨((((KeepsOthers.setCell _ _ _).trans (KeepsOthers.setCell _ _ _)).trans (KeepsOthers.setCell _ _ _)).trans (KeepsOthers.setCell _ _ _)).trans (KeepsOthers.setCell _ _ _), ?_, ?_, ?_⟩
 ·have h := ((((hR.set 0 a.toNat a.toNat_lt).set 1 b.toNat b.toNat_lt).set 2 c.toNat c.toNat_lt).set 3 d.toNat d.toNat_lt).setOther (i := 0) (.int .i64 ev) n
  simp only [UInt8.ofNat_toNat] at h
  match xs, hx with
  | [p, q, r, t], _ => exact h
 ·exact Boxed.set _ (V9 _ (V9 _ (V9 _ (V9 _ hE (Ne.symm n)) (Ne.symm n)) (Ne.symm n)) (Ne.symm n))
 ·exact ((((hB.setCell (p := ⟨R, 0, none⟩) l1 _).setCell (p := ⟨R, 1, none⟩) l1 _).setCell (p := ⟨R, 2, none⟩) l1 _).setCell (p := ⟨R, 3, none⟩) l1 _).setCell (p := ⟨E, 0, none⟩) l2 _
theorem a6i (pre : List (Nat × List UInt8)) (x : Nat × List UInt8) : a2t (pre ++ [x]) ↔ a2t pre ∧ (A9 255 x.2).isSome = true ∧ x.1 < 4 := by
 unfold a2t
 constructor
 ·intro h
  exact ⟨fun p hp => h p (by simp [hp]), h x (by simp)⟩
 ·rintro ⟨h1, h2⟩ p hp
  rcases List.mem_append.1 hp with hp | hp
  ·exact h1 p hp
  ·simp only [List.mem_singleton] at hp
   subst hp
   exact h2
theorem a6G {α : Type} {i : Nat} {l : List α} {p : Nat × α} (h : p ∈ m7 i l) : p.1 < i + l.length ∧ p.2 ∈ l := by
 induction l generalizing i with
 | nil => cases h
 | cons x r ih =>
  rw [m7] at h
  rcases List.mem_cons.1 h with rfl | h
  ·simp
  ·have := ih h
   refine ⟨by simp only [List.length_cons]; omega, List.mem_cons_of_mem _ this.2⟩
theorem a7I {α β : Type} {f : α → Option β} {xs : List α} {vs : List β} (h : S9 f xs = some vs) : ∀ x ∈ xs, (f x).isSome = true := by
 intro x hx
 obtain ⟨i, hi, rfl⟩ := List.getElem_of_mem hx
 cases hf : f xs[i] with
 | none => rw [ah7 hi hf] at h; cases h
 | some v => rfl
theorem a7H {α : Type} {f : α → Option Nat} {xs : List α} (h : ∀ x ∈ xs, (f x).isSome = true) : S9 f xs = some (xs.map fun x => (f x).getD 0) := by
 induction xs with
 | nil => rfl
 | cons x r ih =>
  have hx := h x (by simp)
  cases hf : f x with
  | none => rw [hf] at hx; cases hx
  | some v => simp only [S9, hf, ih (fun y hy => h y (by simp [hy])), List.map_cons, Option.bind_some, Option.map_some, Option.getD_some]
theorem au9 (s : List UInt8) (h : a2t (m7 0 (j0 46 s))) : (j0 46 s).length ≤ 4 ∧ ((j0 46 s).length = 4 → M2 s = some (a1w (m7 0 (j0 46 s)))) ∧ ((j0 46 s).length ≠ 4 → M2 s = none) := by
 refine ⟨?_, fun h4 => ?_, fun h4 => by rw [M2, if_neg h4]⟩
 ·rcases Nat.lt_or_ge 4 (j0 46 s).length with hl | hl
  ·have := (h _ (List.mem_of_getElem? (a6F 0 (j0 46 s) 4 hl))).2
   simp only at this
   omega
  ·exact hl
 ·have ha : ∀ x ∈ j0 46 s, (A9 255 x).isSome = true := fun x hx => by
   rw [← a4Z 0 (j0 46 s)] at hx
   obtain ⟨p, hp, rfl⟩ := List.mem_map.1 hx
   exact (h p hp).1
  rw [M2, if_pos h4, a7H ha]
  generalize j0 46 s = ls at *
  match ls, h4 with
  | [a, b, c, d], _ => rfl
theorem aI0 (s : List UInt8) {pre : List (Nat × List UInt8)} (hp : pre <+: m7 0 (j0 46 s)) (h : ¬ a2t pre) : M2 s = none := by
 rw [M2]
 split
 ·rename_i h4
  cases ha : S9 (A9 255) (j0 46 s) with
  | none => rfl
  | some ns =>
   exfalso
   refine h fun p hm => ?_
   have hm2 := a6G (hp.subset hm)
   exact ⟨a7I ha _ hm2.2, by omega⟩
 ·rfl
theorem a6T {P : Program} {fn : Func} {p q : Tmp} {ty te : TypeId} (h : fn.results = #[.cell p ty, .cell q te]) (tmps : Array Value) (w : World) (g e : Nat) (xs : List UInt8) (n : Nat) (el : TypeId) (k : IntKind) (v : Int) (hp : tmps.getD p undef = .pointer (some ⟨g, 0, none⟩)) (hq : tmps.getD q undef = .pointer (some ⟨e, 0, none⟩)) (A : AAt w g ty xs) (B : Boxed w e te (.int k v))
  (hu : P.underlying ty = some (.array n el)) (hi : (P.info? ty).map (·.size) = some xs.length) (hv : P.underlying te = some (.int k)) : (results fn tmps).run P w = .ok (.tuple #[.agg (xs.map bv).toArray, .int k v]) w := by
 have hp' : tmps[p]?.getD undef = .pointer (some ⟨g, 0, none⟩) := by simpa using hp
 have hq' : tmps[q]?.getD undef = .pointer (some ⟨e, 0, none⟩) := by simpa using hq
 have h1 := run_loadVar_row (P := P) w g ty ty (xs.map bv).toArray (0, 0) _ A hu rfl (by rw [U2]; exact hi)
 have h2 : (loadVar te ⟨e, 0, none⟩).run P w = .ok (.int k v) w := by
  have hc := B.cell
  have hag : (isAgg te).run P w = .ok false w := run_isAgg_plain hv rfl w
  simp [loadVar, Sem.run_bind, hag, go_sem, hc]
 simp [results, h, hp', hq', asAddr, h1, h2, Sem.run_bind]
theorem aL2 (s : ByteArray) (w : World) (hs : s.size ≤ 1048576) (T : j4 w) :
  Calls Tryz.prog 235 #[.string s] w fun e w' => e = .returned (.tuple #[a4v 4 (M2 (sl s)), .int .i64 (a4B (M2 (sl s)))]) ∧ w.grownBy w' none := by
 have HT : Hid (j4 w) := T
 have h3 := T.size
 clear T
 refine (callsIn_wide (n := 3)).1 ?_
 refine callsIn_of_wp_marks Tryz.func235 rfl trivial ?_ rfl
 simp only [Tryz.ntmps235, List.size_toArray, List.length_cons, List.length_nil, Nat.reduceAdd, Nat.reduceSub, Array.replicate_succ, Array.replicate_zero, List.push_toArray, List.append_toArray, List.nil_append, List.cons_append]
 gi_wp2_with (refine ⟨trivial, ?_⟩; gi_at_call 238; refine (callsIn_wide.2 (a7L _ _ _)).mono ?_; rintro e w' ⟨rfl, rfl⟩)
 obtain ⟨W0, hW0⟩ : ∃ W0, ((((((w.alloc (.cells #[.int .u8 0, .int .u8 0, .int .u8 0, .int .u8 0] 114)).alloc (.cells #[.int .i64 0] 23)).alloc (.cells #[.int .u8 0, .int .u8 0, .int .u8 0, .int .u8 0] 114)).alloc (.cells #[.int .i64 0] 3)).alloc (.cells #[.string s] 9)).alloc (.cells #[.string ⟨#[46]⟩] 9)) = W0 := ⟨_, rfl⟩
 obtain ⟨fR, fE, fA, fF, fS, fM, G0, hsz⟩ := aL5 w s ⟨#[46]⟩ W0 hW0
 rw [hW0]
 clear hW0
 obtain ⟨M, hM⟩ : ∃ k, w.heap.size + 1 + 1 + 1 + 1 + 1 = k := ⟨_, rfl⟩
 rw [hM] at fM ⊢
 obtain ⟨Bs, hBs⟩ : ∃ k, w.heap.size + 1 + 1 + 1 + 1 = k := ⟨_, rfl⟩
 rw [hBs] at fS ⊢
 obtain ⟨F, hF⟩ : ∃ k, w.heap.size + 1 + 1 + 1 = k := ⟨_, rfl⟩
 rw [hF] at fF ⊢
 obtain ⟨A, hA⟩ : ∃ k, w.heap.size + 1 + 1 = k := ⟨_, rfl⟩
 rw [hA] at fA ⊢
 obtain ⟨E, hE⟩ : ∃ k, w.heap.size + 1 = k := ⟨_, rfl⟩
 rw [hE] at fE ⊢
 obtain ⟨R, hR⟩ : ∃ k, w.heap.size = k := ⟨_, rfl⟩
 rw [show (Value.pointer (some ⟨w.heap.size, 0, none⟩)) = .pointer (some ⟨R, 0, none⟩) by rw [hR]]
 rw [hR] at fR
 have ne : Hid (M ≠ A ∧ M ≠ F ∧ M ≠ R ∧ M ≠ E ∧ A ≠ F ∧ A ≠ R ∧ A ≠ E ∧ F ≠ R ∧ F ≠ E ∧ R ≠ E ∧ w.heap.size ≤ A ∧ w.heap.size ≤ F ∧ w.heap.size ≤ R ∧ w.heap.size ≤ E) := by
  refine ⟨?_, ?_, ?_, ?_, ?_, ?_, ?_, ?_, ?_, ?_, ?_, ?_, ?_, ?_⟩ <;> omega
 clear hM hBs hF hA hE hR
 have hle : w.heap.size ≤ W0.heap.size := G0.size
 have HS := o8 s
 refine wpIn_rangeFunc_ownF rfl (by omega) (gf := 243) (lb := #[.pointer (some ⟨Bs, 0, none⟩), .pointer (some ⟨M, 0, none⟩)]) rfl trivial (enters_of Tryz.func243 (by kernel_rfl) rfl)
  (a9P _ (by omega) Bs M w.heap.size (fun k => k = M) 46 (sl s) (by omega) (.inl rfl) h3 W0 (HT.out.grown G0) (by rw [← a0X]; exact fS.cell) fM.cell)
  (fun h k => h.trans k) (Kp.book hle) (Below.refl _ _) (fun _ => rfl)
  (I4 w R E A F) (X4 w R E) (ag3 w R E A F _ hle) (fun c => ah1 w R E _ hle c)
  ⟨⟨(fun p hp => absurd hp (by simp)), fA, fF, fR, fE⟩, a1x G0⟩
  (fun x => { tmps := #[.string s, undef, .pointer (some ⟨R, 0, none⟩), .pointer (some ⟨E, 0, none⟩), .pointer (some ⟨A, 0, none⟩), .pointer (some ⟨F, 0, none⟩), .int .i64 (x.1 : Int), str x.2, undef, undef, .string s, .func (.func 243) #[] #[.pointer (some ⟨Bs, 0, none⟩), .pointer (some ⟨M, 0, none⟩)], .int .i64 (x.1 : Int), str x.2, undef, undef, undef, undef, undef, undef, undef, undef, undef, undef, undef, undef, undef, undef, undef, undef, undef, undef, undef, undef, undef], defers := [] }) ?assign ?body ?done ?stop
 case assign =>
  intro l x W K hK
  gi_wp2
  exact hK
 case body =>
  rintro l pre ⟨i, t⟩ W ⟨⟨hg, hA, hF, hRr, hEe⟩, hB⟩ hlen
  have hO := aJ3 ⟨t.toArray⟩ W
  have hlt := a7P pre
  have hcR0 := hRr.cell (i := 0) (by decide)
  have hcR1 := hRr.cell (i := 1) (by decide)
  have hcR2 := hRr.cell (i := 2) (by decide)
  have hcR3 := hRr.cell (i := 3) (by decide)
  have fr0 := hRr.free 0
  have fr1 := hRr.free 1
  have fr2 := hRr.free 2
  have fr3 := hRr.free 3
  have hcE := hEe.cell
  have frE := hEe.frozen
  have hcF := hF.cell
  have frF := hF.frozen
  simp only [List.getElem_replicate] at hcR0 hcR1 hcR2 hcR3
  obtain ⟨n1, n2, n3, n4, n5, n6, n7, n8, n9, n10, l1, l2, l3, l4⟩ := ne.out
  have n10' : E ≠ R := Ne.symm n10
  cases hn : A9 255 t with
  | none =>
   have CO : Calls Tryz.prog 239 #[str t] W fun e w' => (∃ n : Nat, e = .returned (.tuple #[.int .u8 (n : Int), .bool false])) ∧ W = w' := hO.mono (by
    rintro e w' ⟨⟨n, rfl, -, -⟩, rfl⟩
    rw [show A9 255 (sl ⟨t.toArray⟩) = none from hn]
    exact ⟨⟨n, rfl⟩, rfl⟩)
   clear hO
   gi_wp2_with (refine ⟨trivial, ?_⟩; gi_at_call 239; refine (CallsIn.inRound l (callsIn_wide.2 CO)).mono ?_; rintro e w' ⟨⟨n, rfl⟩, rfl⟩)
   obtain ⟨k1, k2, k3, k4⟩ := a6S hRr hEe hB n10 l3 l4 _ rfl
   exact ⟨k1, ⟨rfl, fun h => (by have := ((a6i _ _).1 h).2.1; rw [show A9 255 (i, t).2 = none from hn] at this; cases this), k2, k3⟩, k4⟩
  | some u =>
   have hu : u ≤ 255 := aJ1 hn
   have CO : Calls Tryz.prog 239 #[str t] W fun e w' => e = .returned (.tuple #[.int .u8 (u : Int), .bool true]) ∧ W = w' := hO.mono (by
    rintro e w' ⟨⟨n, rfl, -, hnu⟩, rfl⟩
    have hn' : A9 255 (sl ⟨t.toArray⟩) = some u := hn
    obtain rfl := hnu u hn'
    rw [hn']
    exact ⟨rfl, rfl⟩)
   clear hO
   by_cases hi4 : 4 ≤ i
   ·have hi4' : (4 : Int) ≤ (i : Int) := by omega
    gi_wp2_with (refine ⟨trivial, ?_⟩; gi_at_call 239; refine (CallsIn.inRound l (callsIn_wide.2 CO)).mono ?_; rintro e w' ⟨rfl, rfl⟩)
    obtain ⟨k1, k2, k3, k4⟩ := a6S hRr hEe hB n10 l3 l4 _ rfl
    exact ⟨k1, ⟨rfl, fun h => (by have := ((a6i _ _).1 h).2.2; simp only at this; omega), k2, k3⟩, k4⟩
   ·have hi4' : ¬ (4 : Int) ≤ (i : Int) := by omega
    have hil : i < 4 := by omega
    have hil' : (i : Int) < 4 := by omega
    have hcA : W.cell? ⟨A, i, none⟩ = some (.int .u8 (((a1w pre)[i]'(by omega)).toNat : Int)) := hA.cell (i := i) (by omega)
    generalize ((a1w pre)[i]'(by omega)).toNat = old at hcA
    have frA := hA.free i
    have hw : IntKind.u8.wrap (u : Int) = u := by rw [IntKind.wrap_u8]; omega
    have A2 := hA.set i u (by omega)
    have B2 := V9 (i := i) (.int .u8 (u : Int)) hF (Ne.symm n5)
    have cF2 := B2.cell
    have fF2 := B2.frozen
    have hpl : pre.length ≤ 1048577 := by
     have := a79 46 [] (sl s)
     unfold j0 at hlen
     omega
    have hM : Kp w.heap.size (fun k => k = M) W ((W.setCell ⟨A, i, none⟩ (.int .u8 (u : Int))).setCell ⟨F, 0, none⟩ (.int .i64 ((pre.length : Int) + 1))) := by
     refine ⟨((Below.refl _ _).setCell (p := ⟨A, i, none⟩) l1 _).setCell (p := ⟨F, 0, none⟩) l2 _, ?_⟩
     rintro k o rfl ho -
     rw [heap_setCell_other _ _ _ _ (show k ≠ F from n2), heap_setCell_other _ _ _ _ (show k ≠ A from n1)]
     exact ho
    clear hcR0 hcR1 hcR2 hcR3 fr0 fr1 fr2 fr3 hcE frE hcF frF
    gi_wp2_with (refine ⟨trivial, ?_⟩; gi_at_call 239; refine (CallsIn.inRound l (callsIn_wide.2 CO)).mono ?_; rintro e w' ⟨rfl, rfl⟩)
    refine ⟨(KeepsOthers.setCell _ _ _).trans (KeepsOthers.setCell _ _ _), hM, ⟨(a6i _ _).2 ⟨hg, by rw [show A9 255 (i, t).2 = some u from hn]; rfl, hil⟩, ?_, ?_, ?_, ?_⟩, ?_⟩
    ·rw [ai6, show A9 255 (i, t).2 = some u from hn]
     exact A2.setOther _ n5
    ·rw [List.length_append, show ((pre.length + [(i, t)].length : Nat) : Int) = (pre.length : Int) + 1 by simp]
     exact B2.set _
    ·exact (hRr.setOther _ (Ne.symm n6)).setOther _ (Ne.symm n8)
    ·exact V9 _ (V9 _ hEe (Ne.symm n7)) (Ne.symm n9)
    ·exact (hB.setCell (p := ⟨A, i, none⟩) l1 _).setCell (p := ⟨F, 0, none⟩) l2 _
 case done =>
  rintro D xs W hD rfl ⟨⟨hg, hA, hF, hRr, hEe⟩, hB⟩ hK
  obtain ⟨g1, g2, g3⟩ := au9 (sl s) hg
  have hcF := hF.cell
  rw [a2C] at hcF
  have hcR0 := hRr.cell (i := 0) (by decide)
  have hcR1 := hRr.cell (i := 1) (by decide)
  have hcR2 := hRr.cell (i := 2) (by decide)
  have hcR3 := hRr.cell (i := 3) (by decide)
  have fr0 := hRr.free 0
  have fr1 := hRr.free 1
  have fr2 := hRr.free 2
  have fr3 := hRr.free 3
  have hcE := hEe.cell
  have frE := hEe.frozen
  simp only [List.getElem_replicate] at hcR0 hcR1 hcR2 hcR3
  obtain ⟨n1, n2, n3, n4, n5, n6, n7, n8, n9, n10, l1, l2, l3, l4⟩ := ne.out
  have n10' : E ≠ R := Ne.symm n10
  have hlA := a7P (m7 0 (j0 46 (sl s)))
  clear hF fA fF fR fE fM fS
  by_cases h4 : (j0 46 (sl s)).length = 4
  ·have HN : Hid (M2 (sl s) = some (a1w (m7 0 (j0 46 (sl s))))) := g2 h4
   rw [h4] at hcF
   rw [show (((4 : Nat) : Int)) = 4 from rfl] at hcF
   clear g1 g2 g3 hg h4
   generalize a1w (m7 0 (j0 46 (sl s))) = ys at *
   obtain ⟨a, b, c, d, rfl⟩ : ∃ a b c d, ys = [a, b, c, d] := by
    match ys, hlA with
    | [a, b, c, d], _ => exact ⟨a, b, c, d, rfl⟩
   have hcA0 : W.cell? ⟨A, 0, none⟩ = some (.int .u8 (a.toNat : Int)) := hA.cell (i := 0) (by simp)
   have hcA1 : W.cell? ⟨A, 1, none⟩ = some (.int .u8 (b.toNat : Int)) := hA.cell (i := 1) (by simp)
   have hcA2 : W.cell? ⟨A, 2, none⟩ = some (.int .u8 (c.toNat : Int)) := hA.cell (i := 2) (by simp)
   have hcA3 : W.cell? ⟨A, 3, none⟩ = some (.int .u8 (d.toNat : Int)) := hA.cell (i := 3) (by simp)
   gi_wp2
   obtain ⟨X, hX⟩ : ∃ X, ((((((W.setCell ⟨R, 0, none⟩ (.int .u8 (a.toNat : Int))).setCell ⟨R, 1, none⟩ (.int .u8 (b.toNat : Int))).setCell ⟨R, 2, none⟩ (.int .u8 (c.toNat : Int))).setCell ⟨R, 3, none⟩ (.int .u8 (d.toNat : Int))).setCell ⟨E, 0, none⟩ (.int .i64 0))) = X := ⟨_, rfl⟩
   rw [hX]
   obtain ⟨k1, k2, k3, k4⟩ := aZ5 a b c d 0 rfl hRr hEe hB n10 l3 l4 X hX
   clear hX
   have hK' := k1.same D _ hK rfl
   refine ⟨by simp, .inl ⟨_, _, rfl, run_takeDeferred hK', ?_⟩⟩
   have hr : ∀ r, some D = some r → ∃ o : Obj, X.heap[r]? = some o ∧ o.isCells = false := fun r e => by cases e; exact ⟨_, hK', rfl⟩
   refine ⟨_, a6T rfl _ _ R E [a, b, c, d] 4 5 .i64 0 rfl rfl (a2Y k2 (grownBy_putObj' _ D (.deferred none)) hr) (M7 k3 (grownBy_putObj' _ D (.deferred none)) hr) Tryz.underlying114 a49 Tryz.underlying23, ?_, ?_⟩
   ·rw [HN.out]; rfl
   ·exact a0M (k4.trans (belowK_b (w := w) (Nat.le_refl _) _ D _ _ (by omega) hK' rfl rfl))
  ·have HN : Hid (M2 (sl s) = none) := g3 h4
   have h4' : (((j0 46 (sl s)).length : Int) != 4) = true := by rw [bne_iff_ne]; omega
   clear g2 g3 hg h4
   generalize (j0 46 (sl s)).length = N at *
   gi_wp2
   obtain ⟨X, hX⟩ : ∃ X, ((((((W.setCell ⟨R, 0, none⟩ (.int .u8 0)).setCell ⟨R, 1, none⟩ (.int .u8 0)).setCell ⟨R, 2, none⟩ (.int .u8 0)).setCell ⟨R, 3, none⟩ (.int .u8 0)).setCell ⟨E, 0, none⟩ (.int .i64 60))) = X := ⟨_, rfl⟩
   rw [hX]
   obtain ⟨k1, k2, k3, k4⟩ := a6S hRr hEe hB n10 l3 l4 X hX
   clear hX
   have hK' := k1.same D _ hK rfl
   refine ⟨by simp, .inl ⟨_, _, rfl, run_takeDeferred hK', ?_⟩⟩
   have hr : ∀ r, some D = some r → ∃ o : Obj, X.heap[r]? = some o ∧ o.isCells = false := fun r e => by cases e; exact ⟨_, hK', rfl⟩
   refine ⟨_, a6T rfl _ _ R E (List.replicate 4 0) 4 5 .i64 60 rfl rfl (a2Y k2 (grownBy_putObj' _ D (.deferred none)) hr) (M7 k3 (grownBy_putObj' _ D (.deferred none)) hr) Tryz.underlying114 a49 Tryz.underlying23, ?_, ?_⟩
   ·rw [HN.out]; rfl
   ·exact a0M (k4.trans (belowK_b (w := w) (Nat.le_refl _) _ D _ _ (by omega) hK' rfl rfl))
 case stop =>
  rintro D c pre W hD hpre ⟨⟨rfl, hbad, hRr, hEe⟩, hB⟩ hK
  have HN : Hid (M2 (sl s) = none) := aI0 (sl s) hpre hbad
  gi_wp2
  refine ⟨by simp, .inl ⟨_, _, rfl, run_takeDeferred hK, ?_⟩⟩
  have hr : ∀ r, some D = some r → ∃ o : Obj, W.heap[r]? = some o ∧ o.isCells = false := fun r e => by cases e; exact ⟨_, hK, rfl⟩
  refine ⟨_, a6T rfl _ _ R E (List.replicate 4 0) 4 5 .i64 60 rfl rfl (a2Y hRr (grownBy_putObj' _ D (.deferred none)) hr) (M7 hEe (grownBy_putObj' _ D (.deferred none)) hr) Tryz.underlying114 a49 Tryz.underlying23, ?_, ?_⟩
  ·rw [HN.out]; rfl
  ·exact a0M (hB.trans (belowK_b (w := w) (Nat.le_refl _) W D _ _ (by omega) hK rfl rfl))
structure Lk where
 acfc : Bool
 pfc : Bool
 mp : Int
structure Vw where
 proto : Nat
 multi : Bool
 beg : Bool
 fin : Bool
 seq : Nat
 pos : Nat
 net : Nat
 next : Nat
 load : Nat
def Vw.zero : Vw := ⟨0, false, false, false, 0, 0, 0, 0, 0⟩
def spV (l : Lk) : Nat := if l.mp = 2 then 16777216 else 4096
structure b1m (l : Lk) (b : List UInt8) (v : Vw) : Prop where
 len : b.length ≤ 65535
 pos1 : 1 ≤ v.pos
 pos2 : v.pos ≤ b.length
 load : v.load ≤ b.length
 far : v.load ≠ 0 → v.pos + 20 ≤ v.load
 pr : v.proto < 65536 ∧ v.proto % 2 = 1
 net : v.net = if (v.proto = 33 ∧ (v.multi = false ∨ v.beg = true)) then 4 else if (v.proto = 87 ∧ (v.multi = false ∨ v.beg = true)) then 6 else 0
 none : v.net = 0 → v.next = 0 ∧ v.load = 0
 next : v.next ≤ 255
 one : v.multi = false → v.beg = false ∧ v.fin = false ∧ v.seq = 0
 two : v.multi = true → l.mp ≠ 0 ∧ v.seq < spV l
 mp : 0 ≤ l.mp ∧ l.mp ≤ 2
def VAt (w : World) (g t : Nat) (cs : Array Value) : Prop := w.heap[g]? = some (.cells cs t (0, 0))
theorem VAt.cell {w : World} {g t : Nat} {cs : Array Value} (h : VAt w g t cs) (i : Nat) : w.cell? ⟨g, i, none⟩ = cs[i]? := cell_of_row w g i cs t (0, 0) h
theorem VAt.free {w : World} {g t : Nat} {cs : Array Value} (h : VAt w g t cs) (i : Nat) : w.frozen? ⟨g, i, none⟩ = false := by
 unfold VAt at h
 simp [World.frozen?, h]
theorem VAt.lt {w : World} {g t : Nat} {cs : Array Value} (h : VAt w g t cs) : g < w.heap.size := by
 unfold VAt at h
 by_cases hb : g < w.heap.size
 ·exact hb
 ·rw [Array.getElem?_eq_none (by omega)] at h; cases h
theorem VAt.grown {w w' : World} {g t : Nat} {cs : Array Value} {row : Option Nat} (h : VAt w g t cs) (G : w.grownBy w' row) (hr : row ≠ some g) : VAt w' g t cs := by
 have := G.block g h.lt (Ne.symm hr)
 unfold VAt at *
 rw [this, h]
theorem VAt.kept {w w' : World} {g t : Nat} {cs : Array Value} (h : VAt w g t cs) (G : w.grownBy w' none) : VAt w' g t cs := h.grown G (by simp)
theorem VAt.set {w : World} {g t : Nat} {cs : Array Value} (h : VAt w g t cs) (i : Nat) (v : Value) : VAt (w.setCell ⟨g, i, none⟩ v) g t (cs.setIfInBounds i v) := by
 unfold VAt at *
 simp only [World.setCell, Array.getElem?_modify, h, if_true, Option.map_some]
 rfl
theorem VAt.alloc (w : World) (t : Nat) (cs : Array Value) : VAt (w.alloc (.cells cs t)) w.heap.size t cs := heap_alloc_new w _
theorem VAt.setRow {w : World} {g t : Nat} {cs : Array Value} (h : VAt w g t cs) (ds : Array Value) : VAt (w.setRow g ds) g t ds := by
 unfold VAt at *
 exact setRow_heap w g _ _ t _ h
theorem a7h (w : World) (g k : Nat) (cs : Array Value) (h : k ≠ g) : (w.setRow g cs).heap[k]? = w.heap[k]? := by
 simp [World.setRow, Array.getElem?_modify, Ne.symm h]
theorem D1 {w W : World} {row : Option Nat} (G : w.grownBy W row) (g : Nat) (cs : Array Value) (hg : row = some g ∨ w.heap.size ≤ g) : w.grownBy (W.setRow g cs) row := by
 refine ⟨G.os, G.tape, G.output, by rw [setRow_size]; exact G.size, fun i hi hr => ?_⟩
 have : i ≠ g := by
  rintro rfl
  rcases hg with hg | hg
  ·exact hr hg.symm
  ·omega
 rw [a7h _ _ _ _ this]
 exact G.block i hi hr
theorem VAt.other {w : World} {g t k : Nat} {cs : Array Value} (h : VAt w g t cs) (ds : Array Value) (hk : g ≠ k) : VAt (w.setRow k ds) g t cs := by
 unfold VAt at *
 rw [a7h _ _ _ _ hk]
 exact h
theorem VAt.setOther {w : World} {g t k i : Nat} {cs : Array Value} (h : VAt w g t cs) (u : Value) (hk : g ≠ k) : VAt (w.setCell ⟨k, i, none⟩ u) g t cs := by
 unfold VAt at *
 simp only [World.setCell, Array.getElem?_modify, if_neg (Ne.symm hk)]
 exact h
theorem a0b {P : Program} {fn : Func} {p u : Tmp} {ty : TypeId} (h : fn.results = #[.cell p ty, .tmp u]) (tmps : Array Value) (w : World) (g : Nat) (cs : Array Value) (d : TypeDesc) (hp : tmps.getD p undef = .pointer (some ⟨g, 0, none⟩)) (A : VAt w g ty cs)
  (hu : P.underlying ty = some d) (hd : (match d with | .struct _ | .array _ _ => true | _ => false) = true) (hi : (P.info? ty).map (·.size) = some cs.size) : (results fn tmps).run P w = .ok (.tuple #[.agg cs, tmps.getD u undef]) w := by
 rw [results_cell_tmp h, hp]
 have := run_loadVar_row (P := P) w g ty ty cs (0, 0) _ A hu hd hi
 simp only [asAddr, Sem.run_pure, Result.andThen, this]
theorem a5r {P : Program} {ops : Array Oper} {o : Oper} {a : Act} {w : World} {K : Act → World → Prop} {Q : Exit → Act → World → Prop} {E : Prop}
  (hgd : o.guard = none) (t : TypeId) (n : Nat) (ps : Array (Nat × Operand)) (ho : o.op = .buildSlice t n ps) (qs : Array (Nat × Value)) (hq : ps.map (fun (i, x) => (i, a.eval x)) = qs) (cs : List Value) (e : TypeId)
  (hr : ∀ W : World, (Instr.buildSlice t n qs).run P W = .ok (.slice (some ⟨W.heap.size, 0, none⟩) n n) (W.alloc (.cells cs.toArray e)))
  (hK : ∀ ad w', CV w' (some ad) cs → w.grownBy w' none → K (a.put o.dst (.slice (some ad) n n)) w') :
  if Region.wanted o (yielded ops a.tmps) = true then Oper.wp P o a w K Q else E := by
 have hw : Region.wanted o (yielded ops a.tmps) = true := by simp [Region.wanted, hgd]
 rw [if_pos hw]
 unfold Oper.wp execOp
 have hr' := hr w
 rw [← hq] at hr'
 simp only [ho, Sem.run_bind, Sem.run_pure, Result.andThen_ok, hr']
 exact hK _ _ (q8 w e cs) (World.grownBy_alloc _ _ _)
theorem a3w {P : Program} {ops : Array Oper} {o : Oper} {a : Act} {w : World} {K : Act → World → Prop} {Q : Exit → Act → World → Prop} {E : Prop}
  (hgd : o.guard = none) (s x : Operand) (t : TypeId) (ho : o.op = .call { callee := .builtin .append, args := #[s, x], argTypes := #[t, t] })
  (e : TypeId) (i : TypeInfo) (z : Value) (size bytes : Nat) (ht : P.underlying t = some (.slice e)) (hi : P.info? e = some i) (hz : i.zero = some z) (hsize : i.size = size) (hby : i.bytes = bytes) (hzs : z.cells.size = size) (hsz : 0 < size)
  (base : Nat) (v : Value) (n : Nat) (vs : List Value) (hs : a.eval s = v) (hown : w.ownsRow base e size v n vs)
  (ad : Addr) (m c : Nat) (us : List Value) (hx : a.eval x = .slice (some ad) m c) (hl : us.length = m * size) (hus : CV w (some ad) us) (h1 : ∀ u ∈ us, u.oneCell' = true)
  (h63 : n + m ≤ maxLen) (hbytes : (n + m) * bytes ≤ 140737488355328) (hbase : base ≤ w.heap.size)
  (hK : ∀ v' w', w'.ownsRow base e size v' (n + m) (vs ++ us) → w.grownBy w' v.ownBlock → (v'.ownBlock = v.ownBlock ∨ v'.ownBlock = some w.heap.size) → K (a.put o.dst v') w') :
  if Region.wanted o (yielded ops a.tmps) = true then Oper.wp P o a w K Q else E := by
 have hw : Region.wanted o (yielded ops a.tmps) = true := by simp [Region.wanted, hgd]
 rw [if_pos hw]
 obtain ⟨v', w', hr, h2, h3, _, h5⟩ := run_append_own_at (P := P) w base t o.type e i z size bytes ht hi hz hsize hby hzs hsz v n vs hown ad m c us hl (by
  intro j u hj
  obtain ⟨hlt, e⟩ := List.getElem?_eq_some_iff.1 hj
  rw [hus.2 ad rfl j hlt, e]) h1 h63 hbytes hbase
 unfold Oper.wp execOp
 simp only [ho, resolve, invoke, builtin, Sem.run_bind, Sem.run_pure, Result.andThen_ok, List.map_toArray, List.map_cons, List.map_nil, hs, hx, hr]
 exact hK v' w' h2 h3 h5
theorem a2E {w : World} {base e size n : Nat} {v : Value} {vs : List Value} (h : w.ownsRow base e size v n vs) : ∃ a l k, v = .slice a l k := by
 rcases h.2 with ⟨rfl, -⟩ | ⟨g, cap, cur, rfl, -⟩
 ·exact ⟨_, _, _, rfl⟩
 ·exact ⟨_, _, _, rfl⟩
theorem b1e {P : Program} {ops : Array Oper} {rest : List Oper} {op : Oper} {a : Act} {w : World} {Q : Exit → Act → World → Prop} (hw : Region.wanted op (yielded ops a.tmps) = true)
  (t : TypeId) (n : Nat) (ps : Array (Nat × Operand)) (ho : op.op = .buildSlice t n ps) (qs : Array (Nat × Value)) (hq : ps.map (fun (i, x) => (i, a.eval x)) = qs) (cs : List Value) (e : TypeId)
  (hr : ∀ W : World, (Instr.buildSlice t n qs).run P W = .ok (.slice (some ⟨W.heap.size, 0, none⟩) n n) (W.alloc (.cells cs.toArray e)))
  (h : ∀ V w', CV w' (some ⟨V, 0, none⟩) cs → w.grownBy w' none → wpList P ops Q rest (a.put op.dst (.slice (some ⟨V, 0, none⟩) n n)) w') : wpList P ops Q (op :: rest) a w :=
 BigFrame.wpList_want hw fun _ hK => by
  unfold Oper.wp execOp
  have hr' := hr w
  rw [← hq] at hr'
  simp only [ho, Sem.run_bind, Sem.run_pure, Result.andThen_ok, hr']
  exact hK _ _ (h _ _ (q8 w e cs) (World.grownBy_alloc _ _ _))
theorem aK6 {w : World} {base e size g n cap m : Nat} {vs : List Value} (h : w.ownsRow base e size (.slice (some ⟨g, 0, none⟩) n cap) n vs) (hm : m ≤ n) : w.ownsRow base e size (.slice (some ⟨g, 0, none⟩) m cap) m (vs.take (m * size)) := by
 have h0 := h.1
 rcases h.2 with ⟨h, _⟩ | ⟨g', cap', cur, hv, hb, hg, hc, hmx, hs, ht⟩
 ·cases h
 ·simp only [Value.slice.injEq, Option.some.injEq, Addr.mk.injEq] at hv
  obtain ⟨⟨rfl, _⟩, _, rfl⟩ := hv
  have hle : m * size ≤ n * size := Nat.mul_le_mul_right _ hm
  refine ⟨by rw [List.length_take, h0]; omega, .inr ⟨g, cap, cur, rfl, hb, hg, by omega, hmx, hs, ?_⟩⟩
  rw [← ht, List.take_take, Nat.min_eq_left hle]
theorem a6J {w : World} {base e size n x : Nat} {v : Value} {vs : List Value} (h : w.ownsRow base e size v n vs) (hx : v.ownBlock = some x) : ∃ cur, w.heap[x]? = some (.cells cur e (0, 0)) := by
 rcases h.2 with ⟨rfl, -⟩ | ⟨g, cap, cur, rfl, -, hg, -⟩
 ·cases hx
 ·cases hx
  exact ⟨cur, hg⟩
theorem aK3 {w : World} {base e size n x base' e' size' n' : Nat} {v v' : Value} {vs vs' : List Value} (h : w.ownsRow base e size v n vs) (h' : w.ownsRow base' e' size' v' n' vs') (he : e ≠ e') (hx : v.ownBlock = some x) : ¬ v'.ownBlock = some x := fun hy => by
 obtain ⟨c1, k1⟩ := a6J h hx
 obtain ⟨c2, k2⟩ := a6J h' hy
 rw [k1] at k2
 injection k2 with k2
 injection k2 with _ k3
 exact he k3
theorem a1o {w : World} {base e size n g t : Nat} {v : Value} {vs : List Value} {cs : Array Value} (h : w.ownsRow base e size v n vs) (A : VAt w g t cs) (he : e ≠ t) : ¬ v.ownBlock = some g := fun hx => by
 obtain ⟨c1, k1⟩ := a6J h hx
 unfold VAt at A
 rw [k1] at A
 injection A with A
 injection A with _ A
 exact he A
theorem a0B {w w' : World} {base e size n g : Nat} {v : Value} {vs : List Value} (h : w.ownsRow base e size v n vs) (K : w.grownBy w' (some g)) (hne : ¬ v.ownBlock = some g) : w'.ownsRow base e size v n vs := h.kept K (.inr hne)

end Go.Proofs.YtklipelnjgpnjaaGreatDoor
