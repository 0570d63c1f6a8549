import Derived.Test.YtklipelnjgpnjaaGreatDoorNAb
import Derived.Test.YtklipelnjgpnjaaGreatDoorLotN16
import Derived.Test.YtklipelnjgpnjaaGreatDoorLotN1
import Derived.Test.YtklipelnjgpnjaaGreatDoorLotN5
import Derived.Shelf.Strings.Builder1
import Derived.Deep.RegionHeld3
import Derived.OrdersIn
import Derived.Maps.AppendAt
import Derived.RangeFuncCalls
set_option maxHeartbeats 64000000
set_option maxRecDepth 100000
namespace Go.Proofs.YtklipelnjgpnjaaGreatDoor
open Go.RowKit Go.Shelf

attribute [local go_sem] Oper.semAt_some
theorem a2K {X Y : World} {row : Option Nat} {g t : Nat} {xs : List UInt8} (h : AAt X g t xs) (hg : X.grownBy Y row) (hr : ∀ r, row = some r → ∃ o : Obj, X.heap[r]? = some o ∧ o.isCells = false) : AAt Y g t xs :=
 h.grown hg (fun e => by
  obtain ⟨o, ho, hc⟩ := hr g e
  unfold AAt at h
  rw [h] at ho
  cases ho
  cases hc)
theorem J5 {X Y : World} {row : Option Nat} {B : Nat} {t : TypeId} {v : Value} (h : Boxed X B t v) (hg : X.grownBy Y row) (hr : ∀ r, row = some r → ∃ o : Obj, X.heap[r]? = some o ∧ o.isCells = false) : Boxed Y B t v :=
 h.kept hg (fun e => by
  obtain ⟨o, ho, hc⟩ := hr B e.symm
  unfold Boxed at h
  rw [h] at ho
  cases ho
  cases hc)
def a1b (pre : List (Nat × List UInt8)) : List UInt8 := pre.foldl (fun a p => a.set p.1 (UInt8.ofNat ((B5 255 p.2).getD 0))) (List.replicate 4 0)
def a28 (pre : List (Nat × List UInt8)) : Prop := ∀ p ∈ pre, (B5 255 p.2).isSome = true ∧ p.1 < 4
theorem ag8 (pre : List (Nat × List UInt8)) (x : Nat × List UInt8) : a1b (pre ++ [x]) = (a1b pre).set x.1 (UInt8.ofNat ((B5 255 x.2).getD 0)) := by simp [a1b]
theorem T8 {W : World} {B b i : Nat} {t : TypeId} {v : Value} (u : Value) (h : Boxed W B t v) (hb : B ≠ b) : Boxed (W.setCell ⟨b, i, none⟩ u) B t v := by
 unfold Boxed at *
 rw [heap_setCell_other _ _ _ _ hb]
 exact h
theorem a7l (pre : List (Nat × List UInt8)) : (a1b pre).length = 4 := by
 have key : ∀ (l : List (Nat × List UInt8)) (a : List UInt8), (l.foldl (fun a p => a.set p.1 (UInt8.ofNat ((B5 255 p.2).getD 0))) a).length = a.length := by
  intro l
  induction l with
  | nil => intro a; rfl
  | cons x r ih => intro a; rw [List.foldl_cons, ih, List.length_set]
 exact key pre _
theorem T0 (W : World) (o : Obj) (k : Nat) (h : W.heap.size = k) : (W.alloc o).heap[k]? = some o := by subst h; exact heap_alloc_new W o
theorem D3 {W : World} {k : Nat} {o : Obj} (h : W.heap[k]? = some o) (o' : Obj) : (W.alloc o').heap[k]? = some o :=
 (by show (W.heap.push o')[k]? = some o; rw [Array.getElem?_push, if_neg (Nat.ne_of_lt (Array.getElem?_eq_some_iff.1 h).1)]; exact h)
theorem aI9 (w : World) (s m : ByteArray) : ∀ W0, ((((((w.alloc (.cells #[.int .u8 0, .int .u8 0, .int .u8 0, .int .u8 0] 114)).alloc (.cells #[.int .i64 0] 23)).alloc (.cells #[.int .u8 0, .int .u8 0, .int .u8 0, .int .u8 0] 114)).alloc (.cells #[.int .i64 0] 3)).alloc (.cells #[.string s] 9)).alloc (.cells #[.string m] 9)) = W0 →
  AAt W0 w.heap.size 114 (List.replicate 4 0) ∧ Boxed W0 (w.heap.size + 1) 23 (.int .i64 0) ∧ AAt W0 (w.heap.size + 1 + 1) 114 (List.replicate 4 0) ∧ Boxed W0 (w.heap.size + 1 + 1 + 1) 3 (.int .i64 0) ∧ Boxed W0 (w.heap.size + 1 + 1 + 1 + 1) 9 (.string s) ∧ Boxed W0 (w.heap.size + 1 + 1 + 1 + 1 + 1) 9 (.string m) ∧ w.grownBy W0 none ∧ W0.heap.size = w.heap.size + 6 := by
 rintro W0 rfl
 refine ⟨?_, ?_, ?_, ?_, ?_, ?_, ?_, ?_⟩
 ·exact D3 (D3 (D3 (D3 (D3 (T0 _ _ _ rfl) _) _) _) _) _
 ·exact D3 (D3 (D3 (D3 (T0 _ _ _ (by simp only [World.size_alloc])) _) _) _) _
 ·exact D3 (D3 (D3 (T0 _ _ _ (by simp only [World.size_alloc])) _) _) _
 ·exact D3 (D3 (T0 _ _ _ (by simp only [World.size_alloc])) _) _
 ·exact D3 (T0 _ _ _ (by simp only [World.size_alloc])) _
 ·exact T0 _ _ _ (by simp only [World.size_alloc])
 ·exact d3 (d3 (d3 (d3 (d3 (World.grownBy_alloc _ _ _) (World.grownBy_alloc _ _ _)) (World.grownBy_alloc _ _ _)) (World.grownBy_alloc _ _ _)) (World.grownBy_alloc _ _ _)) (World.grownBy_alloc _ _ _)
 ·simp only [World.size_alloc]
theorem a1c {w W : World} (G : w.grownBy W none) : Below w.heap.size w W := (Below.refl _ _).grown G (Nat.le_refl _) (by simp)
theorem a0t {w W : World} (h : Below w.heap.size w W) : w.grownBy W none := ⟨h.os, h.tape, h.output, h.size, fun k hk _ => h.block k hk⟩
def I4 (w : World) (R E A F : Nat) (pre : List (Nat × List UInt8)) (W : World) : Prop :=
 (a28 pre ∧ AAt W A 114 (a1b pre) ∧ Boxed W F 3 (.int .i64 (pre.length : Int)) ∧ AAt W R 114 (List.replicate 4 0) ∧ Boxed W E 23 (.int .i64 0)) ∧ Below w.heap.size w W
def X4 (w : World) (R E : Nat) (c : Code) (pre : List (Nat × List UInt8)) (W : World) : Prop :=
 (c = .ret ∧ ¬ a28 pre ∧ AAt W R 114 (List.replicate 4 0) ∧ Boxed W E 23 (.int .i64 60)) ∧ Below w.heap.size w W
theorem ae2 (w : World) (R E A F B : Nat) (hB : w.heap.size ≤ B) : OwnFrom B (I4 w R E A F) :=
 OwnFrom.and (Own.from (fun _ _ _ _ hs hg hr => ⟨hs.1, a2K hs.2.1 hg hr, J5 hs.2.2.1 hg hr, a2K hs.2.2.2.1 hg hr, J5 hs.2.2.2.2 hg hr⟩) _) (ownFrom_below (Nat.le_refl _) hB)
theorem af2 (w : World) (R E B : Nat) (hB : w.heap.size ≤ B) (c : Code) : OwnFrom B (X4 w R E c) :=
 OwnFrom.and (Own.from (fun _ _ _ _ hs hg hr => ⟨hs.1, hs.2.1, a2K hs.2.2.1 hg hr, J5 hs.2.2.2 hg hr⟩) _) (ownFrom_below (Nat.le_refl _) hB)
theorem z4 {X : World} {R : Nat} (j : Nat) (h : AAt X R 114 (List.replicate 4 0)) : AAt (X.setCell ⟨R, j, none⟩ (.int .u8 0)) R 114 (List.replicate 4 0) := by
 have := h.set j 0 (by decide)
 rw [show UInt8.ofNat 0 = 0 from rfl, List.set_replicate_self] at this
 exact this
theorem a6s {w W : World} {R E : Nat} (hR : AAt W R 114 (List.replicate 4 0)) (hE : Boxed W E 23 (.int .i64 0)) (hB : Below w.heap.size w W) (n : R ≠ E) (l1 : w.heap.size ≤ R) (l2 : w.heap.size ≤ E) :
  ∀ X, ((((((W.setCell ⟨R, 0, none⟩ (.int .u8 0)).setCell ⟨R, 1, none⟩ (.int .u8 0)).setCell ⟨R, 2, none⟩ (.int .u8 0)).setCell ⟨R, 3, none⟩ (.int .u8 0)).setCell ⟨E, 0, none⟩ (.int .i64 60))) = X →
  KeepsOthers W X ∧ AAt X R 114 (List.replicate 4 0) ∧ Boxed X E 23 (.int .i64 60) ∧ Below w.heap.size w X := by
 rintro X rfl
 refine ⟨((((KeepsOthers.setCell _ _ _).trans (KeepsOthers.setCell _ _ _)).trans (KeepsOthers.setCell _ _ _)).trans (KeepsOthers.setCell _ _ _)).trans (KeepsOthers.setCell _ _ _), ?_, ?_, ?_⟩
 ·exact (z4 3 (z4 2 (z4 1 (z4 0 hR)))).setOther _ n
 ·exact Boxed.set _ (T8 _ (T8 _ (T8 _ (T8 _ hE (Ne.symm n)) (Ne.symm n)) (Ne.symm n)) (Ne.symm n))
 ·exact ((((hB.setCell (p := ⟨R, 0, none⟩) l1 _).setCell (p := ⟨R, 1, none⟩) l1 _).setCell (p := ⟨R, 2, none⟩) l1 _).setCell (p := ⟨R, 3, none⟩) l1 _).setCell (p := ⟨E, 0, none⟩) l2 _
theorem aW4 {w W : World} {R E : Nat} (a b c d : UInt8) (ev : Int) {xs : List UInt8} (hx : xs.length = 4) {eo : Value} (hR : AAt W R 114 xs) (hE : Boxed W E 23 eo) (hB : Below w.heap.size w W) (n : R ≠ E) (l1 : w.heap.size ≤ R) (l2 : w.heap.size ≤ E) :
  ∀ X, ((((((W.setCell ⟨R, 0, none⟩ (.int .u8 (a.toNat : Int))).setCell ⟨R, 1, none⟩ (.int .u8 (b.toNat : Int))).setCell ⟨R, 2, none⟩ (.int .u8 (c.toNat : Int))).setCell ⟨R, 3, none⟩ (.int .u8 (d.toNat : Int))).setCell ⟨E, 0, none⟩ (.int .i64 ev))) = X →
  KeepsOthers W X ∧ AAt X R 114 [a, b, c, d] ∧ Boxed X E 23 (.int .i64 ev) ∧ Below w.heap.size w X := by
 rintro X rfl
 refine ⟨((((KeepsOthers.setCell _ _ _).trans (KeepsOthers.setCell _ _ _)).trans (KeepsOthers.setCell _ _ _)).trans (KeepsOthers.setCell _ _ _)).trans (KeepsOthers.setCell _ _ _), ?_, ?_, ?_⟩
 ·have h := ((((hR.set 0 a.toNat a.toNat_lt).set 1 b.toNat b.toNat_lt).set 2 c.toNat c.toNat_lt).set 3 d.toNat d.toNat_lt).setOther (i := 0) (.int .i64 ev) n
  simp only [UInt8.ofNat_toNat] at h
  match xs, hx with
  | [p, q, r, t], _ => exact h
 ·exact Boxed.set _ (T8 _ (T8 _ (T8 _ (T8 _ hE (Ne.symm n)) (Ne.symm n)) (Ne.symm n)) (Ne.symm n))
 ·exact ((((hB.setCell (p := ⟨R, 0, none⟩) l1 _).setCell (p := ⟨R, 1, none⟩) l1 _).setCell (p := ⟨R, 2, none⟩) l1 _).setCell (p := ⟨R, 3, none⟩) l1 _).setCell (p := ⟨E, 0, none⟩) l2 _
theorem a5K (pre : List (Nat × List UInt8)) (x : Nat × List UInt8) : a28 (pre ++ [x]) ↔ a28 pre ∧ (B5 255 x.2).isSome = true ∧ x.1 < 4 := by
 unfold a28
 constructor
 ·intro h
  exact ⟨fun p hp => h p (by simp [hp]), h x (by simp)⟩
 ·rintro ⟨h1, h2⟩ p hp
  rcases List.mem_append.1 hp with hp | hp
  ·exact h1 p hp
  ·simp only [List.mem_singleton] at hp
   subst hp
   exact h2
theorem a6f {α : Type} {i : Nat} {l : List α} {p : Nat × α} (h : p ∈ k6 i l) : p.1 < i + l.length ∧ p.2 ∈ l := by
 induction l generalizing i with
 | nil => cases h
 | cons x r ih =>
  rw [k6] at h
  rcases List.mem_cons.1 h with rfl | h
  ·simp
  ·have := ih h
   refine ⟨by simp only [List.length_cons]; omega, List.mem_cons_of_mem _ this.2⟩
theorem a7f {α β : Type} {f : α → Option β} {xs : List α} {vs : List β} (h : T7 f xs = some vs) : ∀ x ∈ xs, (f x).isSome = true := by
 intro x hx
 obtain ⟨i, hi, rfl⟩ := List.getElem_of_mem hx
 cases hf : f xs[i] with
 | none => rw [af8 hi hf] at h; cases h
 | some v => rfl
theorem a7e {α : Type} {f : α → Option Nat} {xs : List α} (h : ∀ x ∈ xs, (f x).isSome = true) : T7 f xs = some (xs.map fun x => (f x).getD 0) := by
 induction xs with
 | nil => rfl
 | cons x r ih =>
  have hx := h x (by simp)
  cases hf : f x with
  | none => rw [hf] at hx; cases hx
  | some v => simp only [T7, hf, ih (fun y hy => h y (by simp [hy])), List.map_cons, Option.bind_some, Option.map_some, Option.getD_some]
theorem at2 (s : List UInt8) (h : a28 (k6 0 (j4 46 s))) : (j4 46 s).length ≤ 4 ∧ ((j4 46 s).length = 4 → L1 s = some (a1b (k6 0 (j4 46 s)))) ∧ ((j4 46 s).length ≠ 4 → L1 s = none) := by
 refine ⟨?_, fun h4 => ?_, fun h4 => by rw [L1, if_neg h4]⟩
 ·rcases Nat.lt_or_ge 4 (j4 46 s).length with hl | hl
  ·have := (h _ (List.mem_of_getElem? (a6e 0 (j4 46 s) 4 hl))).2
   simp only at this
   omega
  ·exact hl
 ·have ha : ∀ x ∈ j4 46 s, (B5 255 x).isSome = true := fun x hx => by
   rw [← a4y 0 (j4 46 s)] at hx
   obtain ⟨p, hp, rfl⟩ := List.mem_map.1 hx
   exact (h p hp).1
  rw [L1, if_pos h4, a7e ha]
  generalize j4 46 s = ls at *
  match ls, h4 with
  | [a, b, c, d], _ => rfl
theorem aF5 (s : List UInt8) {pre : List (Nat × List UInt8)} (hp : pre <+: k6 0 (j4 46 s)) (h : ¬ a28 pre) : L1 s = none := by
 rw [L1]
 split
 ·rename_i h4
  cases ha : T7 (B5 255) (j4 46 s) with
  | none => rfl
  | some ns =>
   exfalso
   refine h fun p hm => ?_
   have hm2 := a6f (hp.subset hm)
   exact ⟨a7f ha _ hm2.2, by omega⟩
 ·rfl
theorem a6t {P : Program} {fn : Func} {p q : Tmp} {ty te : TypeId} (h : fn.results = #[.cell p ty, .cell q te]) (tmps : Array Value) (w : World) (g e : Nat) (xs : List UInt8) (n : Nat) (el : TypeId) (k : IntKind) (v : Int) (hp : tmps.getD p undef = .pointer (some ⟨g, 0, none⟩)) (hq : tmps.getD q undef = .pointer (some ⟨e, 0, none⟩)) (A : AAt w g ty xs) (B : Boxed w e te (.int k v))
  (hu : P.underlying ty = some (.array n el)) (hi : (P.info? ty).map (·.size) = some xs.length) (hv : P.underlying te = some (.int k)) : (results fn tmps).run P w = .ok (.tuple #[.agg (xs.map bv).toArray, .int k v]) w := by
 have hp' : tmps[p]?.getD undef = .pointer (some ⟨g, 0, none⟩) := by simpa using hp
 have hq' : tmps[q]?.getD undef = .pointer (some ⟨e, 0, none⟩) := by simpa using hq
 have h1 := run_loadVar_row (P := P) w g ty ty (xs.map bv).toArray (0, 0) _ A hu rfl (by rw [S2]; exact hi)
 have h2 : (loadVar te ⟨e, 0, none⟩).run P w = .ok (.int k v) w := by
  have hc := B.cell
  have hag : (isAgg te).run P w = .ok false w := run_isAgg_plain hv rfl w
  simp [loadVar, Sem.run_bind, hag, go_sem, hc]
 simp [results, h, hp', hq', asAddr, h1, h2, Sem.run_bind]
theorem aI7 (s : ByteArray) (w : World) (hs : s.size ≤ 1048576) (T : j2 w) :
  Calls Tryz.prog 235 #[.string s] w fun e w' => e = .returned (.tuple #[a41 4 (L1 (sl s)), .int .i64 (a48 (L1 (sl s)))]) ∧ w.grownBy w' none := by
 have HT : Hid (j2 w) := T
 have h3 := T.size
 clear T
 refine (callsIn_wide (n := 3)).1 ?_
 refine callsIn_of_wp_marks Tryz.func235 rfl trivial ?_ rfl
 simp only [Tryz.ntmps235, List.size_toArray, List.length_cons, List.length_nil, Nat.reduceAdd, Nat.reduceSub, Array.replicate_succ, Array.replicate_zero, List.push_toArray, List.append_toArray, List.nil_append, List.cons_append]
 gi_wp2_with (refine ⟨trivial, ?_⟩; gi_at_call 238; refine (callsIn_wide.2 (a7h _ _ _)).mono ?_; rintro e w' ⟨rfl, rfl⟩)
 obtain ⟨W0, hW0⟩ : ∃ W0, ((((((w.alloc (.cells #[.int .u8 0, .int .u8 0, .int .u8 0, .int .u8 0] 114)).alloc (.cells #[.int .i64 0] 23)).alloc (.cells #[.int .u8 0, .int .u8 0, .int .u8 0, .int .u8 0] 114)).alloc (.cells #[.int .i64 0] 3)).alloc (.cells #[.string s] 9)).alloc (.cells #[.string ⟨#[46]⟩] 9)) = W0 := ⟨_, rfl⟩
 obtain ⟨fR, fE, fA, fF, fS, fM, G0, hsz⟩ := aI9 w s ⟨#[46]⟩ W0 hW0
 rw [hW0]
 clear hW0
 obtain ⟨M, hM⟩ : ∃ k, w.heap.size + 1 + 1 + 1 + 1 + 1 = k := ⟨_, rfl⟩
 rw [hM] at fM ⊢
 obtain ⟨Bs, hBs⟩ : ∃ k, w.heap.size + 1 + 1 + 1 + 1 = k := ⟨_, rfl⟩
 rw [hBs] at fS ⊢
 obtain ⟨F, hF⟩ : ∃ k, w.heap.size + 1 + 1 + 1 = k := ⟨_, rfl⟩
 rw [hF] at fF ⊢
 obtain ⟨A, hA⟩ : ∃ k, w.heap.size + 1 + 1 = k := ⟨_, rfl⟩
 rw [hA] at fA ⊢
 obtain ⟨E, hE⟩ : ∃ k, w.heap.size + 1 = k := ⟨_, rfl⟩
 rw [hE] at fE ⊢
 obtain ⟨R, hR⟩ : ∃ k, w.heap.size = k := ⟨_, rfl⟩
 rw [show (Value.pointer (some ⟨w.heap.size, 0, none⟩)) = .pointer (some ⟨R, 0, none⟩) by rw [hR]]
 rw [hR] at fR
 have ne : Hid (M ≠ A ∧ M ≠ F ∧ M ≠ R ∧ M ≠ E ∧ A ≠ F ∧ A ≠ R ∧ A ≠ E ∧ F ≠ R ∧ F ≠ E ∧ R ≠ E ∧ w.heap.size ≤ A ∧ w.heap.size ≤ F ∧ w.heap.size ≤ R ∧ w.heap.size ≤ E) := by
  refine ⟨?_, ?_, ?_, ?_, ?_, ?_, ?_, ?_, ?_, ?_, ?_, ?_, ?_, ?_⟩ <;> omega
 clear hM hBs hF hA hE hR
 have hle : w.heap.size ≤ W0.heap.size := G0.size
 have HS := m8 s
 refine wpIn_rangeFunc_ownF rfl (by omega) (gf := 243) (lb := #[.pointer (some ⟨Bs, 0, none⟩), .pointer (some ⟨M, 0, none⟩)]) rfl trivial (enters_of Tryz.func243 (by kernel_rfl) rfl)
  (a9s _ (by omega) Bs M w.heap.size (fun k => k = M) 46 (sl s) (by omega) (.inl rfl) h3 W0 (HT.out.grown G0) (by rw [← a0D]; exact fS.cell) fM.cell)
  (fun h k => h.trans k) (Kp.book hle) (Below.refl _ _) (fun _ => rfl)
  (I4 w R E A F) (X4 w R E) (ae2 w R E A F _ hle) (fun c => af2 w R E _ hle c)
  ⟨⟨(fun p hp => absurd hp (by simp)), fA, fF, fR, fE⟩, a1c G0⟩
  (fun x => { tmps := #[.string s, undef, .pointer (some ⟨R, 0, none⟩), .pointer (some ⟨E, 0, none⟩), .pointer (some ⟨A, 0, none⟩), .pointer (some ⟨F, 0, none⟩), .int .i64 (x.1 : Int), str x.2, undef, undef, .string s, .func (.func 243) #[] #[.pointer (some ⟨Bs, 0, none⟩), .pointer (some ⟨M, 0, none⟩)], .int .i64 (x.1 : Int), str x.2, undef, undef, undef, undef, undef, undef, undef, undef, undef, undef, undef, undef, undef, undef, undef, undef, undef, undef, undef, undef, undef], defers := [] }) ?assign ?body ?done ?stop
 case assign =>
  intro l x W K hK
  gi_wp2
  exact hK
 case body =>
  rintro l pre ⟨i, t⟩ W ⟨⟨hg, hA, hF, hRr, hEe⟩, hB⟩ hlen
  have hO := aG6 ⟨t.toArray⟩ W
  have hlt := a7l pre
  have hcR0 := hRr.cell (i := 0) (by decide)
  have hcR1 := hRr.cell (i := 1) (by decide)
  have hcR2 := hRr.cell (i := 2) (by decide)
  have hcR3 := hRr.cell (i := 3) (by decide)
  have fr0 := hRr.free 0
  have fr1 := hRr.free 1
  have fr2 := hRr.free 2
  have fr3 := hRr.free 3
  have hcE := hEe.cell
  have frE := hEe.frozen
  have hcF := hF.cell
  have frF := hF.frozen
  simp only [List.getElem_replicate] at hcR0 hcR1 hcR2 hcR3
  obtain ⟨n1, n2, n3, n4, n5, n6, n7, n8, n9, n10, l1, l2, l3, l4⟩ := ne.out
  have n10' : E ≠ R := Ne.symm n10
  cases hn : B5 255 t with
  | none =>
   have CO : Calls Tryz.prog 239 #[str t] W fun e w' => (∃ n : Nat, e = .returned (.tuple #[.int .u8 (n : Int), .bool false])) ∧ W = w' := hO.mono (by
    rintro e w' ⟨⟨n, rfl, -, -⟩, rfl⟩
    rw [show B5 255 (sl ⟨t.toArray⟩) = none from hn]
    exact ⟨⟨n, rfl⟩, rfl⟩)
   clear hO
   gi_wp2_with (refine ⟨trivial, ?_⟩; gi_at_call 239; refine (CallsIn.inRound l (callsIn_wide.2 CO)).mono ?_; rintro e w' ⟨⟨n, rfl⟩, rfl⟩)
   obtain ⟨k1, k2, k3, k4⟩ := a6s hRr hEe hB n10 l3 l4 _ rfl
   exact ⟨k1, ⟨rfl, fun h => (by have := ((a5K _ _).1 h).2.1; rw [show B5 255 (i, t).2 = none from hn] at this; cases this), k2, k3⟩, k4⟩
  | some u =>
   have hu : u ≤ 255 := aG4 hn
   have CO : Calls Tryz.prog 239 #[str t] W fun e w' => e = .returned (.tuple #[.int .u8 (u : Int), .bool true]) ∧ W = w' := hO.mono (by
    rintro e w' ⟨⟨n, rfl, -, hnu⟩, rfl⟩
    have hn' : B5 255 (sl ⟨t.toArray⟩) = some u := hn
    obtain rfl := hnu u hn'
    rw [hn']
    exact ⟨rfl, rfl⟩)
   clear hO
   by_cases hi4 : 4 ≤ i
   ·have hi4' : (4 : Int) ≤ (i : Int) := by omega
    gi_wp2_with (refine ⟨trivial, ?_⟩; gi_at_call 239; refine (CallsIn.inRound l (callsIn_wide.2 CO)).mono ?_; rintro e w' ⟨rfl, rfl⟩)
    obtain ⟨k1, k2, k3, k4⟩ := a6s hRr hEe hB n10 l3 l4 _ rfl
    exact ⟨k1, ⟨rfl, fun h => (by have := ((a5K _ _).1 h).2.2; simp only at this; omega), k2, k3⟩, k4⟩
   ·have hi4' : ¬ (4 : Int) ≤ (i : Int) := by omega
    have hil : i < 4 := by omega
    have hil' : (i : Int) < 4 := by omega
    have hcA : W.cell? ⟨A, i, none⟩ = some (.int .u8 (((a1b pre)[i]'(by omega)).toNat : Int)) := hA.cell (i := i) (by omega)
    generalize ((a1b pre)[i]'(by omega)).toNat = old at hcA
    have frA := hA.free i
    have hw : IntKind.u8.wrap (u : Int) = u := by rw [IntKind.wrap_u8]; omega
    have A2 := hA.set i u (by omega)
    have B2 := T8 (i := i) (.int .u8 (u : Int)) hF (Ne.symm n5)
    have cF2 := B2.cell
    have fF2 := B2.frozen
    have hpl : pre.length ≤ 1048577 := by
     have := a6E 46 [] (sl s)
     unfold j4 at hlen
     omega
    have hM : Kp w.heap.size (fun k => k = M) W ((W.setCell ⟨A, i, none⟩ (.int .u8 (u : Int))).setCell ⟨F, 0, none⟩ (.int .i64 ((pre.length : Int) + 1))) := by
     refine ⟨((Below.refl _ _).setCell (p := ⟨A, i, none⟩) l1 _).setCell (p := ⟨F, 0, none⟩) l2 _, ?_⟩
     rintro k o rfl ho -
     rw [heap_setCell_other _ _ _ _ (show k ≠ F from n2), heap_setCell_other _ _ _ _ (show k ≠ A from n1)]
     exact ho
    clear hcR0 hcR1 hcR2 hcR3 fr0 fr1 fr2 fr3 hcE frE hcF frF
    gi_wp2_with (refine ⟨trivial, ?_⟩; gi_at_call 239; refine (CallsIn.inRound l (callsIn_wide.2 CO)).mono ?_; rintro e w' ⟨rfl, rfl⟩)
    refine ⟨(KeepsOthers.setCell _ _ _).trans (KeepsOthers.setCell _ _ _), hM, ⟨(a5K _ _).2 ⟨hg, by rw [show B5 255 (i, t).2 = some u from hn]; rfl, hil⟩, ?_, ?_, ?_, ?_⟩, ?_⟩
    ·rw [ag8, show B5 255 (i, t).2 = some u from hn]
     exact A2.setOther _ n5
    ·rw [List.length_append, show ((pre.length + [(i, t)].length : Nat) : Int) = (pre.length : Int) + 1 by simp]
     exact B2.set _
    ·exact (hRr.setOther _ (Ne.symm n6)).setOther _ (Ne.symm n8)
    ·exact T8 _ (T8 _ hEe (Ne.symm n7)) (Ne.symm n9)
    ·exact (hB.setCell (p := ⟨A, i, none⟩) l1 _).setCell (p := ⟨F, 0, none⟩) l2 _
 case done =>
  rintro D xs W hD rfl ⟨⟨hg, hA, hF, hRr, hEe⟩, hB⟩ hK
  obtain ⟨g1, g2, g3⟩ := at2 (sl s) hg
  have hcF := hF.cell
  rw [a2j] at hcF
  have hcR0 := hRr.cell (i := 0) (by decide)
  have hcR1 := hRr.cell (i := 1) (by decide)
  have hcR2 := hRr.cell (i := 2) (by decide)
  have hcR3 := hRr.cell (i := 3) (by decide)
  have fr0 := hRr.free 0
  have fr1 := hRr.free 1
  have fr2 := hRr.free 2
  have fr3 := hRr.free 3
  have hcE := hEe.cell
  have frE := hEe.frozen
  simp only [List.getElem_replicate] at hcR0 hcR1 hcR2 hcR3
  obtain ⟨n1, n2, n3, n4, n5, n6, n7, n8, n9, n10, l1, l2, l3, l4⟩ := ne.out
  have n10' : E ≠ R := Ne.symm n10
  have hlA := a7l (k6 0 (j4 46 (sl s)))
  clear hF fA fF fR fE fM fS
  by_cases h4 : (j4 46 (sl s)).length = 4
  ·have HN : Hid (L1 (sl s) = some (a1b (k6 0 (j4 46 (sl s))))) := g2 h4
   rw [h4] at hcF
   rw [show (((4 : Nat) : Int)) = 4 from rfl] at hcF
   clear g1 g2 g3 hg h4
   generalize a1b (k6 0 (j4 46 (sl s))) = ys at *
   obtain ⟨a, b, c, d, rfl⟩ : ∃ a b c d, ys = [a, b, c, d] := by
    match ys, hlA with
    | [a, b, c, d], _ => exact ⟨a, b, c, d, rfl⟩
   have hcA0 : W.cell? ⟨A, 0, none⟩ = some (.int .u8 (a.toNat : Int)) := hA.cell (i := 0) (by simp)
   have hcA1 : W.cell? ⟨A, 1, none⟩ = some (.int .u8 (b.toNat : Int)) := hA.cell (i := 1) (by simp)
   have hcA2 : W.cell? ⟨A, 2, none⟩ = some (.int .u8 (c.toNat : Int)) := hA.cell (i := 2) (by simp)
   have hcA3 : W.cell? ⟨A, 3, none⟩ = some (.int .u8 (d.toNat : Int)) := hA.cell (i := 3) (by simp)
   gi_wp2
   obtain ⟨X, hX⟩ : ∃ X, ((((((W.setCell ⟨R, 0, none⟩ (.int .u8 (a.toNat : Int))).setCell ⟨R, 1, none⟩ (.int .u8 (b.toNat : Int))).setCell ⟨R, 2, none⟩ (.int .u8 (c.toNat : Int))).setCell ⟨R, 3, none⟩ (.int .u8 (d.toNat : Int))).setCell ⟨E, 0, none⟩ (.int .i64 0))) = X := ⟨_, rfl⟩
   rw [hX]
   obtain ⟨k1, k2, k3, k4⟩ := aW4 a b c d 0 rfl hRr hEe hB n10 l3 l4 X hX
   clear hX
   have hK' := k1.same D _ hK rfl
   refine ⟨by simp, .inl ⟨_, _, rfl, run_takeDeferred hK', ?_⟩⟩
   have hr : ∀ r, some D = some r → ∃ o : Obj, X.heap[r]? = some o ∧ o.isCells = false := fun r e => by cases e; exact ⟨_, hK', rfl⟩
   refine ⟨_, a6t rfl _ _ R E [a, b, c, d] 4 5 .i64 0 rfl rfl (a2K k2 (grownBy_putObj' _ D (.deferred none)) hr) (J5 k3 (grownBy_putObj' _ D (.deferred none)) hr) Tryz.underlying114 a3L Tryz.underlying23, ?_, ?_⟩
   ·rw [HN.out]; rfl
   ·exact a0t (k4.trans (belowK_b (w := w) (Nat.le_refl _) _ D _ _ (by omega) hK' rfl rfl))
  ·have HN : Hid (L1 (sl s) = none) := g3 h4
   have h4' : (((j4 46 (sl s)).length : Int) != 4) = true := by rw [bne_iff_ne]; omega
   clear g2 g3 hg h4
   generalize (j4 46 (sl s)).length = N at *
   gi_wp2
   obtain ⟨X, hX⟩ : ∃ X, ((((((W.setCell ⟨R, 0, none⟩ (.int .u8 0)).setCell ⟨R, 1, none⟩ (.int .u8 0)).setCell ⟨R, 2, none⟩ (.int .u8 0)).setCell ⟨R, 3, none⟩ (.int .u8 0)).setCell ⟨E, 0, none⟩ (.int .i64 60))) = X := ⟨_, rfl⟩
   rw [hX]
   obtain ⟨k1, k2, k3, k4⟩ := a6s hRr hEe hB n10 l3 l4 X hX
   clear hX
   have hK' := k1.same D _ hK rfl
   refine ⟨by simp, .inl ⟨_, _, rfl, run_takeDeferred hK', ?_⟩⟩
   have hr : ∀ r, some D = some r → ∃ o : Obj, X.heap[r]? = some o ∧ o.isCells = false := fun r e => by cases e; exact ⟨_, hK', rfl⟩
   refine ⟨_, a6t rfl _ _ R E (List.replicate 4 0) 4 5 .i64 60 rfl rfl (a2K k2 (grownBy_putObj' _ D (.deferred none)) hr) (J5 k3 (grownBy_putObj' _ D (.deferred none)) hr) Tryz.underlying114 a3L Tryz.underlying23, ?_, ?_⟩
   ·rw [HN.out]; rfl
   ·exact a0t (k4.trans (belowK_b (w := w) (Nat.le_refl _) _ D _ _ (by omega) hK' rfl rfl))
 case stop =>
  rintro D c pre W hD hpre ⟨⟨rfl, hbad, hRr, hEe⟩, hB⟩ hK
  have HN : Hid (L1 (sl s) = none) := aF5 (sl s) hpre hbad
  gi_wp2
  refine ⟨by simp, .inl ⟨_, _, rfl, run_takeDeferred hK, ?_⟩⟩
  have hr : ∀ r, some D = some r → ∃ o : Obj, W.heap[r]? = some o ∧ o.isCells = false := fun r e => by cases e; exact ⟨_, hK, rfl⟩
  refine ⟨_, a6t rfl _ _ R E (List.replicate 4 0) 4 5 .i64 60 rfl rfl (a2K hRr (grownBy_putObj' _ D (.deferred none)) hr) (J5 hEe (grownBy_putObj' _ D (.deferred none)) hr) Tryz.underlying114 a3L Tryz.underlying23, ?_, ?_⟩
  ·rw [HN.out]; rfl
  ·exact a0t (hB.trans (belowK_b (w := w) (Nat.le_refl _) W D _ _ (by omega) hK rfl rfl))
abbrev a57 (B b : Nat) (bs : List Value) (w : World) : Prop := Lib.BuilderAt 150 5 B b (.pointer (some ⟨b, 0, none⟩)) bs w
abbrev a1Z (B b : Nat) (bs : List Value) (w : World) : Prop := Lib.IsBuilder 150 5 B b bs w
theorem aj5 : (Tryz.prog.info? 150).map (·.size) = some 2 := by kernel_rfl
theorem aj4 : liesAt Tryz.prog Tryz.prog.depth 150 (2 / Tryz.prog.cellsOf 150) 0 150 1 = true := by kernel_rfl
theorem a7x (B b : Nat) (bs : List Value) (w : World) (h : a1Z B b bs w) :
  Calls Tryz.prog 168 #[.pointer (some ⟨b, 0, none⟩)] w fun e w' => e = .returned (.tuple #[]) ∧ a57 B b bs w' ∧ Below B w w' := by
 obtain ⟨j, hj, hjs⟩ := Option.map_eq_some_iff.1 aj5
 rcases h with h | h
 ·have h0 := h.cell0
  have hsh := h.shape
  have hfz := h.frozen0
  go_enter Tryz.func168, Tryz.ntmps168
  go_wp2
  rw [Lib.run_to_unsafe w ⟨b, 0, none⟩ Tryz.underlying148 Tryz.underlying186 hj (by rw [hjs]; decide) hsh (Nat.zero_lt_succ 1)]
  simp only [Result.andThen]
  rw [Oper.upon_value]
  go_wp2
  rw [run_callFunc_extern Tryz.func186 (by kernel_rfl) (by kernel_rfl) (by kernel_rfl) (e := Extern.AbiNoEscape.same) (by kernel_rfl)]
  rw [Lib.run_noEscape]
  simp only [Result.andThen]
  rw [Oper.upon_value]
  go_wp2
  rw [Lib.run_from_unsafe w ⟨b, 0, none⟩ Tryz.underlying186 Tryz.underlying148 hj hsh aj4]
  simp only [Result.andThen]
  rw [Oper.upon_value]
  go_wp2
  go_end0
  exact ⟨rfl, h.used _, (Below.refl B w).setCell (p := ⟨b, 0, none⟩) h.1 _⟩
 ·have h0 := h.cell0
  go_enter Tryz.func168, Tryz.ntmps168
  go_wp2
  rw [Lib.run_neq_ptr_same w _ Tryz.underlying148 hj]
  go_wp2
  go_end0
  exact ⟨rfl, h, Below.refl B _⟩
theorem a7G (B b : Nat) (bs : List Value) (s : ByteArray) (w : World) (h : a1Z B b bs w) (hlen : bs.length + s.size ≤ 140737488355328) (hBw : B ≤ w.heap.size) :
  Calls Tryz.prog 141 #[.pointer (some ⟨b, 0, none⟩), .string s] w fun e w' => e = .returned (.tuple #[.int .i64 s.size, .nilIface]) ∧ a57 B b (bs ++ Lib.strCells s) w' ∧ Below B w w' := by
 obtain ⟨i0, hi, hz0, hz1, hz2⟩ := info_parts a1f
 have CK := a7x B b bs w h
 clear h
 go_enter Tryz.func141, Tryz.ntmps141
 go_wp2_with fail
 refine CK.mono ?_
 rintro e w1 ⟨rfl, h1, hb1⟩
 clear CK
 obtain ⟨hB, v, hbk, hown, hne⟩ := h1
 have c0 : w1.cell? ⟨b, 0, none⟩ = some (.pointer (some ⟨b, 0, none⟩)) := by rw [Lib.cell_of_heap hbk]; rfl
 have c1 : w1.cell? ⟨b, 1, none⟩ = some v := by rw [Lib.cell_of_heap hbk]; rfl
 go_wp2_with (at_builtin; refine Lib.wpList_append_own_string _ rfl _ _ 115 9 rfl B 5 i0 Tryz.underlying115 Tryz.underlying9 hi hz0 hz1 hz2 _ _ _ rfl hown s rfl ?c3 ?c4 ?c5 ?_)
 case c3 => unfold maxLen; omega
 case c4 => omega
 case c5 => have := hb1.size; omega
 intro v' w2 hown' hgrow _
 have hlt : b < w1.heap.size := by
  rcases Nat.lt_or_ge b w1.heap.size with h' | h'
  ·exact h'
  ·simp [Array.getElem?_eq_none h'] at hbk
 have hb2 : w2.heap[b]? = some (.cells #[.pointer (some ⟨b, 0, none⟩), v] 150 (0, 0)) := by
  rw [hgrow.block b hlt (fun e => hne e.symm)]
  exact hbk
 have d0 : w2.cell? ⟨b, 0, none⟩ = some (.pointer (some ⟨b, 0, none⟩)) := by rw [Lib.cell_of_heap hb2]; rfl
 have d1 : w2.cell? ⟨b, 1, none⟩ = some v := by rw [Lib.cell_of_heap hb2]; rfl
 have f1 : w2.frozen? ⟨b, 1, none⟩ = false := Lib.frozen_of_heap hb2 1
 obtain ⟨ao, n', cap, rfl⟩ : ∃ ao n' cap, v' = .slice ao n' cap := by
  rcases hown'.2 with ⟨hv, _⟩ | ⟨g, cap, cur, hv, _⟩
  ·exact ⟨_, _, _, hv⟩
  ·exact ⟨_, _, _, hv⟩
 go_wp2
 go_ret2
 refine ⟨rfl, ?_, ?_⟩
 ·exact Lib.BuilderAt.put hB hb2 (bs' := bs ++ Lib.strCells s) (by simpa [Lib.strCells_length] using hown') (by decide)
 ·exact (hb1.grown hgrow (by have := hb1.size; omega) (fun k hk => (hown.lt k hk).1)).setCell (p := ⟨b, 1, none⟩) hB _
theorem ah7 (B b : Nat) (bs : List Value) (c : Int) (w : World) (h : a1Z B b bs w) (hlen : bs.length + 1 ≤ 140737488355328) (hBw : B ≤ w.heap.size) :
  Calls Tryz.prog 165 #[.pointer (some ⟨b, 0, none⟩), .int .u8 c] w fun e w' => e = .returned .nilIface ∧ a57 B b (bs ++ [.int .u8 c]) w' ∧ Below B w w' := by
 obtain ⟨i0, hi, hz0, hz1, hz2⟩ := info_parts a1f
 have CK := a7x B b bs w h
 clear h
 have HL : ∀ W : World, (Instr.buildSlice 115 1 #[(0, .int .u8 c)]).run Tryz.prog W = .ok (.slice (some ⟨W.heap.size, 0, none⟩) 1 1) (W.alloc (.cells [Value.int .u8 c].toArray 5)) := fun W => by kernel_rfl
 go_enter Tryz.func165, Tryz.ntmps165
 go_wp2_with fail
 refine CK.mono ?_
 rintro e w1 ⟨rfl, h1, hb1⟩
 clear CK
 obtain ⟨hB, v, hbk, hown, hne⟩ := h1
 have c0 : w1.cell? ⟨b, 0, none⟩ = some (.pointer (some ⟨b, 0, none⟩)) := by rw [Lib.cell_of_heap hbk]; rfl
 have c1 : w1.cell? ⟨b, 1, none⟩ = some v := by rw [Lib.cell_of_heap hbk]; rfl
 go_wp2_with (at_builtin; refine a0R rfl (.tmp 11) (.tmp 13) 115 rfl 5 i0 _ 1 1 Tryz.underlying115 hi hz0 hz1 hz2 rfl (by decide) B v bs.length bs rfl ?q1b (some ⟨w1.heap.size, 0, none⟩) 1 1 [Value.int .u8 c] rfl rfl (fun e => by cases e) ?q2b (by simp [Value.oneCell']) ?q3b ?q4b ?q5b ?_)
 case q1b => exact hown.alloc _
 case q2b => exact o4 w1 _ _
 case q3b => unfold maxLen; omega
 case q4b => omega
 case q5b => have := hb1.size; simp; omega
 intro v' w2 hown' hgrow
 have hlt : b < w1.heap.size := by
  rcases Nat.lt_or_ge b w1.heap.size with h' | h'
  ·exact h'
  ·simp [Array.getElem?_eq_none h'] at hbk
 have hb2 : w2.heap[b]? = some (.cells #[.pointer (some ⟨b, 0, none⟩), v] 150 (0, 0)) := by
  rw [hgrow.block b (by simp; omega) (fun e => hne e.symm), Lib.alloc_old w1 _ b hlt]
  exact hbk
 have d0 : w2.cell? ⟨b, 0, none⟩ = some (.pointer (some ⟨b, 0, none⟩)) := by rw [Lib.cell_of_heap hb2]; rfl
 have d1 : w2.cell? ⟨b, 1, none⟩ = some v := by rw [Lib.cell_of_heap hb2]; rfl
 have f1 : w2.frozen? ⟨b, 1, none⟩ = false := Lib.frozen_of_heap hb2 1
 have hb3 : Below B w w2 := (hb1.alloc (by have := hb1.size; omega) _).grown hgrow (by have := hb1.size; simp; omega) (fun k hk => (hown.lt k hk).1)
 obtain ⟨ao, n', cap, rfl⟩ : ∃ ao n' cap, v' = .slice ao n' cap := by
  rcases hown'.2 with ⟨hv, _⟩ | ⟨g, cap, cur, hv, _⟩
  ·exact ⟨_, _, _, hv⟩
  ·exact ⟨_, _, _, hv⟩
 clear c0 c1 hbk hgrow hown
 go_wp2
 go_ret
 refine ⟨rfl, ?_, ?_⟩
 ·exact Lib.BuilderAt.put hB hb2 (bs' := bs ++ [.int .u8 c]) (by simpa using hown') (by decide)
 ·exact hb3.setCell (p := ⟨b, 1, none⟩) hB _

open Go.RowKit Go.Shelf

attribute [local go_sem] Oper.semAt_some
def rvL (xs : List (List UInt8)) : List (Nat × List UInt8) := (k6 0 xs).reverse
theorem a9L (xs : List (List UInt8)) : (rvL xs).length = xs.length := by rw [rvL, List.length_reverse, a2j]
theorem aQ9 (xs : List (List UInt8)) (k : Nat) (h : k < xs.length) : (rvL xs)[k]? = some (xs.length - 1 - k, xs[xs.length - 1 - k]'(by omega)) := by
 unfold rvL
 rw [List.getElem?_reverse (by rw [a2j]; exact h), a2j, a6e 0 xs (xs.length - 1 - k) (by omega), Nat.zero_add]
theorem aR0 (xs : List (List UInt8)) : (rvL xs).map (·.2) = xs.reverse := by rw [rvL, List.map_reverse, a4y]
theorem ah3 (a : Option Addr) (m cap : Nat) (w : World) :
  Calls Tryz.prog 131 #[.slice a m cap] w fun e w' => e = .returned (.func (.func 162) #[] #[.pointer (some ⟨w.heap.size, 0, none⟩)]) ∧ w' = w.alloc (.cells #[.slice a m cap] 82) := by
 go_enter Tryz.func131, Tryz.ntmps131
 go_wp2
 go_ret
 exact ⟨rfl, rfl⟩
theorem ah2 (n : Nat) (hn : 1 ≤ n) (l Bs b o cap n₀ : Nat) (S : Nat → Prop) (xs : List (List UInt8)) (hs : xs.length ≤ 1000000) (hS : S Bs ∨ Bs < n₀) (hA : S b ∨ b < n₀) (J Jx : List (Nat × List UInt8) → World → Prop)
  (hY : ∀ pre x W, J pre W → pre.length < xs.length → YieldAt Fence.wide (n - 1) Tryz.prog l (a2O x) W fun e W' =>
   (e = .returned (.bool true) ∧ J (pre ++ [x]) W' ∧ Kp n₀ S W W') ∨ (e = .returned (.bool false) ∧ Jx (pre ++ [x]) W'))
  (W : World) (hBs : W.cell? ⟨Bs, 0, none⟩ = some (.slice (some ⟨b, o, none⟩) xs.length cap)) (hX : ∀ j (h : j < xs.length), W.cell? ⟨b, o + j, none⟩ = some (str xs[j])) (h0 : J [] W) :
  CallsIn Fence.wide n Tryz.prog 162 #[.func (.yield l) #[] #[], .pointer (some ⟨Bs, 0, none⟩)] W fun e W' => (∃ v, e = .returned v) ∧
   ((∃ ys, ys = rvL xs ∧ J ys W') ∨ (∃ pre, pre <+: rvL xs ∧ Jx pre W')) := by
 have w0 : IntKind.i64.wrap ((xs.length : Int) - 1) = (xs.length : Int) - 1 := by rw [IntKind.wrap_i64]; omega
 have HX : Hid (∀ j (h : j < xs.length), W.cell? ⟨b, o + j, none⟩ = some (str xs[j])) := hX
 clear hX
 refine callsIn_of_wp Tryz.func162 rfl trivial ?_ rfl
 simp only [Tryz.ntmps162, List.size_toArray, List.length_cons, List.length_nil, Nat.reduceAdd, Nat.reduceSub, Array.replicate_succ, Array.replicate_zero, List.push_toArray, List.append_toArray, List.nil_append, List.cons_append]
 gi_wp2
 gi_loopw [3] (fun i wr => ∃ pre : List (Nat × List UInt8), i = .int .i64 ((xs.length : Int) - 1 - (pre.length : Int)) ∧ pre.length ≤ xs.length ∧ Hid (pre = (rvL xs).take pre.length) ∧ J pre wr ∧ wr.cell? ⟨Bs, 0, none⟩ = some (.slice (some ⟨b, o, none⟩) xs.length cap) ∧ Hid (∀ j (h : j < xs.length), wr.cell? ⟨b, o + j, none⟩ = some (str xs[j]))) (fun i _ => (intOf i + 1).toNat)
 case atStart => exact ⟨[], by simp, Nat.zero_le _, rfl, h0, hBs, HX.out⟩
 case round =>
  clear h0 hBs HX w0
  obtain ⟨pre, rfl, hpl, HN, hJs, hcs, HXs⟩ := hrel
  by_cases hlt : pre.length < xs.length
  ·obtain ⟨m, hm⟩ : ∃ m : Nat, xs.length - 1 - pre.length = m := ⟨_, rfl⟩
   have hml : m < xs.length := by omega
   have hi : ((xs.length : Int) - 1 - (pre.length : Int)) = (m : Int) := by omega
   have HX1 : Hid ((rvL xs)[pre.length]? = some (m, xs[m]'hml)) := by
    show _ = _
    rw [aQ9 xs pre.length hlt]
    simp only [hm]
   have HN3 : Hid (pre ++ [(m, xs[m]'hml)] = (rvL xs).take (pre.length + 1)) := by
    show _ = _
    have hl := a9L xs
    have h1 := HX1.out
    obtain ⟨h2, h3⟩ := List.getElem?_eq_some_iff.1 h1
    rw [List.take_succ_eq_append_getElem h2, h3, ← HN.out]
   have cx := HXs.out m hml
   have hw1 : IntKind.i64.wrap ((m : Int) - 1) = (m : Int) - 1 := by rw [IntKind.wrap_i64]; omega
   have m0 : (0 : Int) ≤ (m : Int) := by omega
   have m1 : (m : Int) < (xs.length : Int) := by omega
   have HMI : Hid ((m : Int) - 1 = (xs.length : Int) - 1 - ((pre.length + 1 : Nat) : Int)) := by show _ = _; omega
   obtain ⟨fn, tmps, assign, body, hy, hR⟩ := hY pre (m, xs[m]'hml) wr hJs hlt
   dsimp only [a2O] at hy
   rw [hi]
   clear hi hm hJs HN
   generalize xs[m]'hml = X at *
   gi_wp2
   refine hR.mono ?_
   rintro e W3 (⟨rfl, hJ3, hk3⟩ | ⟨rfl, hJx3⟩)
   ·have hcs3 := hk3.cell (a := ⟨Bs, 0, none⟩) (hS.elim .inr .inl) hcs
    have HX3 : Hid (∀ j (h : j < xs.length), W3.cell? ⟨b, o + j, none⟩ = some (str xs[j])) := fun j h => hk3.cell (a := ⟨b, o + j, none⟩) (hA.elim .inr .inl) (HXs.out j h)
    clear hcs cx HXs
    gi_wp2
    go_roundw
    case rel => exact ⟨pre ++ [(m, X)], by rw [List.length_append]; exact congrArg (Value.int .i64) HMI.out, by rw [List.length_append]; exact hlt, by rw [List.length_append]; exact HN3.out, hJ3, hcs3, HX3.out⟩
    case measure => simp only [intOf]; omega
   ·gi_wp2
    refine bodyPost_ret (results_none rfl _ _ _) rfl ?_
    exact ⟨⟨_, rfl⟩, .inr ⟨pre ++ [(m, X)], by rw [HN3.out]; exact List.take_prefix _ _, hJx3⟩⟩
  ·have hi : ((xs.length : Int) - 1 - (pre.length : Int)) = -1 := by omega
   have HE : Hid (pre = rvL xs) := by
    show _ = _
    have h := HN.out
    rw [show pre.length = (rvL xs).length by rw [a9L]; omega, List.take_length] at h
    exact h
   rw [hi]
   clear hi
   gi_wp2
   go_end0
   exact ⟨⟨_, rfl⟩, .inl ⟨pre, HE.out, hJs⟩⟩
theorem ah4 (n : Nat) (hn : 1 ≤ n) (Bs b o cap n₀ : Nat) (S : Nat → Prop) (xs : List (List UInt8)) (hs : xs.length ≤ 1000000) (hS : S Bs ∨ Bs < n₀) (hA : S b ∨ b < n₀) (w : World) (hBs : w.cell? ⟨Bs, 0, none⟩ = some (.slice (some ⟨b, o, none⟩) xs.length cap)) (hX : ∀ j (h : j < xs.length), w.cell? ⟨b, o + j, none⟩ = some (str xs[j])) :
  SeqStopsK Fence.wide n Tryz.prog 162 #[.pointer (some ⟨Bs, 0, none⟩)] a2O (Kp n₀ S) (fun ys => ys = rvL xs) (fun pre => pre <+: rvL xs) xs.length w := fun l J Jx W hW _ _ hY h0 => by
 have lt : ∀ {a : Addr} {v : Value}, w.cell? a = some v → a.block < w.heap.size := fun {a v} h => by
  by_cases hb : a.block < w.heap.size
  ·exact hb
  ·unfold World.cell? at h
   rw [Array.getElem?_eq_none (by omega)] at h
   simp at h
 exact ah2 n hn l Bs b o cap n₀ S xs hs hS hA J Jx hY W ((hW.cell (p := ⟨Bs, 0, none⟩) (lt hBs)).trans hBs) (fun j h => (hW.cell (p := ⟨b, o + j, none⟩) (lt (hX j h))).trans (hX j h)) h0

open Go.RowKit Go.Shelf
theorem aZ4 {l n : Nat} {P : Program} {o : Oper} {a : Act} {K : Act → World → Prop} {Q : Exit → Act → World → Prop} {r : Result Next} (h : o.upon P a K Q r) : o.uponIn (Fence.wide.inRound l) n P a K Q r := by
 match r, h with
 | .ok (.value v) w, h => exact h
 | .ok .skip w, h => exact h
 | .ok (.defer d) w, h => exact h
 | .ok (.enter f args) w, h => exact ⟨fun hh => (by cases hh), callsIn_wide.2 h⟩
 | .ok (.row row args) w, h => exact ⟨fun hh => (by cases hh), fun c cs _ => let ⟨v, w', r, s⟩ := h c cs; ⟨v, w', r, stepsIn_wide.2 s⟩⟩
 | .ok (.round _ _ _ _ _) w, h => exact h.elim
 | .halt (.panic v) w, h => exact h
theorem aH5 {l n : Nat} {P : Program} {o : Oper} {a : Act} {w : World} {K : Act → World → Prop} {Q : Exit → Act → World → Prop} (hd : ∀ c, o.op ≠ Op.defer c) (h : o.wp P a w K Q) : o.wpIn (Fence.wide.inRound l) n P a w K Q := by
 refine ⟨fun _ _ => trivial, ?_⟩
 rw [Oper.semAt_plain _ _ _ hd]
 exact aZ4 h
theorem a3Y {l n : Nat} {P : Program} {md : Region.Mode} {ops : Array Oper} {Q : Exit → Act → World → Prop} (hL : LetsOut Q → False) (hd : ∀ (i : Nat) (o : Oper), ops[i]? = some o → ∀ c, o.op ≠ Op.defer c) : ∀ (fuel : Nat) (listed : Array Bool) (a : Act) (w : World), wpAny P md ops Q fuel listed a w → wpAnyIn (Fence.wide.inRound l) n P md ops Q fuel listed a w
 | 0, _, _, _, h => h
 | fuel + 1, listed, a, w, h => ⟨h.1, fun i hi => by
  have h2 := h.2 i hi
  unfold wpOp at h2
  unfold wpOpIn
  cases ho : ops[i]? with
  | none =>
   rw [ho] at h2
   exact a3Y hL hd fuel _ _ _ h2
  | some o =>
   rw [ho] at h2
   simp only at h2 ⊢
   by_cases hw : Region.wanted o (yielded ops a.tmps) = true
   ·rw [if_pos hw] at h2 ⊢
    exact aH5 (hd i o ho) (Oper.wp_mono (fun a w h => a3Y hL hd fuel _ a w h) (h2.resolve_right (fun h => hL h.2)))
   ·rw [if_neg hw] at h2 ⊢
    exact ⟨fun _ _ => trivial, a3Y hL hd fuel _ _ _ h2⟩⟩
def a6d (o : Oper) : Bool := match o.op with
 | .defer _ => false
 | _ => true
theorem aF4 {ops : Array Oper} (h : ops.all a6d = true) (i : Nat) (o : Oper) (ho : ops[i]? = some o) : ∀ c, o.op ≠ Op.defer c := fun c hc => by
 have := Array.all_eq_true.1 h
 obtain ⟨hi, rfl⟩ := Array.getElem?_eq_some_iff.1 ho
 have := this i hi
 unfold a6d at this
 rw [hc] at this
 cases this
theorem aO3 {l n id : Nat} {P : Program} {ops : Array Oper} {Q : Exit → Act → World → Prop} {S : World → Prop} {a : Act} {w : World} (hm : P.follows .mixedOrders = true) (hL : LetsOut Q → False) (hd : ops.all a6d = true) (hS : S w.drew)
  (h : S w.drew → wpAnyH P .any ops Q S ops.size (Array.replicate ops.size false) a w.drew) : (Code.region id ops true).wpIn (Fence.wide.inRound l) n P Q a w :=
 wpIn_region_any hm (a3Y hL (aF4 hd) _ _ _ _ (wpAny_of_held _ _ _ _ (h hS)))

open Go.RowKit Go.Shelf

attribute [local go_sem] Oper.semAt_some
def WtV (W : World) (B7 b : Nat) (v : Value) (ts : List (List UInt8)) (ne dp : Int) : Prop :=
 W.heap[b]? = some (.cells #[v, .int .i64 ne, .int .i64 dp] 87 (0, 0)) ∧ W.ownsRow B7 9 1 v ts.length (ts.map str)
theorem WtV.cell {W : World} {B7 b : Nat} {v : Value} {ts : List (List UInt8)} {ne dp : Int} (h : WtV W B7 b v ts ne dp) : W.cell? ⟨b, 0, none⟩ = some v ∧ W.cell? ⟨b, 1, none⟩ = some (.int .i64 ne) ∧ W.cell? ⟨b, 2, none⟩ = some (.int .i64 dp) :=
 ⟨VAt.cell h.1 0, VAt.cell h.1 1, VAt.cell h.1 2⟩
theorem WtV.kept {W W' : World} {B7 b : Nat} {v : Value} {ts : List (List UInt8)} {ne dp : Int} (h : WtV W B7 b v ts ne dp) (G : W.grownBy W' none) : WtV W' B7 b v ts ne dp := ⟨VAt.kept h.1 G, x9 h.2 G⟩
def KpS (N b : Nat) (o : Option Nat) (x y z k : Nat) : Prop := (k < N ∧ k ≠ b ∧ o ≠ some k) ∨ k = x ∨ k = y ∨ k = z
def M4 (N : Nat) (o : Option Nat) (v : Value) : Prop := v.ownBlock = o ∨ ∃ g, v.ownBlock = some g ∧ N ≤ g
theorem M4.refl (N : Nat) (v : Value) : M4 N v.ownBlock v := .inl rfl
theorem M4.trans {N N' : Nat} {o : Option Nat} {v v' : Value} (h : M4 N o v) (k : M4 N' v.ownBlock v') (hN : N ≤ N') : M4 N o v' := by
 rcases k with e | ⟨g, e, hg⟩
 ·rcases h with e' | ⟨g, e', hg⟩
  ·exact .inl (e.trans e')
  ·exact .inr ⟨g, e.trans e', hg⟩
 ·exact .inr ⟨g, e, by omega⟩
theorem M4.mono {N N' : Nat} {o : Option Nat} {v : Value} (h : M4 N o v) (hN : N' ≤ N) : M4 N' o v := h.elim .inl (fun ⟨g, e, hg⟩ => .inr ⟨g, e, by omega⟩)
theorem M4.ne {N k : Nat} {o : Option Nat} {v : Value} (h : M4 N o v) (hk : k < N) (ho : o ≠ some k) : v.ownBlock ≠ some k := by
 rcases h with e | ⟨g, e, hg⟩
 ·rw [e]; exact ho
 ·rw [e]; intro e2; have := Option.some.inj e2; omega
theorem Kp.weak {n : Nat} {S S' : Nat → Prop} {W W' : World} (h : Kp n S W W') (hs : ∀ k, S' k → S k) : Kp n S' W W' := ⟨h.1, fun k o hk ho hc => h.2 k o (hs k hk) ho hc⟩
def a3U (B B7 N b : Nat) (ow : Option Nat) (x y z : Nat) (ts : List (List UInt8)) (ne dp : Int) (w2 : World) (pre : List (Nat × List UInt8)) (W : World) : Prop :=
 ((∃ v, WtV W B7 b v (ts ++ pre.map (·.2)) ne dp ∧ M4 N ow v ∧ v.ownBlock ≠ some x ∧ v.ownBlock ≠ some y ∧ v.ownBlock ≠ some z) ∧ ∀ k o, KpS N b ow x y z k → w2.heap[k]? = some o → o.isCells = true → W.heap[k]? = some o) ∧ Below B w2 W
theorem aw0 (B B7 N b : Nat) (ow : Option Nat) (x y z : Nat) (ts : List (List UInt8)) (ne dp : Int) (w2 : World) (D : Nat) (hB : B ≤ w2.heap.size) (hD : B ≤ D) : OwnFrom D (a3U B B7 N b ow x y z ts ne dp w2) := by
 refine OwnFrom.and (fun pre W W' row hs hg hr => ?_) (ownFrom_below hB hD)
 have key : ∀ {k : Nat} {o : Obj}, W.heap[k]? = some o → o.isCells = true → W'.heap[k]? = some o := fun {k o} ho hc => by
  rw [hg.block k (Array.getElem?_eq_some_iff.1 ho).1 (fun e => by
   obtain ⟨-, o', ho', hc'⟩ := hr k e.symm
   rw [ho] at ho'
   cases ho'
   rw [hc] at hc'
   cases hc')]
  exact ho
 obtain ⟨⟨v, ⟨h1, h2⟩, h3⟩, h4⟩ := hs
 refine ⟨⟨v, ⟨key h1 rfl, h2.kept hg ?_⟩, h3⟩, fun k o hk ho hc => key (h4 k o hk ho hc) hc⟩
 rcases h2.2 with ⟨rfl, -⟩ | ⟨g, cap, cur, rfl, -, hg2, -⟩
 ·exact .inl rfl
 ·refine .inr (fun e => ?_)
  obtain ⟨-, o', ho', hc'⟩ := hr g e.symm
  rw [hg2] at ho'
  cases ho'
  cases hc'
theorem b0A : (Tryz.prog.info? 9).map (fun i => (i.zero, i.size, i.bytes)) = some (some (.string ⟨#[]⟩), 1, 16) := by kernel_rfl
theorem ae0 {P : Program} (w : World) {o : Oper} {a : Act} {K : Act → World → Prop} {Q : Exit → Act → World → Prop} (s x : Operand) (t : TypeId)
  (ho : o.op = .call { callee := .builtin .append, args := #[s, x], argTypes := #[t, t] })
  (base : Nat) (e : TypeId) (i : TypeInfo) (z : Value) (size bytes : Nat) (ht : P.underlying t = some (.slice e)) (hi : P.info? e = some i) (hz : i.zero = some z)
  (hsize : i.size = size) (hby : i.bytes = bytes) (hzs : z.cells.size = size) (hsz : 0 < size)
  (v : Value) (n : Nat) (xs : List Value) (hs : a.eval s = v) (hown : w.ownsRow base e size v n xs)
  (ad : Addr) (m c : Nat) (news : List Value) (hx : a.eval x = .slice (some ad) m c) (hl : news.length = m * size) (hnews : ∀ j u, news[j]? = some u → w.cell? (ad.add j) = some u) (h1 : ∀ u ∈ news, u.oneCell' = true)
  (h63 : n + m ≤ maxLen) (hbytes : (n + m) * bytes ≤ 140737488355328) (hbase : base ≤ w.heap.size)
  (h : ∀ v' w', w'.ownsRow base e size v' (n + m) (xs ++ news) → w.grownBy w' v.ownBlock → (v'.ownBlock = v.ownBlock ∨ v'.ownBlock = some w.heap.size) → K (a.put o.dst v') w') : o.wp P a w K Q := by
 obtain ⟨v', w', hr, h2, h3, h4, h5⟩ := run_append_own_at (P := P) w base t o.type e i z size bytes ht hi hz hsize hby hzs hsz v n xs hown ad m c news hl hnews h1 h63 hbytes hbase
 unfold Oper.wp execOp
 simp only [ho, resolve, invoke, builtin, Sem.run_bind, Sem.run_pure, Result.andThen_ok, List.map_toArray, List.map_cons, List.map_nil, hs, hx, hr]
 exact h v' w' h2 h3 h5
theorem aN7 {B B7 N b x y z : Nat} {ow : Option Nat} {ts : List (List UInt8)} {X : List UInt8} {ne dp : Int} {w2 W Wa Wf : World} {v v' : Value} (hB : B ≤ b) (hb7 : b < B7) (hx : B7 ≤ x ∧ x < w2.heap.size) (hy : B7 ≤ y ∧ y < w2.heap.size) (hz : B7 ≤ z ∧ z < w2.heap.size)
  (hN : N ≤ w2.heap.size) (hgo : M4 N ow v) (hW : WtV W B7 b v ts ne dp) (hs : v.ownBlock ≠ some x ∧ v.ownBlock ≠ some y ∧ v.ownBlock ≠ some z) (hK : ∀ k o, KpS N b ow x y z k → w2.heap[k]? = some o → o.isCells = true → W.heap[k]? = some o) (hBl : Below B w2 W)
  (t : Nat) (hWa : Wa = W.drew.alloc (.cells #[str X] t)) (O : Wf.ownsRow B7 9 1 v' (ts.length + 1) (ts.map str ++ [str X])) (G : Wa.grownBy Wf v.ownBlock) (hat : v'.ownBlock = v.ownBlock ∨ v'.ownBlock = some Wa.heap.size) :
  Wf.cell? ⟨b, 0, none⟩ = some v ∧ Wf.frozen? ⟨b, 0, none⟩ = false ∧ KeepsOthers W (Wf.setCell ⟨b, 0, none⟩ v') ∧ Kp B (KpS N b ow x y z) W (Wf.setCell ⟨b, 0, none⟩ v') ∧
   ((∃ u, WtV (Wf.setCell ⟨b, 0, none⟩ v') B7 b u (ts ++ [X]) ne dp ∧ M4 N ow u ∧ u.ownBlock ≠ some x ∧ u.ownBlock ≠ some y ∧ u.ownBlock ≠ some z) ∧ ∀ k o, KpS N b ow x y z k → w2.heap[k]? = some o → o.isCells = true → (Wf.setCell ⟨b, 0, none⟩ v').heap[k]? = some o) ∧ Below B w2 (Wf.setCell ⟨b, 0, none⟩ v') := by
 subst hWa
 have hsz : w2.heap.size ≤ W.heap.size := hBl.size
 have hown := hW.2.lt
 have hbl : b < W.heap.size := VAt.lt hW.1
 have GA : W.grownBy (W.drew.alloc (.cells #[str X] t)) none := ⟨rfl, rfl, rfl, by simp, fun k hk _ => by first | exact heap_alloc_old W.drew _ k hk | exact heap_alloc_old W.drew _ hk⟩
 have VA : VAt (W.drew.alloc (.cells #[str X] t)) b 87 #[v, .int .i64 ne, .int .i64 dp] := VAt.kept hW.1 GA
 have hbv : v.ownBlock ≠ some b := fun e => by have := (hown b e).1; omega
 have VB : VAt Wf b 87 #[v, .int .i64 ne, .int .i64 dp] := VAt.grown VA G hbv
 have kept : ∀ k, k < W.heap.size → v.ownBlock ≠ some k → k ≠ b → (Wf.setCell ⟨b, 0, none⟩ v').heap[k]? = W.heap[k]? := fun k hk h1 h2 => by
  rw [Below.heap_setCell _ _ _ _ h2, G.block k (Nat.lt_of_lt_of_le hk GA.size) (fun e => h1 e.symm), GA.block k hk (by simp)]
 have keptS : ∀ k o, KpS N b ow x y z k → W.heap[k]? = some o → (Wf.setCell ⟨b, 0, none⟩ v').heap[k]? = some o := fun k o hk ho => by
  have hkl : k < W.heap.size := (Array.getElem?_eq_some_iff.1 ho).1
  rw [kept k hkl ?_ ?_]
  ·exact ho
  ·intro e
   rcases hk with ⟨h, -, h'⟩ | rfl | rfl | rfl
   ·exact hgo.ne h h' e
   ·exact hs.1 e
   ·exact hs.2.1 e
   ·exact hs.2.2 e
  ·rcases hk with ⟨-, h, -⟩ | rfl | rfl | rfl <;> omega
 have hbw : Below B W (Wf.setCell ⟨b, 0, none⟩ v') := ((((Below.refl B W).drew.alloc (by show B ≤ W.drew.heap.size; show B ≤ W.heap.size; omega) _).grown G (by simp; show B ≤ W.heap.size + 1; omega) (fun k e => by have := (hown k e).1; omega)).setCell (p := ⟨b, 0, none⟩) hB v')
 refine ⟨VAt.cell VB 0, VAt.free VB 0, ?_, ⟨hbw, fun k o hk ho _ => keptS k o hk ho⟩, ⟨⟨v', ⟨⟨?_, ?_⟩, ?_, ?_⟩⟩, fun k o hk ho hc => keptS k o hk (hK k o hk ho hc)⟩, hBl.trans hbw⟩
 ·refine ((((KeepsOthers.drew W).trans (KeepsOthers.alloc _ _)).trans (KeepsOthers.of_grownBy G ?_)).trans (KeepsOthers.setCell _ _ _))
  intro j o hj ho
  rcases hW.2.2 with ⟨rfl, -⟩ | ⟨g, cap, cur, rfl, -, hg, -⟩
  ·simp [Value.ownBlock] at hj
  ·simp [Value.ownBlock] at hj
   subst hj
   rw [GA.block g (hown g rfl).2 (by simp), hg] at ho
   cases ho
   rfl
 ·exact VAt.set VB 0 v'
 ·have hv'b : v'.ownBlock ≠ some b := fun e => by have := (O.lt b e).1; omega
  have := World.ownsRow.kept O (w' := Wf.setCell ⟨b, 0, none⟩ v') (row := some b) ⟨rfl, rfl, rfl, by simp [World.setCell], fun k _ hk => Below.heap_setCell _ _ _ _ (fun e => hk (by rw [e]))⟩ (.inr hv'b)
  simpa using this
 ·refine M4.trans (N' := N) hgo ?_ (Nat.le_refl _)
  rcases hat with e | e
  ·exact .inl e
  ·exact .inr ⟨_, e, by simp; show N ≤ W.heap.size + 1; omega⟩
 ·have hs1 : (W.drew.alloc (.cells #[str X] t)).heap.size = W.heap.size + 1 := by simp
  rw [hs1] at hat
  rcases hat with e | e <;> rw [e]
  ·exact hs
  ·refine ⟨?_, ?_, ?_⟩ <;> (intro h; have := Option.some.inj h; omega)
theorem a4F (B B7 b ab c : Nat) (xs ts : List (List UInt8)) (v : Value) (ne dp : Int) (w : World) (hB : B ≤ b) (hb7 : b < B7) (h7 : B7 ≤ w.heap.size) (hab : B7 ≤ ab) (habl : ab < w.heap.size) (hO : WtV w B7 b v ts ne dp) (hsep : v.ownBlock ≠ some ab) (C : CV w (some ⟨ab, 0, none⟩) (xs.map str)) (hx : xs.length ≤ 10) (hts : ts.length ≤ 1000000) :
  Calls Tryz.prog 101 #[.pointer (some ⟨b, 0, none⟩), .slice (some ⟨ab, 0, none⟩) xs.length c] w fun e w' => e = .returned (.tuple #[]) ∧ (∃ v', WtV w' B7 b v' (ts ++ xs.reverse) ne dp ∧ M4 w.heap.size v.ownBlock v') ∧ Kp B (fun k => k ≠ b ∧ v.ownBlock ≠ some k) w w' := by
 obtain ⟨i0, hi, hz0, hz1, hz2⟩ := info_parts b0A
 refine (callsIn_wide (n := 3)).1 ?_
 refine callsIn_of_wp_marks Tryz.func101 rfl trivial ?_ rfl
 simp only [Tryz.ntmps101, List.size_toArray, List.length_cons, List.length_nil, Nat.reduceAdd, Nat.reduceSub, Array.replicate_succ, Array.replicate_zero, List.push_toArray, List.append_toArray, List.nil_append, List.cons_append]
 gi_wp2_with (refine ⟨trivial, ?_⟩; gi_at_call 131; refine (callsIn_wide.2 (ah3 _ _ _ _)).mono ?_; rintro e w' ⟨rfl, rfl⟩)
 have hl2 : ((w.alloc (.cells #[.pointer (some ⟨b, 0, none⟩)] 121)).alloc (.cells #[.slice (some ⟨ab, 0, none⟩) xs.length c] 82)).heap.size = w.heap.size + 1 + 1 := by simp
 have G2 : w.grownBy ((w.alloc (.cells #[.pointer (some ⟨b, 0, none⟩)] 121)).alloc (.cells #[.slice (some ⟨ab, 0, none⟩) xs.length c] 82)) none := d3 (World.grownBy_alloc w _ _) (World.grownBy_alloc _ _ _)
 have fX : VAt ((w.alloc (.cells #[.pointer (some ⟨b, 0, none⟩)] 121)).alloc (.cells #[.slice (some ⟨ab, 0, none⟩) xs.length c] 82)) w.heap.size 121 #[.pointer (some ⟨b, 0, none⟩)] := VAt.kept (VAt.alloc w _ _) (World.grownBy_alloc _ _ _)
 have fS : VAt ((w.alloc (.cells #[.pointer (some ⟨b, 0, none⟩)] 121)).alloc (.cells #[.slice (some ⟨ab, 0, none⟩) xs.length c] 82)) (w.heap.size + 1) 82 #[.slice (some ⟨ab, 0, none⟩) xs.length c] := by
  have := VAt.alloc (w.alloc (.cells #[.pointer (some ⟨b, 0, none⟩)] 121)) 82 #[.slice (some ⟨ab, 0, none⟩) xs.length c]
  simpa using this
 generalize ((w.alloc (.cells #[.pointer (some ⟨b, 0, none⟩)] 121)).alloc (.cells #[.slice (some ⟨ab, 0, none⟩) xs.length c] 82)) = W2 at *
 have hO2 := hO.kept G2
 have hov : ∀ k, v.ownBlock = some k → k < w.heap.size := fun k e => (hO.2.lt k e).2
 have C2 := C.keptNone G2
 have hX : ∀ j (h : j < xs.length), W2.cell? ⟨ab, 0 + j, none⟩ = some (str xs[j]) := fun j h => by
  have := C2.2 _ rfl j (by simpa using h)
  rw [Nat.zero_add]
  have e : ((⟨ab, 0, none⟩ : Addr).add j) = ⟨ab, j, none⟩ := by unfold Addr.add; split <;> simp_all
  rw [e] at this
  simpa using this
 have hcS : W2.cell? ⟨w.heap.size + 1, 0, none⟩ = some (.slice (some ⟨ab, 0, none⟩) xs.length c) := VAt.cell fS 0
 refine wpIn_rangeFunc_ownF rfl (by omega) (gf := 162) (lb := #[.pointer (some ⟨w.heap.size + 1, 0, none⟩)]) rfl trivial (enters_of Tryz.func162 (by kernel_rfl) rfl)
  (ah4 _ (by omega) (w.heap.size + 1) ab 0 c B (KpS w.heap.size b v.ownBlock w.heap.size (w.heap.size + 1) ab) xs (by omega) (.inl (.inr (.inr (.inl rfl)))) (.inl (.inr (.inr (.inr rfl)))) W2 hcS hX)
  (fun h k => h.trans k) (Kp.book (by omega)) (Below.refl _ _) (fun _ => rfl)
  (a3U B B7 w.heap.size b v.ownBlock w.heap.size (w.heap.size + 1) ab ts ne dp W2) (fun _ _ _ => False) (aw0 _ _ _ _ _ _ _ _ _ _ _ _ _ (by omega) (by omega)) (fun _ _ _ _ _ h _ _ => h)
  ⟨⟨⟨v, by simpa using hO2, M4.refl _ _, fun e => by have := hov _ e; omega, fun e => by have := hov _ e; omega, hsep⟩, fun _ _ _ h _ => h⟩, Below.refl _ _⟩
  (fun x => { tmps := #[.pointer (some ⟨b, 0, none⟩), .slice (some ⟨ab, 0, none⟩) xs.length c, .pointer (some ⟨w.heap.size, 0, none⟩), undef, undef, str x.2, .slice (some ⟨ab, 0, none⟩) xs.length c, .func (.func 162) #[] #[.pointer (some ⟨w.heap.size + 1, 0, none⟩)], .int .i64 (x.1 : Int), str x.2, undef, undef, undef, undef, undef, undef, undef, undef, undef, undef], defers := [] }) ?assign ?body ?done ?stop
 case assign =>
  intro l x W K hK
  gi_wp2
  exact hK
 case body =>
  rintro l pre ⟨i, X⟩ W ⟨⟨⟨v1, hW1, hgo1, hs1, hs2, hs3⟩, hKW⟩, hBW⟩ hlen
  have hpl : (ts ++ pre.map (·.2)).length ≤ 1000010 := by simp; omega
  have ebk : ts ++ (pre ++ [(i, X)]).map (·.2) = (ts ++ pre.map (·.2)) ++ [X] := by simp
  have post : ∀ {v' : Value} {Wa Wf : World} {t : Nat} (hWa : Wa = W.drew.alloc (.cells #[str X] t)) (O : Wf.ownsRow B7 9 1 v' ((ts ++ pre.map (·.2)).length + 1) ((ts ++ pre.map (·.2)).map str ++ [str X])) (G : Wa.grownBy Wf v1.ownBlock) (hat : v'.ownBlock = v1.ownBlock ∨ v'.ownBlock = some Wa.heap.size), _ := fun {v' Wa Wf t} hWa O G hat =>
   aN7 (x := w.heap.size) (y := w.heap.size + 1) (z := ab) hB hb7 (w2 := W2) ⟨h7, by omega⟩ ⟨by omega, by omega⟩ ⟨hab, by omega⟩ (by omega) hgo1 hW1 ⟨hs1, hs2, hs3⟩ hKW hBW t hWa O G hat
  have hcx : W.cell? ⟨w.heap.size, 0, none⟩ = some (.pointer (some ⟨b, 0, none⟩)) := VAt.cell (hKW _ _ (.inr (.inl rfl)) fX rfl) 0
  have hcv := hW1.cell.1
  have hbl : b < W.heap.size := VAt.lt hW1.1
  generalize ts ++ pre.map (·.2) = us at *
  -- BODY
  have OA : (W.drew.alloc (.cells #[str X] 9)).ownsRow B7 9 1 v1 us.length (us.map str) := World.ownsRow.alloc (w := W.drew) (World.ownsRow.kept hW1.2 (w' := W.drew) (row := none) ⟨rfl, rfl, rfl, Nat.le_refl _, fun _ _ _ => rfl⟩ (by cases hv : v1.ownBlock <;> simp)) _
  have hWl : w.heap.size + 1 + 1 ≤ W.heap.size := by have := hBW.size; omega
  have hcxA : (W.drew.alloc (.cells #[str X] 9)).cell? ⟨w.heap.size, 0, none⟩ = some (.pointer (some ⟨b, 0, none⟩)) := (World.grownBy_alloc W.drew _ none).cell (show W.drew.cell? _ = _ from hcx) (by simp)
  have hcvA : (W.drew.alloc (.cells #[str X] 9)).cell? ⟨b, 0, none⟩ = some v1 := (World.grownBy_alloc W.drew _ none).cell (show W.drew.cell? _ = _ from hcv) (by simp)
  refine wpIn_block ?_
  refine aO3 (S := fun W' => W'.cell? ⟨w.heap.size, 0, none⟩ = some (.pointer (some ⟨b, 0, none⟩))) (by kernel_rfl) ?hl (by kernel_rfl) hcx (fun hHeld => ?_)
  case hl =>
   rintro ⟨a, w, h⟩
   exact h
  refine wpT (i := 0) (v := .pointer (some ⟨b, 0, none⟩)) rfl (Or.inl ⟨by rfl, fun W hW => ?_⟩) hHeld ?_
  ·go_simp
  try simp only [Act.put, a0, a1, a3, a4, a5]
  refine wpT (i := 1) (v := .pointer (some ⟨b, 0, none⟩)) rfl (Or.inl ⟨by rfl, fun W hW => ?_⟩) hHeld ?_
  ·go_simp
  try simp only [Act.put, a0, a1, a2, a3, a4, a5]
  refine wpT (i := 2) (v := .pointer (some ⟨b, 0, none⟩)) rfl (Or.inl ⟨by rfl, fun W hW => ?_⟩) hHeld ?_
  ·clear hW
   go_simp
  try simp only [Act.put, a0, a1, a2, a3, a4, a5]
  refine wpT (i := 3) (v := .pointer (some ⟨b, 0, none⟩)) rfl (Or.inl ⟨by rfl, fun W hW => ?_⟩) hHeld ?_
  ·clear hW
   go_simp
  try simp only [Act.put, a0, a1, a2, a3, a4, a5]
  refine wpT (i := 5) (v := str X) rfl (Or.inl ⟨by rfl, fun W hW => ?_⟩) hHeld ?_
  ·clear hW
   go_simp
  try simp only [Act.put, a0, a1, a2, a3, a4, a5]
  refine wpR (rs := [4, 6]) (AllReadyH.cons rfl (fun K hK => ?_) (AllReadyH.cons rfl (fun K hK => ?_) AllReadyH.nil))
  ·--
   have hcv2 : W.drew.cell? ⟨b, 0, none⟩ = some v1 := hcv
   go_simp
   go_wp2_with fail
   refine hK.out _ _ hHeld (fun hHeld => ?_)
   clear hK K
   try simp only [Act.put, a0, a1, a2, a3, a4, a5]
   refine wpR (rs := [6]) (AllReadyH.cons rfl (fun K hK => ?_) AllReadyH.nil)
   go_simp
   go_wp2_with fail
   refine hK.out _ _ ?_ (fun hHeld => ?_)
   ·exact hcxA
   clear hK K
   try simp only [Act.put, a0, a1, a2, a3, a4, a5]
   refine wpR (rs := [7]) (AllReadyH.cons rfl (fun K hK => ?_) AllReadyH.nil)
   rw [if_pos (by rfl)]
   refine ae0 _ (.tmp 14) (.tmp 16) 82 rfl B7 9 i0 _ 1 16 Tryz.underlying82 hi hz0 hz1 hz2 rfl (by decide) v1 us.length (us.map str) rfl OA ⟨W.drew.heap.size, 0, none⟩ 1 1 [str X] rfl rfl (cell_one_new _ _ _) (by simp [Value.oneCell', str]) (by unfold maxLen; omega) (by omega) (by simp; show B7 ≤ W.heap.size + 1; omega) ?_
   intro v2 Wf O G hat
   obtain ⟨ao, n2, c2, rfl⟩ : ∃ ao n c, v2 = .slice ao n c := by rcases O.2 with ⟨rfl, -⟩ | ⟨g, cap, cur, rfl, -⟩ <;> exact ⟨_, _, _, rfl⟩
   obtain ⟨p1, p2, p3, p4, p5⟩ := post rfl O G hat
   have hcxF : Wf.cell? ⟨w.heap.size, 0, none⟩ = some (.pointer (some ⟨b, 0, none⟩)) := G.cell hcxA (fun e => hs1 e.symm)
   have hcxS : Hid ((Wf.setCell ⟨b, 0, none⟩ (.slice ao n2 c2)).cell? ⟨w.heap.size, 0, none⟩ = some (.pointer (some ⟨b, 0, none⟩))) := by show _ = _; rw [World.cell?_setCell_other _ _ _ _ (by first | (simp; done) | (simp; omega) | omega)]; exact hcxF
   refine hK.out _ _ hcxF (fun hHeld => ?_)
   clear hK K hat G O post
   try simp only [Act.put, a0, a1, a2, a3, a4, a5]
   refine wpT (i := 8) (v := .pointer (some ⟨b, 0, none⟩)) rfl (Or.inl ⟨by rfl, fun W hW => ?_⟩) hHeld ?_
   ·clear hW
    go_simp
   try simp only [Act.put, a0, a1, a2, a3, a4, a5]
   refine wpT (i := 9) (v := .pointer (some ⟨b, 0, none⟩)) rfl (Or.inl ⟨by rfl, fun W hW => ?_⟩) hHeld ?_
   ·clear hW
    go_simp
   try simp only [Act.put, a0, a1, a2, a3, a4, a5]
   refine wpR (rs := [10]) (AllReadyH.cons rfl (fun K hK => ?_) AllReadyH.nil)
   go_simp
   go_wp2_with fail
   refine hK.out _ _ hcxS.out (fun hHeld => ?_)
   clear hK K
   try simp only [Act.put, a0, a1, a2, a3, a4, a5]
   refine wpAnyH_done (by kernel_rfl) ?_ _
   have e2 := ebk
   exact ⟨p3, p4, by unfold a3U; rw [ebk]; exact p5⟩
  ·--
   go_simp
   go_wp2_with fail
   refine hK.out _ _ ?_ (fun hHeld => ?_)
   ·exact hcxA
   clear hK K
   try simp only [Act.put, a0, a1, a2, a3, a4, a5]
   refine wpR (rs := [4]) (AllReadyH.cons rfl (fun K hK => ?_) AllReadyH.nil)
   have hcv2 : (W.drew.alloc (.cells #[str X] 9)).cell? ⟨b, 0, none⟩ = some v1 := hcvA
   go_simp
   go_wp2_with fail
   refine hK.out _ _ hHeld (fun hHeld => ?_)
   clear hK K
   try simp only [Act.put, a0, a1, a2, a3, a4, a5]
   refine wpR (rs := [7]) (AllReadyH.cons rfl (fun K hK => ?_) AllReadyH.nil)
   rw [if_pos (by rfl)]
   refine ae0 _ (.tmp 14) (.tmp 16) 82 rfl B7 9 i0 _ 1 16 Tryz.underlying82 hi hz0 hz1 hz2 rfl (by decide) v1 us.length (us.map str) rfl OA ⟨W.drew.heap.size, 0, none⟩ 1 1 [str X] rfl rfl (cell_one_new _ _ _) (by simp [Value.oneCell', str]) (by unfold maxLen; omega) (by omega) (by simp; show B7 ≤ W.heap.size + 1; omega) ?_
   intro v2 Wf O G hat
   obtain ⟨ao, n2, c2, rfl⟩ : ∃ ao n c, v2 = .slice ao n c := by rcases O.2 with ⟨rfl, -⟩ | ⟨g, cap, cur, rfl, -⟩ <;> exact ⟨_, _, _, rfl⟩
   obtain ⟨p1, p2, p3, p4, p5⟩ := post rfl O G hat
   have hcxF : Wf.cell? ⟨w.heap.size, 0, none⟩ = some (.pointer (some ⟨b, 0, none⟩)) := G.cell hcxA (fun e => hs1 e.symm)
   have hcxS : Hid ((Wf.setCell ⟨b, 0, none⟩ (.slice ao n2 c2)).cell? ⟨w.heap.size, 0, none⟩ = some (.pointer (some ⟨b, 0, none⟩))) := by show _ = _; rw [World.cell?_setCell_other _ _ _ _ (by first | (simp; done) | (simp; omega) | omega)]; exact hcxF
   refine hK.out _ _ hcxF (fun hHeld => ?_)
   clear hK K hat G O post
   try simp only [Act.put, a0, a1, a2, a3, a4, a5]
   refine wpT (i := 8) (v := .pointer (some ⟨b, 0, none⟩)) rfl (Or.inl ⟨by rfl, fun W hW => ?_⟩) hHeld ?_
   ·clear hW
    go_simp
   try simp only [Act.put, a0, a1, a2, a3, a4, a5]
   refine wpT (i := 9) (v := .pointer (some ⟨b, 0, none⟩)) rfl (Or.inl ⟨by rfl, fun W hW => ?_⟩) hHeld ?_
   ·clear hW
    go_simp
   try simp only [Act.put, a0, a1, a2, a3, a4, a5]
   refine wpR (rs := [10]) (AllReadyH.cons rfl (fun K hK => ?_) AllReadyH.nil)
   go_simp
   go_wp2_with fail
   refine hK.out _ _ hcxS.out (fun hHeld => ?_)
   clear hK K
   try simp only [Act.put, a0, a1, a2, a3, a4, a5]
   refine wpAnyH_done (by kernel_rfl) ?_ _
   have e2 := ebk
   exact ⟨p3, p4, by unfold a3U; rw [ebk]; exact p5⟩
 case done =>
  rintro D ys W hD rfl ⟨⟨⟨v1, hW1, hgo1, -⟩, hKW⟩, hBW⟩ hK
  rw [aR0] at hW1
  refine ⟨by simp, .inl ⟨_, _, rfl, run_takeDeferred hK, ?_⟩⟩
  have hDl := (Array.getElem?_eq_some_iff.1 hK).1
  have hr : ∀ r, some D = some r → ∃ o : Obj, W.heap[r]? = some o ∧ o.isCells = false := fun r e => by cases e; exact ⟨_, hK, rfl⟩
  have GP := grownBy_putObj' W D (.deferred none)
  have hWb := VAt.grown hW1.1 GP (fun e => by have := Option.some.inj e; omega)
  refine ⟨_, results_none rfl _ _ _, rfl, ⟨v1, ⟨hWb, World.ownsRow.kept hW1.2 GP (.inr (fun e => ?_))⟩, hgo1⟩, ?_, ?_⟩
  ·rcases hW1.2.2 with ⟨rfl, -⟩ | ⟨g, cap, cur, rfl, -, hg, -⟩
   ·simp [Value.ownBlock] at e
   ·simp [Value.ownBlock] at e
    subst e
    rw [hg] at hK
    cases hK
  ·exact ((a1c G2).mono (by omega)).trans (hBW.trans ((Below.refl B W).grown GP (by have := hBW.size; omega) (fun k e => by cases e; omega)))
  ·intro k o hk ho hc
   have hkl : k < w.heap.size := (Array.getElem?_eq_some_iff.1 ho).1
   rw [GP.block k (by have := hBW.size; omega) (by intro e; have := Option.some.inj e; omega)]
   exact hKW k o (.inl ⟨hkl, hk.1, hk.2⟩) ((G2.block k hkl (by simp)).trans ho) hc
 case stop =>
  rintro D c pre W hD hpre h
  exact h.elim

end Go.Proofs.YtklipelnjgpnjaaGreatDoor
