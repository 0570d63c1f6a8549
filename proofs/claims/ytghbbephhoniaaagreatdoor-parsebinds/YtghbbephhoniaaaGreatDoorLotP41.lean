import Derived.Test.YtghbbephhoniaaaGreatDoorLotP40
namespace Go.Proofs.YtghbbephhoniaaaGreatDoor
open Go.RowKit Go.Shelf
set_option maxRecDepth 100000

attribute [local go_sem] Oper.semAt_some
theorem aat_keep {X Y : World} {row : Option Nat} {g t : Nat} {xs : List UInt8} (h : AAt X g t xs) (hg : X.grownBy Y row) (hr : ∀ r, row = some r → ∃ o : Obj, X.heap[r]? = some o ∧ o.isCells = false) : AAt Y g t xs :=
 h.grown hg (fun e => by
  obtain ⟨o, ho, hc⟩ := hr g e
  unfold AAt at h
  rw [h] at ho
  cases ho
  cases hc)
theorem box_keep {X Y : World} {row : Option Nat} {B : Nat} {t : TypeId} {v : Value} (h : Boxed X B t v) (hg : X.grownBy Y row) (hr : ∀ r, row = some r → ∃ o : Obj, X.heap[r]? = some o ∧ o.isCells = false) : Boxed Y B t v :=
 h.kept hg (fun e => by
  obtain ⟨o, ho, hc⟩ := hr B e.symm
  unfold Boxed at h
  rw [h] at ho
  cases ho
  cases hc)
def arrSt (pre : List (Nat × List UInt8)) : List UInt8 := pre.foldl (fun a p => a.set p.1 (UInt8.ofNat ((numberV 255 p.2).getD 0))) (List.replicate 4 0)
def goodP (pre : List (Nat × List UInt8)) : Prop := ∀ p ∈ pre, (numberV 255 p.2).isSome = true ∧ p.1 < 4
theorem arrSt_snoc (pre : List (Nat × List UInt8)) (x : Nat × List UInt8) : arrSt (pre ++ [x]) = (arrSt pre).set x.1 (UInt8.ofNat ((numberV 255 x.2).getD 0)) := by simp [arrSt]
theorem box_away {W : World} {B b i : Nat} {t : TypeId} {v : Value} (u : Value) (h : Boxed W B t v) (hb : B ≠ b) : Boxed (W.setCell ⟨b, i, none⟩ u) B t v := by
 unfold Boxed at *
 rw [heap_setCell_other _ _ _ _ hb]
 exact h
theorem arrSt_len (pre : List (Nat × List UInt8)) : (arrSt pre).length = 4 := by
 have key : ∀ (l : List (Nat × List UInt8)) (a : List UInt8), (l.foldl (fun a p => a.set p.1 (UInt8.ofNat ((numberV 255 p.2).getD 0))) a).length = a.length := by
  intro l
  induction l with
  | nil => intro a; rfl
  | cons x r ih => intro a; rw [List.foldl_cons, ih, List.length_set]
 exact key pre _
theorem hnew (W : World) (o : Obj) (k : Nat) (h : W.heap.size = k) : (W.alloc o).heap[k]? = some o := by subst h; exact heap_alloc_new W o
theorem hkeep {W : World} {k : Nat} {o : Obj} (h : W.heap[k]? = some o) (o' : Obj) : (W.alloc o').heap[k]? = some o :=
 (by show (W.heap.push o')[k]? = some o; rw [Array.getElem?_push, if_neg (Nat.ne_of_lt (Array.getElem?_eq_some_iff.1 h).1)]; exact h)
theorem parse4_world (w : World) (s m : ByteArray) : ∀ W0, ((((((w.alloc (.cells #[.int .u8 0, .int .u8 0, .int .u8 0, .int .u8 0] 87)).alloc (.cells #[.int .i64 0] 33)).alloc (.cells #[.int .u8 0, .int .u8 0, .int .u8 0, .int .u8 0] 87)).alloc (.cells #[.int .i64 0] 3)).alloc (.cells #[.string s] 9)).alloc (.cells #[.string m] 9)) = W0 →
  AAt W0 w.heap.size 87 (List.replicate 4 0) ∧ Boxed W0 (w.heap.size + 1) 33 (.int .i64 0) ∧ AAt W0 (w.heap.size + 1 + 1) 87 (List.replicate 4 0) ∧ Boxed W0 (w.heap.size + 1 + 1 + 1) 3 (.int .i64 0) ∧ Boxed W0 (w.heap.size + 1 + 1 + 1 + 1) 9 (.string s) ∧ Boxed W0 (w.heap.size + 1 + 1 + 1 + 1 + 1) 9 (.string m) ∧ w.grownBy W0 none ∧ W0.heap.size = w.heap.size + 6 := by
 rintro W0 rfl
 refine ⟨?_, ?_, ?_, ?_, ?_, ?_, ?_, ?_⟩
 ·exact hkeep (hkeep (hkeep (hkeep (hkeep (hnew _ _ _ rfl) _) _) _) _) _
 ·exact hkeep (hkeep (hkeep (hkeep (hnew _ _ _ (by simp only [World.size_alloc])) _) _) _) _
 ·exact hkeep (hkeep (hkeep (hnew _ _ _ (by simp only [World.size_alloc])) _) _) _
 ·exact hkeep (hkeep (hnew _ _ _ (by simp only [World.size_alloc])) _) _
 ·exact hkeep (hnew _ _ _ (by simp only [World.size_alloc])) _
 ·exact hnew _ _ _ (by simp only [World.size_alloc])
 ·exact grown_trans (grown_trans (grown_trans (grown_trans (grown_trans (World.grownBy_alloc _ _ _) (World.grownBy_alloc _ _ _)) (World.grownBy_alloc _ _ _)) (World.grownBy_alloc _ _ _)) (World.grownBy_alloc _ _ _)) (World.grownBy_alloc _ _ _)
 ·simp only [World.size_alloc]
theorem below_of {w W : World} (G : w.grownBy W none) : Below w.heap.size w W := (Below.refl _ _).grown G (Nat.le_refl _) (by simp)
theorem grown_of {w W : World} (h : Below w.heap.size w W) : w.grownBy W none := ⟨h.os, h.tape, h.output, h.size, fun k hk _ => h.block k hk⟩
def I4 (w : World) (R E A F : Nat) (pre : List (Nat × List UInt8)) (W : World) : Prop :=
 (goodP pre ∧ AAt W A 87 (arrSt pre) ∧ Boxed W F 3 (.int .i64 (pre.length : Int)) ∧ AAt W R 87 (List.replicate 4 0) ∧ Boxed W E 33 (.int .i64 0)) ∧ Below w.heap.size w W
def X4 (w : World) (R E : Nat) (c : Code) (pre : List (Nat × List UInt8)) (W : World) : Prop :=
 (c = .ret ∧ ¬ goodP pre ∧ AAt W R 87 (List.replicate 4 0) ∧ Boxed W E 33 (.int .i64 60)) ∧ Below w.heap.size w W
theorem I4_own (w : World) (R E A F B : Nat) (hB : w.heap.size ≤ B) : OwnFrom B (I4 w R E A F) :=
 OwnFrom.and (Own.from (fun _ _ _ _ hs hg hr => ⟨hs.1, aat_keep hs.2.1 hg hr, box_keep hs.2.2.1 hg hr, aat_keep hs.2.2.2.1 hg hr, box_keep hs.2.2.2.2 hg hr⟩) _) (ownFrom_below (Nat.le_refl _) hB)
theorem X4_own (w : World) (R E B : Nat) (hB : w.heap.size ≤ B) (c : Code) : OwnFrom B (X4 w R E c) :=
 OwnFrom.and (Own.from (fun _ _ _ _ hs hg hr => ⟨hs.1, hs.2.1, aat_keep hs.2.2.1 hg hr, box_keep hs.2.2.2 hg hr⟩) _) (ownFrom_below (Nat.le_refl _) hB)
theorem z4 {X : World} {R : Nat} (j : Nat) (h : AAt X R 87 (List.replicate 4 0)) : AAt (X.setCell ⟨R, j, none⟩ (.int .u8 0)) R 87 (List.replicate 4 0) := by
 have := h.set j 0 (by decide)
 rw [show UInt8.ofNat 0 = 0 from rfl, List.set_replicate_self] at this
 exact this
theorem refuse4 {w W : World} {R E : Nat} (hR : AAt W R 87 (List.replicate 4 0)) (hE : Boxed W E 33 (.int .i64 0)) (hB : Below w.heap.size w W) (n : R ≠ E) (l1 : w.heap.size ≤ R) (l2 : w.heap.size ≤ E) :
  ∀ X, ((((((W.setCell ⟨R, 0, none⟩ (.int .u8 0)).setCell ⟨R, 1, none⟩ (.int .u8 0)).setCell ⟨R, 2, none⟩ (.int .u8 0)).setCell ⟨R, 3, none⟩ (.int .u8 0)).setCell ⟨E, 0, none⟩ (.int .i64 60))) = X →
  KeepsOthers W X ∧ AAt X R 87 (List.replicate 4 0) ∧ Boxed X E 33 (.int .i64 60) ∧ Below w.heap.size w X := by
 rintro X rfl
 refine ⟨((((KeepsOthers.setCell _ _ _).trans (KeepsOthers.setCell _ _ _)).trans (KeepsOthers.setCell _ _ _)).trans (KeepsOthers.setCell _ _ _)).trans (KeepsOthers.setCell _ _ _), ?_, ?_, ?_⟩
 ·exact (z4 3 (z4 2 (z4 1 (z4 0 hR)))).setOther _ n
 ·exact Boxed.set _ (box_away _ (box_away _ (box_away _ (box_away _ hE (Ne.symm n)) (Ne.symm n)) (Ne.symm n)) (Ne.symm n))
 ·exact ((((hB.setCell (p := ⟨R, 0, none⟩) l1 _).setCell (p := ⟨R, 1, none⟩) l1 _).setCell (p := ⟨R, 2, none⟩) l1 _).setCell (p := ⟨R, 3, none⟩) l1 _).setCell (p := ⟨E, 0, none⟩) l2 _
theorem store4 {w W : World} {R E : Nat} (a b c d : UInt8) (ev : Int) {xs : List UInt8} (hx : xs.length = 4) {eo : Value} (hR : AAt W R 87 xs) (hE : Boxed W E 33 eo) (hB : Below w.heap.size w W) (n : R ≠ E) (l1 : w.heap.size ≤ R) (l2 : w.heap.size ≤ E) :
  ∀ X, ((((((W.setCell ⟨R, 0, none⟩ (.int .u8 (a.toNat : Int))).setCell ⟨R, 1, none⟩ (.int .u8 (b.toNat : Int))).setCell ⟨R, 2, none⟩ (.int .u8 (c.toNat : Int))).setCell ⟨R, 3, none⟩ (.int .u8 (d.toNat : Int))).setCell ⟨E, 0, none⟩ (.int .i64 ev))) = X →
  KeepsOthers W X ∧ AAt X R 87 [a, b, c, d] ∧ Boxed X E 33 (.int .i64 ev) ∧ Below w.heap.size w X := by
 rintro X rfl
 refine ⟨((((KeepsOthers.setCell _ _ _).trans (KeepsOthers.setCell _ _ _)).trans (KeepsOthers.setCell _ _ _)).trans (KeepsOthers.setCell _ _ _)).trans (KeepsOthers.setCell _ _ _), ?_, ?_, ?_⟩
 ·have h := ((((hR.set 0 a.toNat a.toNat_lt).set 1 b.toNat b.toNat_lt).set 2 c.toNat c.toNat_lt).set 3 d.toNat d.toNat_lt).setOther (i := 0) (.int .i64 ev) n
  simp only [UInt8.ofNat_toNat] at h
  match xs, hx with
  | [p, q, r, t], _ => exact h
 ·exact Boxed.set _ (box_away _ (box_away _ (box_away _ (box_away _ hE (Ne.symm n)) (Ne.symm n)) (Ne.symm n)) (Ne.symm n))
 ·exact ((((hB.setCell (p := ⟨R, 0, none⟩) l1 _).setCell (p := ⟨R, 1, none⟩) l1 _).setCell (p := ⟨R, 2, none⟩) l1 _).setCell (p := ⟨R, 3, none⟩) l1 _).setCell (p := ⟨E, 0, none⟩) l2 _
theorem goodP_snoc (pre : List (Nat × List UInt8)) (x : Nat × List UInt8) : goodP (pre ++ [x]) ↔ goodP pre ∧ (numberV 255 x.2).isSome = true ∧ x.1 < 4 := by
 unfold goodP
 constructor
 ·intro h
  exact ⟨fun p hp => h p (by simp [hp]), h x (by simp)⟩
 ·rintro ⟨h1, h2⟩ p hp
  rcases List.mem_append.1 hp with hp | hp
  ·exact h1 p hp
  ·simp only [List.mem_singleton] at hp
   subst hp
   exact h2
theorem numF_mem {α : Type} {i : Nat} {l : List α} {p : Nat × α} (h : p ∈ numF i l) : p.1 < i + l.length ∧ p.2 ∈ l := by
 induction l generalizing i with
 | nil => cases h
 | cons x r ih =>
  rw [numF] at h
  rcases List.mem_cons.1 h with rfl | h
  ·simp
  ·have := ih h
   refine ⟨by simp only [List.length_cons]; omega, List.mem_cons_of_mem _ this.2⟩
theorem allV_isSome {α β : Type} {f : α → Option β} {xs : List α} {vs : List β} (h : allV f xs = some vs) : ∀ x ∈ xs, (f x).isSome = true := by
 intro x hx
 obtain ⟨i, hi, rfl⟩ := List.getElem_of_mem hx
 cases hf : f xs[i] with
 | none => rw [allV_none_take hi hf] at h; cases h
 | some v => rfl
theorem allV_all {α : Type} {f : α → Option Nat} {xs : List α} (h : ∀ x ∈ xs, (f x).isSome = true) : allV f xs = some (xs.map fun x => (f x).getD 0) := by
 induction xs with
 | nil => rfl
 | cons x r ih =>
  have hx := h x (by simp)
  cases hf : f x with
  | none => rw [hf] at hx; cases hx
  | some v => simp only [allV, hf, ih (fun y hy => h y (by simp [hy])), List.map_cons, Option.bind_some, Option.map_some, Option.getD_some]
theorem good_all (s : List UInt8) (h : goodP (numF 0 (splitV 46 s))) : (splitV 46 s).length ≤ 4 ∧ ((splitV 46 s).length = 4 → parse4V s = some (arrSt (numF 0 (splitV 46 s)))) ∧ ((splitV 46 s).length ≠ 4 → parse4V s = none) := by
 refine ⟨?_, fun h4 => ?_, fun h4 => by rw [parse4V, if_neg h4]⟩
 ·rcases Nat.lt_or_ge 4 (splitV 46 s).length with hl | hl
  ·have := (h _ (List.mem_of_getElem? (numF_at 0 (splitV 46 s) 4 hl))).2
   simp only at this
   omega
  ·exact hl
 ·have ha : ∀ x ∈ splitV 46 s, (numberV 255 x).isSome = true := fun x hx => by
   rw [← numF_snd 0 (splitV 46 s)] at hx
   obtain ⟨p, hp, rfl⟩ := List.mem_map.1 hx
   exact (h p hp).1
  rw [parse4V, if_pos h4, allV_all ha]
  generalize splitV 46 s = ls at *
  match ls, h4 with
  | [a, b, c, d], _ => rfl
theorem not_good (s : List UInt8) {pre : List (Nat × List UInt8)} (hp : pre <+: numF 0 (splitV 46 s)) (h : ¬ goodP pre) : parse4V s = none := by
 rw [parse4V]
 split
 ·rename_i h4
  cases ha : allV (numberV 255) (splitV 46 s) with
  | none => rfl
  | some ns =>
   exfalso
   refine h fun p hm => ?_
   have hm2 := numF_mem (hp.subset hm)
   exact ⟨allV_isSome ha _ hm2.2, by omega⟩
 ·rfl
theorem ret_arr_cell {P : Program} {fn : Func} {p q : Tmp} {ty te : TypeId} (h : fn.results = #[.cell p ty, .cell q te]) (tmps : Array Value) (w : World) (g e : Nat) (xs : List UInt8) (n : Nat) (el : TypeId) (k : IntKind) (v : Int) (hp : tmps.getD p undef = .pointer (some ⟨g, 0, none⟩)) (hq : tmps.getD q undef = .pointer (some ⟨e, 0, none⟩)) (A : AAt w g ty xs) (B : Boxed w e te (.int k v))
  (hu : P.underlying ty = some (.array n el)) (hi : (P.info? ty).map (·.size) = some xs.length) (hv : P.underlying te = some (.int k)) : (results fn tmps).run P w = .ok (.tuple #[.agg (xs.map bv).toArray, .int k v]) w := by
 have hp' : tmps[p]?.getD undef = .pointer (some ⟨g, 0, none⟩) := by simpa using hp
 have hq' : tmps[q]?.getD undef = .pointer (some ⟨e, 0, none⟩) := by simpa using hq
 have h1 := run_loadVar_row (P := P) w g ty ty (xs.map bv).toArray (0, 0) _ A hu rfl (by rw [bv_size]; exact hi)
 have h2 : (loadVar te ⟨e, 0, none⟩).run P w = .ok (.int k v) w := by
  have hc := B.cell
  have hag : (isAgg te).run P w = .ok false w := run_isAgg_plain hv rfl w
  simp [loadVar, Sem.run_bind, hag, go_sem, hc]
 simp [results, h, hp', hq', asAddr, h1, h2, Sem.run_bind]
set_option maxRecDepth 100000 in
set_option maxHeartbeats 4000000 in
theorem parse4_any (s : ByteArray) (w : World) (hs : s.size ≤ 1048576) (T : TabA w) :
  Calls Tryz.prog 124 #[.string s] w fun e w' => e = .returned (.tuple #[arrV 4 (parse4V (sl s)), .int .i64 (errV (parse4V (sl s)))]) ∧ w.grownBy w' none := by
 have HT : Hid (TabA w) := T
 have h3 := T.size
 clear T
 refine (callsIn_wide (n := 3)).1 ?_
 refine callsIn_of_wp_marks Tryz.func124 rfl trivial ?_ rfl
 simp only [Tryz.ntmps124, List.size_toArray, List.length_cons, List.length_nil, Nat.reduceAdd, Nat.reduceSub, Array.replicate_succ, Array.replicate_zero, List.push_toArray, List.append_toArray, List.nil_append, List.cons_append]
 gi_wp2_with (refine ⟨trivial, ?_⟩; gi_at_call 127; refine (callsIn_wide.2 (parts_any _ _ _)).mono ?_; rintro e w' ⟨rfl, rfl⟩)
 obtain ⟨W0, hW0⟩ : ∃ W0, ((((((w.alloc (.cells #[.int .u8 0, .int .u8 0, .int .u8 0, .int .u8 0] 87)).alloc (.cells #[.int .i64 0] 33)).alloc (.cells #[.int .u8 0, .int .u8 0, .int .u8 0, .int .u8 0] 87)).alloc (.cells #[.int .i64 0] 3)).alloc (.cells #[.string s] 9)).alloc (.cells #[.string ⟨#[46]⟩] 9)) = W0 := ⟨_, rfl⟩
 obtain ⟨fR, fE, fA, fF, fS, fM, G0, hsz⟩ := parse4_world w s ⟨#[46]⟩ W0 hW0
 rw [hW0]
 clear hW0
 obtain ⟨M, hM⟩ : ∃ k, w.heap.size + 1 + 1 + 1 + 1 + 1 = k := ⟨_, rfl⟩
 rw [hM] at fM ⊢
 obtain ⟨Bs, hBs⟩ : ∃ k, w.heap.size + 1 + 1 + 1 + 1 = k := ⟨_, rfl⟩
 rw [hBs] at fS ⊢
 obtain ⟨F, hF⟩ : ∃ k, w.heap.size + 1 + 1 + 1 = k := ⟨_, rfl⟩
 rw [hF] at fF ⊢
 obtain ⟨A, hA⟩ : ∃ k, w.heap.size + 1 + 1 = k := ⟨_, rfl⟩
 rw [hA] at fA ⊢
 obtain ⟨E, hE⟩ : ∃ k, w.heap.size + 1 = k := ⟨_, rfl⟩
 rw [hE] at fE ⊢
 obtain ⟨R, hR⟩ : ∃ k, w.heap.size = k := ⟨_, rfl⟩
 rw [show (Value.pointer (some ⟨w.heap.size, 0, none⟩)) = .pointer (some ⟨R, 0, none⟩) by rw [hR]]
 rw [hR] at fR
 have ne : Hid (M ≠ A ∧ M ≠ F ∧ M ≠ R ∧ M ≠ E ∧ A ≠ F ∧ A ≠ R ∧ A ≠ E ∧ F ≠ R ∧ F ≠ E ∧ R ≠ E ∧ w.heap.size ≤ A ∧ w.heap.size ≤ F ∧ w.heap.size ≤ R ∧ w.heap.size ≤ E) := by
  refine ⟨?_, ?_, ?_, ?_, ?_, ?_, ?_, ?_, ?_, ?_, ?_, ?_, ?_, ?_⟩ <;> omega
 clear hM hBs hF hA hE hR
 have hle : w.heap.size ≤ W0.heap.size := G0.size
 have HS := sl_len s
 refine wpIn_rangeFunc_ownF rfl (by omega) (gf := 132) (lb := #[.pointer (some ⟨Bs, 0, none⟩), .pointer (some ⟨M, 0, none⟩)]) rfl trivial (enters_of Tryz.func132 (by kernel_rfl) rfl)
  (parts_stops _ (by omega) Bs M w.heap.size (fun k => k = M) 46 (sl s) (by omega) (.inl rfl) h3 W0 (HT.out.grown G0) (by rw [← str_sl]; exact fS.cell) fM.cell)
  (fun h k => h.trans k) (Kp.book hle) (Below.refl _ _) (fun _ => rfl)
  (I4 w R E A F) (X4 w R E) (I4_own w R E A F _ hle) (fun c => X4_own w R E _ hle c)
  ⟨⟨(fun p hp => absurd hp (by simp)), fA, fF, fR, fE⟩, below_of G0⟩
  (fun x => { tmps := #[.string s, undef, .pointer (some ⟨R, 0, none⟩), .pointer (some ⟨E, 0, none⟩), .pointer (some ⟨A, 0, none⟩), .pointer (some ⟨F, 0, none⟩), .int .i64 (x.1 : Int), str x.2, undef, undef, .string s, .func (.func 132) #[] #[.pointer (some ⟨Bs, 0, none⟩), .pointer (some ⟨M, 0, none⟩)], .int .i64 (x.1 : Int), str x.2, undef, undef, undef, undef, undef, undef, undef, undef, undef, undef, undef, undef, undef, undef, undef, undef, undef, undef, undef, undef, undef], defers := [] }) ?assign ?body ?done ?stop
 case assign =>
  intro l x W K hK
  gi_wp2
  exact hK
 case body =>
  rintro l pre ⟨i, t⟩ W ⟨⟨hg, hA, hF, hRr, hEe⟩, hB⟩ hlen
  have hO := octet_any ⟨t.toArray⟩ W
  have hlt := arrSt_len pre
  have hcR0 := hRr.cell (i := 0) (by decide)
  have hcR1 := hRr.cell (i := 1) (by decide)
  have hcR2 := hRr.cell (i := 2) (by decide)
  have hcR3 := hRr.cell (i := 3) (by decide)
  have fr0 := hRr.free 0
  have fr1 := hRr.free 1
  have fr2 := hRr.free 2
  have fr3 := hRr.free 3
  have hcE := hEe.cell
  have frE := hEe.frozen
  have hcF := hF.cell
  have frF := hF.frozen
  simp only [List.getElem_replicate] at hcR0 hcR1 hcR2 hcR3
  obtain ⟨n1, n2, n3, n4, n5, n6, n7, n8, n9, n10, l1, l2, l3, l4⟩ := ne.out
  have n10' : E ≠ R := Ne.symm n10
  cases hn : numberV 255 t with
  | none =>
   have CO : Calls Tryz.prog 128 #[str t] W fun e w' => (∃ n : Nat, e = .returned (.tuple #[.int .u8 (n : Int), .bool false])) ∧ W = w' := hO.mono (by
    rintro e w' ⟨⟨n, rfl, -, -⟩, rfl⟩
    rw [show numberV 255 (sl ⟨t.toArray⟩) = none from hn]
    exact ⟨⟨n, rfl⟩, rfl⟩)
   clear hO
   gi_wp2_with (refine ⟨trivial, ?_⟩; gi_at_call 128; refine (CallsIn.inRound l (callsIn_wide.2 CO)).mono ?_; rintro e w' ⟨⟨n, rfl⟩, rfl⟩)
   obtain ⟨k1, k2, k3, k4⟩ := refuse4 hRr hEe hB n10 l3 l4 _ rfl
   exact ⟨k1, ⟨rfl, fun h => (by have := ((goodP_snoc _ _).1 h).2.1; rw [show numberV 255 (i, t).2 = none from hn] at this; cases this), k2, k3⟩, k4⟩
  | some u =>
   have hu : u ≤ 255 := numberV_le hn
   have CO : Calls Tryz.prog 128 #[str t] W fun e w' => e = .returned (.tuple #[.int .u8 (u : Int), .bool true]) ∧ W = w' := hO.mono (by
    rintro e w' ⟨⟨n, rfl, -, hnu⟩, rfl⟩
    have hn' : numberV 255 (sl ⟨t.toArray⟩) = some u := hn
    obtain rfl := hnu u hn'
    rw [hn']
    exact ⟨rfl, rfl⟩)
   clear hO
   by_cases hi4 : 4 ≤ i
   ·have hi4' : (4 : Int) ≤ (i : Int) := by omega
    gi_wp2_with (refine ⟨trivial, ?_⟩; gi_at_call 128; refine (CallsIn.inRound l (callsIn_wide.2 CO)).mono ?_; rintro e w' ⟨rfl, rfl⟩)
    obtain ⟨k1, k2, k3, k4⟩ := refuse4 hRr hEe hB n10 l3 l4 _ rfl
    exact ⟨k1, ⟨rfl, fun h => (by have := ((goodP_snoc _ _).1 h).2.2; simp only at this; omega), k2, k3⟩, k4⟩
   ·have hi4' : ¬ (4 : Int) ≤ (i : Int) := by omega
    have hil : i < 4 := by omega
    have hil' : (i : Int) < 4 := by omega
    have hcA : W.cell? ⟨A, i, none⟩ = some (.int .u8 (((arrSt pre)[i]'(by omega)).toNat : Int)) := hA.cell (i := i) (by omega)
    generalize ((arrSt pre)[i]'(by omega)).toNat = old at hcA
    have frA := hA.free i
    have hw : IntKind.u8.wrap (u : Int) = u := by rw [IntKind.wrap_u8]; omega
    have A2 := hA.set i u (by omega)
    have B2 := box_away (i := i) (.int .u8 (u : Int)) hF (Ne.symm n5)
    have cF2 := B2.cell
    have fF2 := B2.frozen
    have hpl : pre.length ≤ 1048577 := by
     have := splitG_many 46 [] (sl s)
     unfold splitV at hlen
     omega
    have hM : Kp w.heap.size (fun k => k = M) W ((W.setCell ⟨A, i, none⟩ (.int .u8 (u : Int))).setCell ⟨F, 0, none⟩ (.int .i64 ((pre.length : Int) + 1))) := by
     refine ⟨((Below.refl _ _).setCell (p := ⟨A, i, none⟩) l1 _).setCell (p := ⟨F, 0, none⟩) l2 _, ?_⟩
     rintro k o rfl ho -
     rw [heap_setCell_other _ _ _ _ (show k ≠ F from n2), heap_setCell_other _ _ _ _ (show k ≠ A from n1)]
     exact ho
    clear hcR0 hcR1 hcR2 hcR3 fr0 fr1 fr2 fr3 hcE frE hcF frF
    gi_wp2_with (refine ⟨trivial, ?_⟩; gi_at_call 128; refine (CallsIn.inRound l (callsIn_wide.2 CO)).mono ?_; rintro e w' ⟨rfl, rfl⟩)
    refine ⟨(KeepsOthers.setCell _ _ _).trans (KeepsOthers.setCell _ _ _), hM, ⟨(goodP_snoc _ _).2 ⟨hg, by rw [show numberV 255 (i, t).2 = some u from hn]; rfl, hil⟩, ?_, ?_, ?_, ?_⟩, ?_⟩
    ·rw [arrSt_snoc, show numberV 255 (i, t).2 = some u from hn]
     exact A2.setOther _ n5
    ·rw [List.length_append, show ((pre.length + [(i, t)].length : Nat) : Int) = (pre.length : Int) + 1 by simp]
     exact B2.set _
    ·exact (hRr.setOther _ (Ne.symm n6)).setOther _ (Ne.symm n8)
    ·exact box_away _ (box_away _ hEe (Ne.symm n7)) (Ne.symm n9)
    ·exact (hB.setCell (p := ⟨A, i, none⟩) l1 _).setCell (p := ⟨F, 0, none⟩) l2 _
 case done =>
  rintro D xs W hD rfl ⟨⟨hg, hA, hF, hRr, hEe⟩, hB⟩ hK
  obtain ⟨g1, g2, g3⟩ := good_all (sl s) hg
  have hcF := hF.cell
  rw [numF_len] at hcF
  have hcR0 := hRr.cell (i := 0) (by decide)
  have hcR1 := hRr.cell (i := 1) (by decide)
  have hcR2 := hRr.cell (i := 2) (by decide)
  have hcR3 := hRr.cell (i := 3) (by decide)
  have fr0 := hRr.free 0
  have fr1 := hRr.free 1
  have fr2 := hRr.free 2
  have fr3 := hRr.free 3
  have hcE := hEe.cell
  have frE := hEe.frozen
  simp only [List.getElem_replicate] at hcR0 hcR1 hcR2 hcR3
  obtain ⟨n1, n2, n3, n4, n5, n6, n7, n8, n9, n10, l1, l2, l3, l4⟩ := ne.out
  have n10' : E ≠ R := Ne.symm n10
  have hlA := arrSt_len (numF 0 (splitV 46 (sl s)))
  clear hF fA fF fR fE fM fS
  by_cases h4 : (splitV 46 (sl s)).length = 4
  ·have HN : Hid (parse4V (sl s) = some (arrSt (numF 0 (splitV 46 (sl s))))) := g2 h4
   rw [h4] at hcF
   rw [show (((4 : Nat) : Int)) = 4 from rfl] at hcF
   clear g1 g2 g3 hg h4
   generalize arrSt (numF 0 (splitV 46 (sl s))) = ys at *
   obtain ⟨a, b, c, d, rfl⟩ : ∃ a b c d, ys = [a, b, c, d] := by
    match ys, hlA with
    | [a, b, c, d], _ => exact ⟨a, b, c, d, rfl⟩
   have hcA0 : W.cell? ⟨A, 0, none⟩ = some (.int .u8 (a.toNat : Int)) := hA.cell (i := 0) (by simp)
   have hcA1 : W.cell? ⟨A, 1, none⟩ = some (.int .u8 (b.toNat : Int)) := hA.cell (i := 1) (by simp)
   have hcA2 : W.cell? ⟨A, 2, none⟩ = some (.int .u8 (c.toNat : Int)) := hA.cell (i := 2) (by simp)
   have hcA3 : W.cell? ⟨A, 3, none⟩ = some (.int .u8 (d.toNat : Int)) := hA.cell (i := 3) (by simp)
   gi_wp2
   obtain ⟨X, hX⟩ : ∃ X, ((((((W.setCell ⟨R, 0, none⟩ (.int .u8 (a.toNat : Int))).setCell ⟨R, 1, none⟩ (.int .u8 (b.toNat : Int))).setCell ⟨R, 2, none⟩ (.int .u8 (c.toNat : Int))).setCell ⟨R, 3, none⟩ (.int .u8 (d.toNat : Int))).setCell ⟨E, 0, none⟩ (.int .i64 0))) = X := ⟨_, rfl⟩
   rw [hX]
   obtain ⟨k1, k2, k3, k4⟩ := store4 a b c d 0 rfl hRr hEe hB n10 l3 l4 X hX
   clear hX
   have hK' := k1.same D _ hK rfl
   refine ⟨by simp, .inl ⟨_, _, rfl, run_takeDeferred hK', ?_⟩⟩
   have hr : ∀ r, some D = some r → ∃ o : Obj, X.heap[r]? = some o ∧ o.isCells = false := fun r e => by cases e; exact ⟨_, hK', rfl⟩
   refine ⟨_, ret_arr_cell rfl _ _ R E [a, b, c, d] 4 5 .i64 0 rfl rfl (aat_keep k2 (grownBy_putObj' _ D (.deferred none)) hr) (box_keep k3 (grownBy_putObj' _ D (.deferred none)) hr) Tryz.underlying87 size87 Tryz.underlying33, ?_, ?_⟩
   ·rw [HN.out]; rfl
   ·exact grown_of (k4.trans (belowK_b (w := w) (Nat.le_refl _) _ D _ _ (by omega) hK' rfl rfl))
  ·have HN : Hid (parse4V (sl s) = none) := g3 h4
   have h4' : (((splitV 46 (sl s)).length : Int) != 4) = true := by rw [bne_iff_ne]; omega
   clear g2 g3 hg h4
   generalize (splitV 46 (sl s)).length = N at *
   gi_wp2
   obtain ⟨X, hX⟩ : ∃ X, ((((((W.setCell ⟨R, 0, none⟩ (.int .u8 0)).setCell ⟨R, 1, none⟩ (.int .u8 0)).setCell ⟨R, 2, none⟩ (.int .u8 0)).setCell ⟨R, 3, none⟩ (.int .u8 0)).setCell ⟨E, 0, none⟩ (.int .i64 60))) = X := ⟨_, rfl⟩
   rw [hX]
   obtain ⟨k1, k2, k3, k4⟩ := refuse4 hRr hEe hB n10 l3 l4 X hX
   clear hX
   have hK' := k1.same D _ hK rfl
   refine ⟨by simp, .inl ⟨_, _, rfl, run_takeDeferred hK', ?_⟩⟩
   have hr : ∀ r, some D = some r → ∃ o : Obj, X.heap[r]? = some o ∧ o.isCells = false := fun r e => by cases e; exact ⟨_, hK', rfl⟩
   refine ⟨_, ret_arr_cell rfl _ _ R E (List.replicate 4 0) 4 5 .i64 60 rfl rfl (aat_keep k2 (grownBy_putObj' _ D (.deferred none)) hr) (box_keep k3 (grownBy_putObj' _ D (.deferred none)) hr) Tryz.underlying87 size87 Tryz.underlying33, ?_, ?_⟩
   ·rw [HN.out]; rfl
   ·exact grown_of (k4.trans (belowK_b (w := w) (Nat.le_refl _) _ D _ _ (by omega) hK' rfl rfl))
 case stop =>
  rintro D c pre W hD hpre ⟨⟨rfl, hbad, hRr, hEe⟩, hB⟩ hK
  have HN : Hid (parse4V (sl s) = none) := not_good (sl s) hpre hbad
  gi_wp2
  refine ⟨by simp, .inl ⟨_, _, rfl, run_takeDeferred hK, ?_⟩⟩
  have hr : ∀ r, some D = some r → ∃ o : Obj, W.heap[r]? = some o ∧ o.isCells = false := fun r e => by cases e; exact ⟨_, hK, rfl⟩
  refine ⟨_, ret_arr_cell rfl _ _ R E (List.replicate 4 0) 4 5 .i64 60 rfl rfl (aat_keep hRr (grownBy_putObj' _ D (.deferred none)) hr) (box_keep hEe (grownBy_putObj' _ D (.deferred none)) hr) Tryz.underlying87 size87 Tryz.underlying33, ?_, ?_⟩
  ·rw [HN.out]; rfl
  ·exact grown_of (hB.trans (belowK_b (w := w) (Nat.le_refl _) W D _ _ (by omega) hK rfl rfl))
theorem gd_of {s : ByteArray} {l : List UInt8} (h : sl s = l) (i : Nat) : gd s i = (l.getD i 0).toNat := by unfold gd; unfold sl at h; rw [h]
theorem un4 {s : ByteArray} {a b c d : UInt8} (h : sl s = [a, b, c, d]) :
  unOk s = (digOk a.toNat && digOk b.toNat && digOk c.toNat && digOk d.toNat) ∧
  (unOk s = true → unV s = [UInt8.ofNat (16 * digV a.toNat + digV b.toNat), UInt8.ofNat (16 * digV c.toNat + digV d.toNat)]) := by
 have hs : s.size = 4 := by rw [← sl_len, h]; rfl
 have g0 : gd s 0 = a.toNat := gd_of h 0
 have g1 : gd s 1 = b.toNat := gd_of h 1
 have g2 : gd s 2 = c.toNat := gd_of h 2
 have g3 : gd s 3 = d.toNat := gd_of h 3
 refine ⟨?_, fun ho => ?_⟩
 ·simp [unOk, hs, okTo, g0, g1, g2, g3, Bool.and_assoc]
 ·rw [unV, if_pos ho, hs]
  simp [decTo, g0, g1, g2, g3]
theorem digV_16 (c : Nat) : digV c < 16 := by unfold digV; split <;> (try split) <;> omega
theorem get2 (a b c d : Nat) (ha : a < 16) (hb : b < 16) (hc : c < 16) (hd : d < 16) : getV [UInt8.ofNat (16 * a + b), UInt8.ofNat (16 * c + d)] 0 2 = ((4096 * a + 256 * b + 16 * c + d : Nat) : Int) := by
 have e1 : (UInt8.ofNat (16 * a + b)).toNat = 16 * a + b := by rw [UInt8.toNat_ofNat_of_lt' (by show _ < 256; omega)]
 have e2 : (UInt8.ofNat (16 * c + d)).toNat = 16 * c + d := by rw [UInt8.toNat_ofNat_of_lt' (by show _ < 256; omega)]
 have ho : okB [UInt8.ofNat (16 * a + b), UInt8.ofNat (16 * c + d)].length 0 2 = true := show okB 2 0 2 = true by decide
 rw [getV, if_pos ho]
 show (((0 * 256 + (UInt8.ofNat (16 * a + b)).toNat) * 256 + (UInt8.ofNat (16 * c + d)).toNat : Nat) : Int) = _
 rw [e1, e2]
 omega
theorem hex0 (r : List UInt8) : hexFrom 0 (48 :: r) = hexFrom 0 r := by rw [hexFrom, if_pos (by decide)]; rfl
theorem hex4 (a b c d : UInt8) : hexFrom 0 [a, b, c, d] = if (digOk a.toNat && digOk b.toNat && digOk c.toNat && digOk d.toNat) = true then some (4096 * digV a.toNat + 256 * digV b.toNat + 16 * digV c.toNat + digV d.toNat) else none := by
 simp only [hexFrom]
 cases digOk a.toNat <;> cases digOk b.toNat <;> cases digOk c.toNat <;> cases digOk d.toNat <;> simp <;> omega
theorem group_four (l : List UInt8) (h1 : 1 ≤ l.length) (h4 : l.length ≤ 4) : ∃ a b c d, List.replicate (4 - l.length) 48 ++ l = [a, b, c, d] ∧ groupV l = hexFrom 0 [a, b, c, d] := by
 match l, h1, h4 with
 | [d], _, _ => exact ⟨48, 48, 48, d, rfl, by rw [hex0, hex0, hex0]; rfl⟩
 | [c, d], _, _ => exact ⟨48, 48, c, d, rfl, by rw [hex0, hex0]; rfl⟩
 | [b, c, d], _, _ => exact ⟨48, b, c, d, rfl, by rw [hex0]; rfl⟩
 | [a, b, c, d], _, _ => exact ⟨a, b, c, d, rfl, rfl⟩
theorem sl_cat (a b : ByteArray) : sl (a ++ b) = sl a ++ sl b := by simp [sl]
set_option maxHeartbeats 2000000 in
theorem group_any (s : ByteArray) (w : World) :
  Calls Tryz.prog 134 #[.string s] w fun e w' => e = .returned (.tuple #[.int .u16 (((groupV (sl s)).getD 0 : Nat) : Int), .bool (groupV (sl s)).isSome]) ∧ w.grownBy w' none := by
 have hl := sl_len s
 by_cases h0 : s.size < 1
 ·have e : groupV (sl s) = none := by rw [groupV, if_pos (by omega)]
  rw [e]
  have h0' : (s.size : Int) < 1 := by omega
  go_enter Tryz.func134, Tryz.ntmps134
  go_wp2
  go_ret2
  exact ⟨rfl, World.grownBy.refl _ _⟩
 ·have h0' : ¬ (s.size : Int) < 1 := by omega
  by_cases h4 : 4 < s.size
  ·have e : groupV (sl s) = none := by rw [groupV, if_pos (by omega)]
   rw [e]
   have h4' : (4 : Int) < (s.size : Int) := by omega
   go_enter Tryz.func134, Tryz.ntmps134
   go_wp2
   go_ret2
   exact ⟨rfl, World.grownBy.refl _ _⟩
  ·have h4' : ¬ (4 : Int) < (s.size : Int) := by omega
   have h5' : (s.size : Int) ≤ 4 := by omega
   obtain ⟨a, b, c, d, hs4, hg⟩ := group_four (sl s) (by omega) (by omega)
   rw [hl] at hs4
   have HS : Hid (List.replicate (4 - s.size) 48 ++ sl s = [a, b, c, d]) := hs4
   have CU : Hid (∀ (X : ByteArray) (W : World), sl X = [a, b, c, d] → Calls Tryz.prog 136 #[.string X] W fun e w' => ∃ v ys, e = .returned (.tuple #[v, .bool (groupV (sl s)).isSome]) ∧ Owns w' W.heap.size v ys ∧ getV ys 0 2 = (((groupV (sl s)).getD 0 : Nat) : Int) ∧ ys.length ≤ 2 ∧ W.grownBy w' none) := fun X W hX => by
    have hXs : X.size = 4 := by rw [← sl_len, hX]; rfl
    obtain ⟨u1, u2⟩ := un4 hX
    refine (unhex_any X W (by omega) (by omega)).mono ?_
    rintro e w' ⟨v, rfl, O, G⟩
    refine ⟨v, unV X, ?_, O, ?_, ?_, G⟩
    ·rw [hg, hex4, u1]
     split <;> rename_i hh
     ·rw [hh]; rfl
     ·rw [Bool.eq_false_iff.2 hh]; rfl
    ·rw [hg, hex4, ← u1]
     split
     ·rename_i hh
      rw [u2 hh, get2 _ _ _ _ (digV_16 _) (digV_16 _) (digV_16 _) (digV_16 _)]
      rfl
     ·rename_i hh
      rw [unV, if_neg hh]
      rfl
    ·by_cases hh : unOk X = true
     ·rw [u2 hh]; exact Nat.le_refl _
     ·rw [unV, if_neg hh]; exact Nat.zero_le _
   have hlt : ((groupV (sl s)).getD 0 : Nat) < 65536 := by
    cases hq : groupV (sl s) with
    | none => decide
    | some u => exact group_lt hq
   clear hg hs4
   generalize (groupV (sl s)).isSome = ok at *
   generalize (groupV (sl s)).getD 0 = u at *
   go_enter Tryz.func134, Tryz.ntmps134
   go_wp2_with fail
   refine (CU.out _ _ ?hx).mono ?_
   case hx =>
    rw [sl_cat, sl_extract, ← HS.out]
    congr 1
    have : s.size = 1 ∨ s.size = 2 ∨ s.size = 3 ∨ s.size = 4 := by omega
    rcases this with h | h | h | h <;> simp only [h] <;> rfl
   rintro e w1 ⟨v, ys, rfl, O, hv, hy, G⟩
   obtain ⟨ao, cap, rfl, hc, -⟩ := O.rd
   have CG := get_any ao cap ys 0 2 w1 hc (by omega)
   rw [hv] at CG
   have hw : IntKind.u16.wrap (u : Int) = u := by rw [IntKind.wrap_u16]; omega
   clear CU HS O hc hv
   generalize okB ys.length 0 2 = ok2 at *
   go_wp2_with fail
   refine CG.mono ?_
   rintro e w2 ⟨rfl, rfl⟩
   go_wp2
   go_ret2
   exact ⟨rfl, G⟩
def hv16 (g : Nat) : Value := .int .u16 (g : Int)
abbrev UOwns (w : World) (base : Nat) (v : Value) (gs : List Nat) : Prop := w.ownsRow base 123 1 v gs.length (gs.map hv16)
theorem bytesG_snoc (gs : List Nat) (g : Nat) : bytesG (gs ++ [g]) = bytesG gs ++ [UInt8.ofNat (g / 256), UInt8.ofNat g] := by simp [bytesG]
theorem bytesG_len (gs : List Nat) : (bytesG gs).length = 2 * gs.length := by
 induction gs with
 | nil => rfl
 | cons g r ih => simp only [bytesG, List.flatMap_cons, List.length_append, List.length_cons, List.length_nil] at *; omega
set_option maxHeartbeats 2000000 in
theorem laid_any (a : Option Addr) (ca : Nat) (gs : List Nat) (w : World) (ha : CV w a (gs.map hv16)) (hg : ∀ g ∈ gs, g < 65536) (h8 : gs.length ≤ 8) :
  Calls Tryz.prog 131 #[.slice a gs.length ca] w fun e w' => ∃ v, e = .returned v ∧ Owns w' w.heap.size v (bytesG gs) ∧ w.grownBy w' none := by
 obtain ⟨i0, hi, hz0, hz1, hz2⟩ := info_parts info5
 have H : Hid (CV w a (gs.map hv16)) := ha
 have HG : Hid (∀ g ∈ gs, g < 65536) := hg
 clear ha hg
 go_enter Tryz.func131, Tryz.ntmps131
 go_wp2
 go_loopw [3, 8] (fun v i wr => ∃ j : Nat, j ≤ gs.length ∧ i = .int .i64 j ∧ Owns wr w.heap.size v (bytesG (gs.take j)) ∧ w.grownBy wr none) (fun _ i _ => gs.length - (intOf i).toNat)
 case atStart => exact ⟨0, Nat.zero_le _, rfl, World.ownsRow_nil _ _ _ _, World.grownBy.refl _ _⟩
 case round =>
  obtain ⟨j, hj, rfl, O, G⟩ := hrel
  by_cases hlt : j < gs.length
  ·have hl : (j : Int) < (gs.length : Int) := by omega
   obtain ⟨b, o, rfl, hc⟩ : ∃ b o, a = some ⟨b, o, none⟩ ∧ w.cell? ⟨b, o + j, none⟩ = some (.int .u16 (gs[j] : Int)) := by
    cases a with
    | none => have := H.out.1 rfl; simp at this; subst this; simp at hlt
    | some ad =>
     obtain ⟨b, off, spot⟩ := ad
     have h0 := H.out.2 _ rfl 0 (by simp; omega)
     have hspot : spot = none := by simpa [Addr.add] using World.cell?_spot h0
     subst hspot
     refine ⟨b, off, rfl, ?_⟩
     have := H.out.2 _ rfl j (by simp; omega)
     rw [Addr.add_lit] at this
     simpa [hv16] using this
   have hcj := G.cell hc (by simp)
   have hgj := HG.out gs[j] (List.getElem_mem hlt)
   have HN : Hid (bytesG (gs.take (j + 1)) = bytesG (gs.take j) ++ [UInt8.ofNat (gs[j] / 256), UInt8.ofNat gs[j]]) := by
    show _ = _
    rw [List.take_succ_eq_append_getElem hlt, bytesG_snoc]
   have hlen : (bytesG (gs.take j)).length ≤ 16 := by rw [bytesG_len, List.length_take]; omega
   generalize gs[j] = g at *
   generalize bytesG (gs.take j) = ys at *
   have hw1 : IntKind.u8.wrap ((g : Int) / 256) = ((UInt8.ofNat (g / 256)).toNat : Int) := by
    rw [IntKind.wrap_u8, UInt8.toNat_ofNat_of_lt' (by show _ < 256; omega)]; omega
   have hw2 : IntKind.u8.wrap (g : Int) = ((UInt8.ofNat g).toNat : Int) := by
    rw [IntKind.wrap_u8, UInt8.toNat_ofNat']; omega
   clear hc
   go_wp2_with (at_builtin; refine wpList_append_cv rfl (.tmp 12) (.tmp 18) 88 rfl 5 i0 (.int .u8 0) 1 1 Tryz.underlying88 hi hz0 hz1 hz2 rfl (by decide) w.heap.size u3 ys.length (ys.map bv) rfl ?q1 (some ⟨wr.heap.size, 0, none⟩) 2 2 [bv (UInt8.ofNat (g / 256)), bv (UInt8.ofNat g)] rfl rfl (by simp) ?q2 (by simp [Value.oneCell', bv]) ?q3 ?q4 ?q5 ?q6)
   case q1 => exact O.alloc _
   case q2 => exact cv_lit wr _ _
   case q3 => unfold maxLen; omega
   case q4 => omega
   case q5 => have := G.size; simp; omega
   case q6 =>
    intro y2 w2 O2 K2
    have G2 : w.grownBy w2 none := grown_trans_new (grown_trans G (World.grownBy_alloc _ _ _)) K2 (fun z hz => (O.lt z hz).1)
    have O3 : Owns w2 w.heap.size y2 (bytesG (gs.take (j + 1))) := by
     rw [HN.out]
     unfold Owns
     rw [List.length_append, List.map_append]
     exact O2
    clear O2 K2 O G
    go_wp2
    go_roundw
    case rel => exact ⟨j + 1, by omega, by go_num, O3, G2⟩
    case measure => simp [intOf]; omega
  ·obtain rfl : j = gs.length := by omega
   rw [List.take_length] at O
   go_wp2
   go_ret
   exact ⟨_, rfl, O, G⟩

end Go.Proofs.YtghbbephhoniaaaGreatDoor
