import Derived.Test.YtklipelnjgpnjaaGreatDoorLotS16
namespace Go.Proofs.YtklipelnjgpnjaaGreatDoor
open Go.RowKit
set_option maxRecDepth 100000
def exP : Er := (0, 0)
theorem a3A {α β : Type} {x y : Except Er α} {F G : α → Except Er β} (h1 : x ≠ .error exP → y = x) (h2 : ∀ v, x = .ok v → F v ≠ .error exP → G v = F v) (h : d7 x F ≠ .error exP) : d7 y G = d7 x F := by
 cases hx : x with
 | error e =>
  rw [hx] at h h1
  rw [h1 (fun e' => h (by rw [Except.error.inj e']; rfl))]
  rfl
 | ok v =>
  rw [hx] at h h1
  rw [h1 (by simp)]
  exact h2 v hx h
theorem a56 {α : Type} {nest : Nat} {ts : List Tk} {x y : Except Er α} (h1 : x ≠ .error exP → y = x) (h : y0 nest ts x ≠ .error exP) : y0 nest ts y = y0 nest ts x := by
 unfold y0 at *
 split
 ·rfl
 ·rename_i hn
  rw [if_neg hn] at h
  exact h1 h
def a4k (a b : Nat → List Tk → Out) : Prop := ∀ nest ts, a nest ts ≠ .error exP → b nest ts = a nest ts
theorem aF4 {a b : Nat → List Tk → Out} (hm : a4k a b) {nest of at' : Nat} {ts : List Tk} (h : M1 a nest of at' ts ≠ .error exP) : M1 b nest of at' ts = M1 a nest of at' ts := by
 unfold M1 at *
 split
 ·rename_i hb
  rw [if_pos hb] at h
  exact a56 (fun h => a3A (fun h => hm _ _ h) (fun v _ _ => rfl) h) h
 ·rfl
theorem aN2 {a b : Nat → List Tk → Out} (hm : a4k a b) : a4k (s9 a) (s9 b) := by
 intro nest ts h
 unfold s9 at *
 split
 ·rfl
 ·rename_i h1
  rw [if_neg h1] at h
  split
  ·rename_i hb
   rw [if_pos hb] at h
   exact a56 (fun h => a3A (fun h => hm _ _ h) (fun v _ _ => rfl) h) h
  ·rename_i h2
   rw [if_neg h2] at h
   split
   ·rfl
   ·rename_i h3
    rw [if_neg h3] at h
    split
    ·rename_i h4
     rw [if_pos h4] at h
     exact aF4 hm h
    ·rfl
theorem a9m {a b : List Tk → Out} (hm : ∀ ts, a ts ≠ .error exP → b ts = a ts) (k : Nat) : ∀ (f : Nat) (ns : List (Nd × Nat)) (ts : List Tk), q9 a k f ns ts ≠ .error exP → q9 b k f ns ts = q9 a k f ns ts
 | 0, ns, ts, _ => rfl
 | f + 1, ns, ts, h => by
  unfold q9 at *
  split
  ·rfl
  ·rename_i nd hnd
   rw [hnd] at h
   refine a3A (fun h => hm _ h) (fun v _ h2 => ?_) h
   split
   ·rfl
   ·rename_i hk
    rw [if_neg hk] at h2
    exact a9m hm k f _ _ h2
theorem aa2 : ∀ (f k : Nat), a4k (d6 f k) (d6 (f + 1) k)
 | 0, k => fun nest ts h => absurd rfl h
 | f + 1, k => fun nest ts h => by
  have ih := aa2 f
  rw [J9] at h
  rw [J9 (f + 1), J9 f]
  unfold L0 at *
  split
  ·rename_i h1
   rw [if_pos h1] at h
   exact a56 (fun h => a3A (fun h => ih 3 _ _ h) (fun v _ _ => rfl) h) h
  ·rename_i h1
   rw [if_neg h1] at h
   split
   ·rename_i h2
    rw [if_pos h2] at h
    exact a56 (fun h => a3A (fun h => ih 11 _ _ h) (fun v _ _ => rfl) h) h
   ·rename_i h2
    rw [if_neg h2] at h
    split
    ·rename_i h3
     rw [if_pos h3] at h
     exact ih (k + 1) _ _ h
    ·rename_i h3
     rw [if_neg h3] at h
     split
     ·rename_i h4
      rw [if_pos h4] at h
      exact aN2 (ih 1) _ _ h
     ·rename_i h4
      rw [if_neg h4] at h
      exact a3A (fun h => ih (k + 1) _ _ h) (fun v _ h2 => a9m (fun ts h => ih (k + 1) nest ts h) k _ _ _ h2) h
theorem aa3 {f g k nest : Nat} {ts : List Tk} (hfg : f ≤ g) (h : d6 f k nest ts ≠ .error exP) : d6 g k nest ts = d6 f k nest ts := by
 induction g with
 | zero =>
  obtain rfl : f = 0 := by omega
  rfl
 | succ g ih =>
  by_cases hg : f ≤ g
  ·rw [aa2 g k nest ts (by rw [ih hg]; exact h), ih hg]
  ·obtain rfl : f = g + 1 := by omega
   rfl
theorem a1M {α : Type} (ts : List Tk) (e : Int) (he : e ≠ 0) : (E4 ts e : Except Er α) ≠ .error exP := by
 intro h
 have := congrArg Prod.snd (Except.error.inj h)
 simp only [exP] at this
 split at this
 ·cases this
 ·exact he this
theorem T8 {α β : Type} {x : Except Er α} {F : α → Except Er β} (h1 : x ≠ .error exP) (h2 : ∀ v, x = .ok v → F v ≠ .error exP) : d7 x F ≠ .error exP := by
 cases hx : x with
 | error e => rw [hx] at h1; exact fun h => h1 (by rw [Except.error.inj h])
 | ok v => exact h2 v hx
theorem a57 {α : Type} {nest : Nat} {ts : List Tk} {x : Except Er α} (h : x ≠ .error exP) : y0 nest ts x ≠ .error exP := by
 unfold y0
 split
 ·intro e
  have := congrArg Prod.snd (Except.error.inj e)
  cases this
 ·exact h
theorem a41 (x : List UInt8) (ts : List Tk) : m9 x ts ≠ .error exP := by
 unfold m9
 split
 ·simp
 ·exact a1M _ _ (by decide)
theorem a2D (ts : List Tk) : j7 ts ≠ .error exP := by
 unfold j7
 split
 ·simp
 ·exact a1M _ _ (by decide)
theorem a7B (k : Nat) (ts : List Tk) : Z3 k ts ≠ .error exP := by
 unfold Z3
 split
 ·split
  ·simp
  ·exact a1M _ _ (by decide)
 ·split
  ·split
   ·simp
   ·exact a1M _ _ (by decide)
  ·exact a1M _ _ (by decide)
theorem ab9 (of at' : Nat) (ts : List Tk) : a0n of at' ts ≠ .error exP := by
 unfold a0n S2
 split
 ·exact T8 (a2D _) (fun v _ => by simp)
 ·split
  ·exact T8 (a2D _) (fun v _ => T8 (a41 _ _) (fun v _ => T8 (a2D _) (fun v _ => by simp)))
  ·split
   ·exact T8 (a7B _ _) (fun v _ => by simp)
   ·split
    ·exact T8 (a7B _ _) (fun v _ => T8 (a41 _ _) (fun v _ => T8 (a2D _) (fun v _ => by simp)))
    ·exact a1M _ _ (by decide)
theorem b19 (ts : List Tk) : P8 ts ≠ .error exP := by
 unfold P8
 split
 ·simp
 ·split
  ·simp
  ·split
   ·simp
   ·split
    ·exact T8 (a2D _) (fun v _ => by simp)
    ·split
     ·exact ab9 _ _ _
     ·exact a1M _ _ (by decide)
theorem aX2 (ts : List Tk) : a0c ts ≠ .error exP := by
 unfold a0c
 split
 ·exact T8 (a2D _) (fun v _ => T8 (a41 _ _) (fun v _ => by simp))
 ·exact T8 (a41 _ _) (fun v _ => by simp)
theorem aO8 {rec : Nat → List Tk → Out} {ts : List Tk} (h : ∀ nest r, Fr ts r → rec nest r ≠ .error exP) (nest : Nat) : s9 rec nest ts ≠ .error exP := by
 unfold s9
 split
 ·simp
 ·split
  ·rename_i hb
   exact a57 (T8 (h _ _ (L3 (U7 hb))) (fun v _ => T8 (a41 _ _) (fun v _ => by simp)))
  ·split
   ·exact a1M _ _ (by decide)
   ·rename_i hk
    have hne := a1h (ts := ts) (by omega)
    split
    ·unfold M1
     split
     ·rename_i hb
      exact a57 (T8 (h _ _ ((L3 hne).trans (L3 (U7 hb.1)))) (fun v _ => T8 (aX2 _) (fun v _ => by simp)))
     ·split
      ·exact a1M _ _ (by decide)
      ·split
       ·exact T8 (a2D _) (fun v _ => by simp)
       ·split
        ·exact ab9 _ _ _
        ·simp
    ·exact b19 _
theorem a9o {rec : List Tk → Out} {top : List Tk} (hf : ∀ ts ns r, rec ts = .ok (ns, r) → Fr ts r ∧ ns ≠ []) (h : ∀ r, Fr top r → rec r ≠ .error exP) (k : Nat) : ∀ (f : Nat) (ns : List (Nd × Nat)) (ts : List Tk), Fr top ts → q9 rec k f ns ts ≠ .error exP
 | 0, ns, ts, _ => by
  unfold q9
  simp
 | f + 1, ns, ts, ht => by
  unfold q9
  split
  ·simp
  ·rename_i nd hnd
   have hne : ts ≠ [] := by
    rintro rfl
    unfold opT at hnd
    rw [if_neg (by decide)] at hnd
    cases hnd
   refine T8 (h _ (ht.trans (L3 hne))) (fun v hv => ?_)
   split
   ·simp
   ·exact a9o hf h k f _ _ (ht.trans ((L3 hne).trans (hf _ v.1 v.2 hv).1))
theorem a5i : ∀ (f k nest : Nat) (ts : List Tk), k ≤ 12 → a0m k ts ≤ f → d6 f k nest ts ≠ .error exP
 | 0, k, nest, ts, hk, hn => by unfold a0m at hn; omega
 | f + 1, k, nest, ts, hk, hn => by
  have ih := a5i f
  unfold a0m at hn
  have below : ∀ k' nest' r, k' ≤ 12 → 1 ≤ k' → Fr ts r → d6 f k' nest' r ≠ .error exP := fun k' nest' r h1 h2 h3 => ih k' nest' r h1 (by have := h3.2; unfold a0m; omega)
  rw [J9]
  unfold L0
  split
  ·rename_i hb
   have hne : ts ≠ [] := by rcases hb.2 with hb | hb <;> exact U7 hb
   exact a57 (T8 (below 3 _ _ (by omega) (by omega) (L3 hne)) (fun v _ => by simp))
  ·split
   ·rename_i hb
    exact a57 (T8 (below 11 _ _ (by omega) (by omega) (L3 (U7 hb.2))) (fun v _ => by simp))
   ·split
    ·exact ih (k + 1) _ _ (by omega) (by unfold a0m; omega)
    ·split
     ·exact aO8 (fun nest' r hr => below 1 nest' r (by omega) (by omega) hr) nest
     ·have h1 : d6 f (k + 1) nest ts ≠ .error exP := ih (k + 1) _ _ (by omega) (by unfold a0m; omega)
      refine T8 h1 (fun v hv => ?_)
      exact a9o (top := ts) (fun ts ns r h => a17 f (k + 1) nest ts ns r h) (fun r hr => below (k + 1) nest r (by omega) (by omega) hr) k _ _ _ (a17 f (k + 1) nest ts v.1 v.2 hv).1
def N8 (ts : List Tk) : Prop := ∃ us e, ts = us ++ [e] ∧ e.kind = 0 ∧ ∀ t ∈ us, t.kind ≠ 0
def a5L (ts : List Tk) (p : Nat) : Prop := ∃ t ∈ ts, t.kind ≠ 0 ∧ t.pos = p
def a2l (ts : List Tk) (e : Er) : Prop := ∃ t ∈ ts, t.pos = e.1 ∧ ((e.2 = 110 ∧ t.kind = 0) ∨ (t.kind ≠ 0 ∧ (e.2 = 111 ∨ e.2 = 112 ∨ e.2 = 113)))
theorem N8.mem {ts : List Tk} (h : N8 ts) : hdT ts ∈ ts := by
 obtain ⟨us, e, rfl, -, -⟩ := h
 cases us with
 | nil => exact List.mem_cons_self ..
 | cons a us => exact List.mem_cons_self ..
theorem N8.tail {ts : List Tk} (h : N8 ts) (hk : (hdT ts).kind ≠ 0) : N8 ts.tail := by
 obtain ⟨us, e, rfl, he, hu⟩ := h
 cases us with
 | nil => exact absurd he hk
 | cons a us => exact ⟨us, e, rfl, he, fun t ht => hu t (List.mem_cons_of_mem _ ht)⟩
theorem a5L.up {ts r : List Tk} {p : Nat} (h : a5L r p) (hs : r <:+ ts) : a5L ts p := by
 obtain ⟨t, ht, h⟩ := h
 exact ⟨t, hs.subset ht, h⟩
theorem a2l.up {ts r : List Tk} {e : Er} (h : a2l r e) (hs : r <:+ ts) : a2l ts e := by
 obtain ⟨t, ht, h⟩ := h
 exact ⟨t, hs.subset ht, h⟩
def GdP {α : Type} (ts : List Tk) (x : Except Er (α × List Tk)) : Prop := (∀ v r, x = .ok (v, r) → N8 r ∧ r <:+ ts) ∧ ∀ e, x = .error e → e ≠ exP → a2l ts e
theorem GdP.up {α : Type} {ts r : List Tk} {x : Except Er (α × List Tk)} (h : GdP r x) (hs : r <:+ ts) : GdP ts x :=
 ⟨fun v q hq => ⟨(h.1 v q hq).1, (h.1 v q hq).2.trans hs⟩, fun e he hn => (h.2 e he hn).up hs⟩
theorem T2 {α β : Type} {ts : List Tk} {x : Except Er (α × List Tk)} {F : α × List Tk → Except Er (β × List Tk)} (h : GdP ts x) (hF : ∀ v r, x = .ok (v, r) → N8 r → GdP r (F (v, r))) : GdP ts (d7 x F) := by
 cases hx : x with
 | error e => exact ⟨fun v r hq => (by cases hq), fun e' he hn => (by cases he; exact h.2 e hx hn)⟩
 | ok v =>
  obtain ⟨v, r⟩ := v
  exact (hF v r hx (h.1 v r hx).1).up (h.1 v r hx).2
theorem P0 {α : Type} {ts r : List Tk} (v : α) (h : N8 r) (hs : r <:+ ts) : GdP ts (.ok (v, r)) :=
 ⟨fun _ _ hq => by cases hq; exact ⟨h, hs⟩, fun _ he => by cases he⟩
theorem a1N {α : Type} {ts : List Tk} (h : N8 ts) {e : Int} (he : e = 111 ∨ e = 112) : GdP (α := α) ts (E4 ts e) := by
 refine ⟨fun _ _ hq => (by cases hq), fun x hx _ => ?_⟩
 cases hx
 refine ⟨_, h.mem, rfl, ?_⟩
 by_cases hk : (hdT ts).kind = 0
 ·exact .inl ⟨if_pos hk, hk⟩
 ·refine .inr ⟨hk, ?_⟩
  show (if _ then _ else _) = _ ∨ _
  rw [if_neg hk]
  rcases he with he | he
  ·exact .inl he
  ·exact .inr (.inl he)
theorem a4E {α : Type} {nest : Nat} {ts : List Tk} (h : N8 ts) (hk : (hdT ts).kind ≠ 0) {x : Except Er (α × List Tk)} (hx : GdP ts x) : GdP ts (y0 nest ts x) := by
 unfold y0
 split
 ·refine ⟨fun _ _ hq => (by cases hq), fun e he _ => ?_⟩
  cases he
  exact ⟨_, h.mem, rfl, .inr ⟨hk, .inr (.inr rfl)⟩⟩
 ·exact hx
theorem S7 {ts : List Tk} {x : List UInt8} (h : isB ts x = true) : (hdT ts).kind ≠ 0 := by have := a6o h; omega
def a4T (x : List UInt8) (ts : List Tk) : Except Er (Unit × List Tk) := d7 (m9 x ts) fun r => .ok ((), r)
theorem a4U {β : Type} (x : List UInt8) (ts : List Tk) (F : List Tk → Except Er β) : d7 (m9 x ts) F = d7 (a4T x ts) fun q => F q.2 := by
 unfold a4T
 cases m9 x ts <;> rfl
theorem a3P (x : List UInt8) {ts : List Tk} (h : N8 ts) : GdP ts (a4T x ts) := by
 unfold a4T m9
 split
 ·rename_i hb
  exact P0 _ (h.tail (S7 hb)) (List.tail_suffix _)
 ·exact a1N h (.inl rfl)
theorem a2r {ts : List Tk} (h : N8 ts) : GdP ts (j7 ts) := by
 unfold j7
 split
 ·exact P0 _ (h.tail (by omega)) (List.tail_suffix _)
 ·exact a1N h (.inl rfl)
theorem a8E (k : Nat) {ts : List Tk} (h : N8 ts) : GdP ts (Z3 k ts) := by
 unfold Z3
 split
 ·split
  ·exact P0 _ (h.tail (by omega)) (List.tail_suffix _)
  ·exact a1N h (.inr rfl)
 ·split
  ·split
   ·exact P0 _ (h.tail (by omega)) (List.tail_suffix _)
   ·exact a1N h (.inr rfl)
  ·exact a1N h (.inl rfl)
theorem a0L {α : Type} {ts : List Tk} {x : Except Er (α × List Tk)} (h : GdP ts.tail x) : GdP ts x := h.up (List.tail_suffix _)
theorem au4 (of at' side : Nat) {ts : List Tk} (h : N8 ts) : GdP ts (S2 of at' side ts) := by
 unfold S2
 split
 ·rename_i hb
  exact a0L (T2 (a2r (h.tail (S7 hb))) (fun v r _ hr => P0 _ hr (List.suffix_refl _)))
 ·split
  ·rename_i hb
   refine a0L (T2 (a2r (h.tail (S7 hb))) (fun v r _ hr => ?_))
   simp only [a4U]
   exact T2 (a3P _ hr) (fun v r _ hr => T2 (a2r hr) (fun v r _ hr => P0 _ hr (List.suffix_refl _)))
  ·split
   ·rename_i hb
    exact a0L (T2 (a8E _ (h.tail (S7 hb.2))) (fun v r _ hr => P0 _ hr (List.suffix_refl _)))
   ·split
    ·rename_i hb
     refine a0L (T2 (a8E _ (h.tail (S7 hb.2))) (fun v r _ hr => ?_))
     simp only [a4U]
     exact T2 (a3P _ hr) (fun v r _ hr => T2 (a2r hr) (fun v r _ hr => P0 _ hr (List.suffix_refl _)))
    ·exact a1N h (.inl rfl)
theorem aV4 {ts : List Tk} (h : N8 ts) : N8 (s8 ts) := by
 unfold s8
 split
 ·exact h
 ·rename_i hs
  refine h.tail ?_
  unfold r9 at hs
  split at hs
  ·rename_i hb; exact S7 hb
  ·split at hs
   ·rename_i hb; exact S7 hb
   ·exact absurd rfl hs
theorem a8J (of at' : Nat) {ts : List Tk} (h : N8 ts) : GdP ts (a0n of at' ts) := (au4 _ _ _ (aV4 h)).up (a5l ts)
theorem au6 {ts : List Tk} (h : N8 ts) (hk : (hdT ts).kind ≠ 0) : GdP ts (P8 ts) := by
 have ht := h.tail hk
 unfold P8
 split
 ·exact P0 _ ht (List.tail_suffix _)
 ·split
  ·exact P0 _ ht (List.tail_suffix _)
  ·split
   ·exact P0 _ ht (List.tail_suffix _)
   ·split
    ·exact a0L (T2 (a2r ht) (fun v r _ hr => P0 _ hr (List.suffix_refl _)))
    ·split
     ·exact a8J _ _ h
     ·exact a1N h (.inl rfl)
theorem au5 {ts : List Tk} (h : N8 ts) : GdP ts (a0c ts) := by
 unfold a0c
 simp only [a4U]
 split
 ·rename_i hb
  exact a0L (T2 (a2r (h.tail (S7 hb))) (fun v r _ hr => T2 (a3P _ hr) (fun v r _ hr => P0 _ hr (List.suffix_refl _))))
 ·exact T2 (a3P _ h) (fun v r _ hr => P0 _ hr (List.suffix_refl _))
def GdR (rec : Nat → List Tk → Out) : Prop := ∀ nest ts, N8 ts → GdP ts (rec nest ts)
theorem au2 {rec : Nat → List Tk → Out} (hr : GdR rec) (nest of at' : Nat) {ts : List Tk} (h : N8 ts) : GdP ts (M1 rec nest of at' ts) := by
 unfold M1
 split
 ·rename_i hb
  exact a4E h (S7 hb.1) (a0L (T2 (hr _ _ (h.tail (S7 hb.1))) (fun v r _ hq => T2 (au5 hq) (fun v r _ hr => P0 _ hr (List.suffix_refl _)))))
 ·split
  ·exact a1N h (.inl rfl)
  ·split
   ·rename_i hb
    exact a0L (T2 (a2r (h.tail (S7 hb.2))) (fun v r _ hr => P0 _ hr (List.suffix_refl _)))
   ·split
    ·exact a8J _ _ h
    ·exact P0 _ h (List.suffix_refl _)
theorem au3 {rec : Nat → List Tk → Out} (hr : GdR rec) : GdR (s9 rec) := by
 intro nest ts h
 unfold s9
 split
 ·exact P0 _ (h.tail (by omega)) (List.tail_suffix _)
 ·split
  ·rename_i hb
   refine a4E h (S7 hb) (a0L (T2 (hr _ _ (h.tail (S7 hb))) (fun v r _ hq => ?_)))
   simp only [a4U]
   exact T2 (a3P _ hq) (fun v r _ hr => P0 _ hr (List.suffix_refl _))
  ·split
   ·exact a1N h (.inl rfl)
   ·rename_i hk
    have hk' : (hdT ts).kind ≠ 0 := by omega
    split
    ·exact a0L (au2 hr _ _ _ (h.tail hk'))
    ·exact au6 h hk'
theorem a8G {rec : List Tk → Out} (hr : ∀ ts, N8 ts → GdP ts (rec ts)) (k : Nat) : ∀ (f : Nat) (ns : List (Nd × Nat)) (ts : List Tk), N8 ts → GdP ts (q9 rec k f ns ts)
 | 0, ns, ts, h => P0 _ h (List.suffix_refl _)
 | f + 1, ns, ts, h => by
  unfold q9
  split
  ·exact P0 _ h (List.suffix_refl _)
  ·rename_i nd hnd
   have hk : (hdT ts).kind ≠ 0 := by
    unfold opT at hnd
    split at hnd
    ·omega
    ·cases hnd
   refine a0L (T2 (hr _ (h.tail hk)) (fun v r _ hq => ?_))
   split
   ·exact P0 _ hq (List.suffix_refl _)
   ·exact a8G hr k f _ _ hq
theorem a8I : ∀ (f k : Nat), GdR (d6 f k)
 | 0, k => fun nest ts h => ⟨fun _ _ hq => (by cases hq), fun e he hn => (by cases he; exact absurd rfl hn)⟩
 | f + 1, k => fun nest ts h => by
  have ih := a8I f
  rw [J9]
  unfold L0
  split
  ·rename_i hb
   have hk : (hdT ts).kind ≠ 0 := by rcases hb.2 with hb | hb <;> exact S7 hb
   exact a4E h hk (a0L (T2 (ih 3 _ _ (h.tail hk)) (fun v r _ hr => P0 _ hr (List.suffix_refl _))))
  ·split
   ·rename_i hb
    exact a4E h (S7 hb.2) (a0L (T2 (ih 11 _ _ (h.tail (S7 hb.2))) (fun v r _ hr => P0 _ hr (List.suffix_refl _))))
   ·split
    ·exact ih (k + 1) _ _ h
    ·split
     ·exact au3 (ih 1) _ _ h
     ·exact T2 (ih (k + 1) _ _ h) (fun v r _ hr => a8G (fun ts h => ih (k + 1) nest ts h) k _ _ _ hr)

section
variable {A B : List Tk}
theorem aq8 (hB : (hdT B).kind = 0) (x : List UInt8) : isB B x = false := by
 unfold isB
 rw [hB]
 rfl
end
theorem aM4 {ts : List Tk} (h : N8 ts) : (∃ ns, a1p ts = .ok ns ∧ ns ≠ []) ∨ ∃ e, a1p ts = .error e ∧ a2l ts e := by
 have ht := a5i (a0m 1 ts) 1 0 ts (by decide) (Nat.le_refl _)
 have hg := a8I (a0m 1 ts) 1 0 ts h
 have hf := a17 (a0m 1 ts) 1 0 ts
 unfold a1p
 cases hx : d6 (a0m 1 ts) 1 0 ts with
 | error e => exact .inr ⟨e, rfl, hg.2 e hx (fun h => ht (by rw [hx, h]))⟩
 | ok v =>
  obtain ⟨ns, r⟩ := v
  obtain ⟨h1, h2⟩ := hg.1 ns r hx
  show (∃ ms, (if (hdT r).kind = 0 then Except.ok ns else E4 r _) = .ok ms ∧ _) ∨ ∃ e, (if (hdT r).kind = 0 then Except.ok ns else E4 r _) = .error e ∧ _
  by_cases hk : (hdT r).kind = 0
  ·rw [if_pos hk]; exact .inl ⟨ns, rfl, (hf ns r hx).2⟩
  ·rw [if_neg hk]
   refine .inr ⟨_, rfl, _, h2.subset h1.mem, rfl, .inr ⟨hk, .inl ?_⟩⟩
   exact if_neg hk

section
variable {A B : List Tk}
end
def a3G (B : List Tk) : Prop := (∀ x ∈ [[91], D5, J8, I6, J0, H9], isB B x = false) ∧ ∀ k, opT k B = none
theorem aZ4 {t : Tk} (ht : t.kind = 5) (hx : t.text = [41]) (r : List Tk) : a3G (t :: r) := by
 refine ⟨fun x hm => ?_, fun k => ?_⟩
 ·show ((t.kind == 5 || t.kind == 2) && t.text == x) = false
  rw [hx]
  simp only [List.mem_cons, List.not_mem_nil, or_false] at hm
  rcases hm with rfl | rfl | rfl | rfl | rfl | rfl <;> simp [D5, J8, I6, J0, H9]
 ·unfold opT
  show (if t.kind = 5 ∨ t.kind = 2 then q7 k t.text else none) = none
  rw [if_pos (.inl ht), hx]
  unfold q7 a2c
  simp [wOr, V0]
theorem aZ3 {t : Tk} (ht : t.kind = 0) (r : List Tk) : a3G (t :: r) := by
 refine ⟨fun x _ => aq8 (B := t :: r) ht x, fun k => ?_⟩
 unfold opT
 rw [if_neg (by show ¬ (t.kind = 5 ∨ t.kind = 2); omega)]

section
variable {A B : List Tk}
end
def Al {α β : Type} (R : α → β → Prop) : List α → List β → Prop
 | [], [] => True
 | a :: l, b :: m => R a b ∧ Al R l m
 | _, _ => False
theorem Al.len {α β : Type} {R : α → β → Prop} : ∀ {l : List α} {m : List β}, Al R l m → l.length = m.length
 | [], [], _ => rfl
 | a :: l, b :: m, h => by simp only [List.length_cons]; rw [Al.len h.2]
 | [], b :: m, h => h.elim
 | a :: l, [], h => h.elim
theorem Al.app {α β : Type} {R : α → β → Prop} : ∀ {l l' : List α} {m m' : List β}, Al R l m → Al R l' m' → Al R (l ++ l') (m ++ m')
 | [], _, [], _, _, h => h
 | _ :: _, _, _ :: _, _, h, k => ⟨h.1, Al.app h.2 k⟩
 | [], _, _ :: _, _, h, _ => h.elim
 | _ :: _, _, [], _, h, _ => h.elim
def cls (t : Tk) : Nat × List UInt8 :=
 if t.kind = 5 ∨ t.kind = 2 then
  (if t.text = V0 ∨ t.text = [38, 38] then (9, V0) else if t.text = wOr ∨ t.text = [124, 124] then (9, wOr) else if t.text = U1 ∨ t.text = [33] then (9, U1) else if t.text = [61] ∨ t.text = [61, 61] then (9, [61]) else (t.kind, t.text))
 else (t.kind, t.text)
def a2i : List (List UInt8) := [V0, [38, 38], wOr, [124, 124], U1, [33], [61], [61, 61]]
theorem a4y (t : Tk) : cls t = (t.kind, t.text) ∧ ((t.kind ≠ 5 ∧ t.kind ≠ 2) ∨ t.text ∉ a2i) ∨ (t.kind = 5 ∨ t.kind = 2) ∧ (cls t).1 = 9 ∧ t.text ∈ a2i := by
 unfold cls
 by_cases hk : t.kind = 5 ∨ t.kind = 2
 ·rw [if_pos hk]
  by_cases h1 : t.text = V0 ∨ t.text = [38, 38]
  ·rw [if_pos h1]; exact .inr ⟨hk, rfl, by rcases h1 with h | h <;> simp [a2i, h]⟩
  rw [if_neg h1]
  by_cases h2 : t.text = wOr ∨ t.text = [124, 124]
  ·rw [if_pos h2]; exact .inr ⟨hk, rfl, by rcases h2 with h | h <;> simp [a2i, h]⟩
  rw [if_neg h2]
  by_cases h3 : t.text = U1 ∨ t.text = [33]
  ·rw [if_pos h3]; exact .inr ⟨hk, rfl, by rcases h3 with h | h <;> simp [a2i, h]⟩
  rw [if_neg h3]
  by_cases h4 : t.text = [61] ∨ t.text = [61, 61]
  ·rw [if_pos h4]; exact .inr ⟨hk, rfl, by rcases h4 with h | h <;> simp [a2i, h]⟩
  rw [if_neg h4]
  refine .inl ⟨rfl, .inr ?_⟩
  simp only [a2i, List.mem_cons, List.not_mem_nil, or_false]
  rintro (h | h | h | h | h | h | h | h)
  ·exact h1 (.inl h)
  ·exact h1 (.inr h)
  ·exact h2 (.inl h)
  ·exact h2 (.inr h)
  ·exact h3 (.inl h)
  ·exact h3 (.inr h)
  ·exact h4 (.inl h)
  ·exact h4 (.inr h)
 ·rw [if_neg hk]
  exact .inl ⟨rfl, .inl ⟨fun h => hk (.inl h), fun h => hk (.inr h)⟩⟩
def ClE (t t' : Tk) : Prop := cls t = cls t' ∧ t.num = t'.num ∧ t.kind ≤ 5 ∧ t'.kind ≤ 5
theorem ClE.symm {t t' : Tk} (h : ClE t t') : ClE t' t := ⟨h.1.symm, h.2.1.symm, h.2.2.2, h.2.2.1⟩
theorem ClE.plain {t t' : Tk} (h : ClE t t') (hp : (t.kind ≠ 5 ∧ t.kind ≠ 2) ∨ t.text ∉ a2i) : t'.kind = t.kind ∧ t'.text = t.text := by
 rcases a4y t with ⟨h1, -⟩ | ⟨h1, -, h3⟩
 ·rcases a4y t' with ⟨h4, -⟩ | ⟨-, h4, -⟩
  ·have := h.1
   rw [h1, h4] at this
   exact ⟨(congrArg Prod.fst this).symm, (congrArg Prod.snd this).symm⟩
  ·have := h.1
   rw [h1] at this
   rw [← this] at h4
   have := h.2.2.1
   simp only at h4
   omega
 ·exfalso
  rcases hp with hp | hp
  ·rcases h1 with h1 | h1
   ·exact hp.1 h1
   ·exact hp.2 h1
  ·exact hp h3
theorem ClE.kind {t t' : Tk} (h : ClE t t') {n : Nat} (hn : n ≠ 5 ∧ n ≠ 2) : t.kind = n ↔ t'.kind = n :=
 ⟨fun e => by rw [(h.plain (.inl (by rw [e]; exact hn))).1]; exact e, fun e => by rw [(h.symm.plain (.inl (by rw [e]; exact hn))).1]; exact e⟩
theorem ak7 (k : Nat) : q7 k [38, 38] = q7 k V0 := by
 unfold q7 a2c
 simp [V0, wOr]
theorem al0 (k : Nat) : q7 k [124, 124] = q7 k wOr := by
 unfold q7 a2c
 simp [V0, wOr]
theorem a85 (k : Nat) : q7 k [33] = none ∧ q7 k U1 = none := by
 unfold q7 a2c
 simp [V0, wOr, U1]
theorem ak8 (k : Nat) : q7 k [61, 61] = q7 k [61] := by
 unfold q7 a2c
 simp [V0, wOr]
def opK (k : Nat) (t : Tk) : Option Nd := if t.kind = 5 ∨ t.kind = 2 then q7 k t.text else none
theorem a8f (k : Nat) (t : Tk) (h5 : t.kind ≤ 5) : (cls t).1 = 9 → opK k t = q7 k (cls t).2 := by
 intro h9
 rcases a4y t with ⟨h1, hh⟩ | ⟨hk, -, -⟩
 ·rw [h1] at h9
  simp only at h9
  omega
 ·unfold opK
  rw [if_pos hk]
  unfold cls
  rw [if_pos hk]
  by_cases h1 : t.text = V0 ∨ t.text = [38, 38]
  ·rw [if_pos h1]
   rcases h1 with h | h <;> rw [h]
   exact ak7 k
  rw [if_neg h1]
  by_cases h2 : t.text = wOr ∨ t.text = [124, 124]
  ·rw [if_pos h2]
   rcases h2 with h | h <;> rw [h]
   exact al0 k
  rw [if_neg h2]
  by_cases h3 : t.text = U1 ∨ t.text = [33]
  ·rw [if_pos h3]
   rcases h3 with h | h <;> rw [h]
   show q7 k [33] = q7 k U1
   rw [(a85 k).1, (a85 k).2]
  rw [if_neg h3]
  by_cases h4 : t.text = [61] ∨ t.text = [61, 61]
  ·rw [if_pos h4]
   rcases h4 with h | h <;> rw [h]
   exact ak8 k
  rw [if_neg h4]
theorem ClE.op {t t' : Tk} (h : ClE t t') (k : Nat) : opK k t = opK k t' := by
 by_cases h9 : (cls t).1 = 9
 ·rw [a8f k t h.2.2.1 h9, h.1, a8f k t' h.2.2.2 (by rw [← h.1]; exact h9)]
 ·rcases a4y t with ⟨h1, hp⟩ | ⟨-, h2, -⟩
  ·obtain ⟨e1, e2⟩ := h.plain hp
   unfold opK
   rw [e1, e2]
  ·exact absurd h2 h9
def TkL (Q : Nat → Nat → Prop) : List Tk → List Tk → Prop := Al fun t t' => ClE t t' ∧ Q t.pos t'.pos
theorem ao0 : ClE ⟨0, 0, [], 0⟩ ⟨0, 0, [], 0⟩ := ⟨rfl, rfl, by decide, by decide⟩
theorem TkL.hd {Q : Nat → Nat → Prop} {ts ts' : List Tk} (h : TkL Q ts ts') : ClE (hdT ts) (hdT ts') := by
 cases ts with
 | nil => cases ts' with
  | nil => exact ao0
  | cons b m => exact h.elim
 | cons a l => cases ts' with
  | nil => exact h.elim
  | cons b m => exact h.1.1
theorem TkL.tail {Q : Nat → Nat → Prop} {ts ts' : List Tk} (h : TkL Q ts ts') : TkL Q ts.tail ts'.tail := by
 cases ts with
 | nil => cases ts' with
  | nil => exact trivial
  | cons b m => exact h.elim
 | cons a l => cases ts' with
  | nil => exact h.elim
  | cons b m => exact h.2
theorem TkL.pos {Q : Nat → Nat → Prop} {ts ts' : List Tk} (h : TkL Q ts ts') (hk : (hdT ts).kind ≠ 0) : Q (hdT ts).pos (hdT ts').pos := by
 cases ts with
 | nil => exact absurd rfl hk
 | cons a l => cases ts' with
  | nil => exact h.elim
  | cons b m => exact h.1.2
end Go.Proofs.YtklipelnjgpnjaaGreatDoor
