import Derived.Test.YtklipelnjgpnjaaGreatDoorLotN11
namespace Go.Proofs.YtklipelnjgpnjaaGreatDoor
open Go.RowKit
set_option maxRecDepth 100000
def exP : Er := (0, 0)
theorem a1s {α : Type} (ts : List Tk) (e : Int) (he : e ≠ 0) : (q9 ts e : Except Er α) ≠ .error exP := by
 intro h
 have := congrArg Prod.snd (Except.error.inj h)
 simp only [exP] at this
 split at this
 ·cases this
 ·exact he this
theorem P8 {α β : Type} {x : Except Er α} {F : α → Except Er β} (h1 : x ≠ .error exP) (h2 : ∀ v, x = .ok v → F v ≠ .error exP) : d6 x F ≠ .error exP := by
 cases hx : x with
 | error e => rw [hx] at h1; exact fun h => h1 (by rw [Except.error.inj h])
 | ok v => exact h2 v hx
theorem a4C {α : Type} {nest : Nat} {ts : List Tk} {x : Except Er α} (h : x ≠ .error exP) : D6 nest ts x ≠ .error exP := by
 unfold D6
 split
 ·intro e
  have := congrArg Prod.snd (Except.error.inj e)
  cases this
 ·exact h
theorem a3G (x : List UInt8) (ts : List Tk) : m3 x ts ≠ .error exP := by
 unfold m3
 split
 ·simp
 ·exact a1s _ _ (by decide)
theorem a2k (ts : List Tk) : j7 ts ≠ .error exP := by
 unfold j7
 split
 ·simp
 ·exact a1s _ _ (by decide)
theorem a79 (k : Nat) (ts : List Tk) : a0g k ts ≠ .error exP := by
 unfold a0g
 split
 ·split
  ·simp
  ·exact a1s _ _ (by decide)
 ·split
  ·split
   ·simp
   ·exact a1s _ _ (by decide)
  ·exact a1s _ _ (by decide)
theorem a9Z (of at' : Nat) (ts : List Tk) : a1i of at' ts ≠ .error exP := by
 unfold a1i a02
 split
 ·exact P8 (a2k _) (fun v _ => by simp)
 ·split
  ·exact P8 (a2k _) (fun v _ => P8 (a3G _ _) (fun v _ => P8 (a2k _) (fun v _ => by simp)))
  ·split
   ·exact P8 (a79 _ _) (fun v _ => by simp)
   ·split
    ·exact P8 (a79 _ _) (fun v _ => P8 (a3G _ _) (fun v _ => P8 (a2k _) (fun v _ => by simp)))
    ·exact a1s _ _ (by decide)
theorem b0t (ts : List Tk) : L7 ts ≠ .error exP := by
 unfold L7
 split
 ·simp
 ·split
  ·simp
  ·split
   ·simp
   ·split
    ·exact P8 (a2k _) (fun v _ => by simp)
    ·split
     ·exact a9Z _ _ _
     ·exact a1s _ _ (by decide)
theorem aU4 (ts : List Tk) : a0z ts ≠ .error exP := by
 unfold a0z
 split
 ·exact P8 (a2k _) (fun v _ => P8 (a3G _ _) (fun v _ => by simp))
 ·exact P8 (a3G _ _) (fun v _ => by simp)
theorem aM2 {rec : Nat → List Tk → Out} {ts : List Tk} (h : ∀ nest r, Fr ts r → rec nest r ≠ .error exP) (nest : Nat) : L3 rec nest ts ≠ .error exP := by
 unfold L3
 split
 ·simp
 ·split
  ·rename_i hb
   exact a4C (P8 (h _ _ (I5 (T1 hb))) (fun v _ => P8 (a3G _ _) (fun v _ => by simp)))
  ·split
   ·exact a1s _ _ (by decide)
   ·rename_i hk
    have hne := a0V (ts := ts) (by omega)
    split
    ·unfold T2
     split
     ·rename_i hb
      exact a4C (P8 (h _ _ ((I5 hne).trans (I5 (T1 hb.1)))) (fun v _ => P8 (aU4 _) (fun v _ => by simp)))
     ·split
      ·exact a1s _ _ (by decide)
      ·split
       ·exact P8 (a2k _) (fun v _ => by simp)
       ·split
        ·exact a9Z _ _ _
        ·simp
    ·exact b0t _
theorem a8W {rec : List Tk → Out} {top : List Tk} (hf : ∀ ts ns r, rec ts = .ok (ns, r) → Fr ts r ∧ ns ≠ []) (h : ∀ r, Fr top r → rec r ≠ .error exP) (k : Nat) : ∀ (f : Nat) (ns : List (Nd × Nat)) (ts : List Tk), Fr top ts → x8 rec k f ns ts ≠ .error exP
 | 0, ns, ts, _ => by
  unfold x8
  simp
 | f + 1, ns, ts, ht => by
  unfold x8
  split
  ·simp
  ·rename_i nd hnd
   have hne : ts ≠ [] := by
    rintro rfl
    unfold opT at hnd
    rw [if_neg (by decide)] at hnd
    cases hnd
   refine P8 (h _ (ht.trans (I5 hne))) (fun v hv => ?_)
   split
   ·simp
   ·exact a8W hf h k f _ _ (ht.trans ((I5 hne).trans (hf _ v.1 v.2 hv).1))
theorem a6v : ∀ (f k nest : Nat) (ts : List Tk), k ≤ 12 → a0i k ts ≤ f → d7 f k nest ts ≠ .error exP
 | 0, k, nest, ts, hk, hn => by unfold a0i at hn; omega
 | f + 1, k, nest, ts, hk, hn => by
  have ih := a6v f
  unfold a0i at hn
  have below : ∀ k' nest' r, k' ≤ 12 → 1 ≤ k' → Fr ts r → d7 f k' nest' r ≠ .error exP := fun k' nest' r h1 h2 h3 => ih k' nest' r h1 (by have := h3.2; unfold a0i; omega)
  rw [T4]
  unfold N0
  split
  ·rename_i hb
   have hne : ts ≠ [] := by rcases hb.2 with hb | hb <;> exact T1 hb
   exact a4C (P8 (below 3 _ _ (by omega) (by omega) (I5 hne)) (fun v _ => by simp))
  ·split
   ·rename_i hb
    exact a4C (P8 (below 11 _ _ (by omega) (by omega) (I5 (T1 hb.2))) (fun v _ => by simp))
   ·split
    ·exact ih (k + 1) _ _ (by omega) (by unfold a0i; omega)
    ·split
     ·exact aM2 (fun nest' r hr => below 1 nest' r (by omega) (by omega) hr) nest
     ·have h1 : d7 f (k + 1) nest ts ≠ .error exP := ih (k + 1) _ _ (by omega) (by unfold a0i; omega)
      refine P8 h1 (fun v hv => ?_)
      exact a8W (top := ts) (fun ts ns r h => a0O f (k + 1) nest ts ns r h) (fun r hr => below (k + 1) nest r (by omega) (by omega) hr) k _ _ _ (a0O f (k + 1) nest ts v.1 v.2 hv).1
def K0 (ts : List Tk) : Prop := ∃ us e, ts = us ++ [e] ∧ e.kind = 0 ∧ ∀ t ∈ us, t.kind ≠ 0
def a5f (ts : List Tk) (p : Nat) : Prop := ∃ t ∈ ts, t.kind ≠ 0 ∧ t.pos = p
def a1Y (ts : List Tk) (e : Er) : Prop := ∃ t ∈ ts, t.pos = e.1 ∧ ((e.2 = 110 ∧ t.kind = 0) ∨ (t.kind ≠ 0 ∧ (e.2 = 111 ∨ e.2 = 112 ∨ e.2 = 113)))
theorem K0.mem {ts : List Tk} (h : K0 ts) : hdT ts ∈ ts := by
 obtain ⟨us, e, rfl, -, -⟩ := h
 cases us with
 | nil => exact List.mem_cons_self ..
 | cons a us => exact List.mem_cons_self ..
theorem K0.tail {ts : List Tk} (h : K0 ts) (hk : (hdT ts).kind ≠ 0) : K0 ts.tail := by
 obtain ⟨us, e, rfl, he, hu⟩ := h
 cases us with
 | nil => exact absurd he hk
 | cons a us => exact ⟨us, e, rfl, he, fun t ht => hu t (List.mem_cons_of_mem _ ht)⟩
theorem a5f.up {ts r : List Tk} {p : Nat} (h : a5f r p) (hs : r <:+ ts) : a5f ts p := by
 obtain ⟨t, ht, h⟩ := h
 exact ⟨t, hs.subset ht, h⟩
theorem a1Y.up {ts r : List Tk} {e : Er} (h : a1Y r e) (hs : r <:+ ts) : a1Y ts e := by
 obtain ⟨t, ht, h⟩ := h
 exact ⟨t, hs.subset ht, h⟩
def GdP {α : Type} (ts : List Tk) (x : Except Er (α × List Tk)) : Prop := (∀ v r, x = .ok (v, r) → K0 r ∧ r <:+ ts) ∧ ∀ e, x = .error e → e ≠ exP → a1Y ts e
theorem GdP.up {α : Type} {ts r : List Tk} {x : Except Er (α × List Tk)} (h : GdP r x) (hs : r <:+ ts) : GdP ts x :=
 ⟨fun v q hq => ⟨(h.1 v q hq).1, (h.1 v q hq).2.trans hs⟩, fun e he hn => (h.2 e he hn).up hs⟩
theorem N7 {α β : Type} {ts : List Tk} {x : Except Er (α × List Tk)} {F : α × List Tk → Except Er (β × List Tk)} (h : GdP ts x) (hF : ∀ v r, x = .ok (v, r) → K0 r → GdP r (F (v, r))) : GdP ts (d6 x F) := by
 cases hx : x with
 | error e => exact ⟨fun v r hq => (by cases hq), fun e' he hn => (by cases he; exact h.2 e hx hn)⟩
 | ok v =>
  obtain ⟨v, r⟩ := v
  exact (hF v r hx (h.1 v r hx).1).up (h.1 v r hx).2
theorem L8 {α : Type} {ts r : List Tk} (v : α) (h : K0 r) (hs : r <:+ ts) : GdP ts (.ok (v, r)) :=
 ⟨fun _ _ hq => by cases hq; exact ⟨h, hs⟩, fun _ he => by cases he⟩
theorem a1t {α : Type} {ts : List Tk} (h : K0 ts) {e : Int} (he : e = 111 ∨ e = 112) : GdP (α := α) ts (q9 ts e) := by
 refine ⟨fun _ _ hq => (by cases hq), fun x hx _ => ?_⟩
 cases hx
 refine ⟨_, h.mem, rfl, ?_⟩
 by_cases hk : (hdT ts).kind = 0
 ·exact .inl ⟨if_pos hk, hk⟩
 ·refine .inr ⟨hk, ?_⟩
  show (if _ then _ else _) = _ ∨ _
  rw [if_neg hk]
  rcases he with he | he
  ·exact .inl he
  ·exact .inr (.inl he)
theorem a4c {α : Type} {nest : Nat} {ts : List Tk} (h : K0 ts) (hk : (hdT ts).kind ≠ 0) {x : Except Er (α × List Tk)} (hx : GdP ts x) : GdP ts (D6 nest ts x) := by
 unfold D6
 split
 ·refine ⟨fun _ _ hq => (by cases hq), fun e he _ => ?_⟩
  cases he
  exact ⟨_, h.mem, rfl, .inr ⟨hk, .inr (.inr rfl)⟩⟩
 ·exact hx
theorem M9 {ts : List Tk} {x : List UInt8} (h : isB ts x = true) : (hdT ts).kind ≠ 0 := by have := a5Q h; omega
def a4t (x : List UInt8) (ts : List Tk) : Except Er (Unit × List Tk) := d6 (m3 x ts) fun r => .ok ((), r)
theorem a4u {β : Type} (x : List UInt8) (ts : List Tk) (F : List Tk → Except Er β) : d6 (m3 x ts) F = d6 (a4t x ts) fun q => F q.2 := by
 unfold a4t
 cases m3 x ts <;> rfl
theorem a3w (x : List UInt8) {ts : List Tk} (h : K0 ts) : GdP ts (a4t x ts) := by
 unfold a4t m3
 split
 ·rename_i hb
  exact L8 _ (h.tail (M9 hb)) (List.tail_suffix _)
 ·exact a1t h (.inl rfl)
theorem a26 {ts : List Tk} (h : K0 ts) : GdP ts (j7 ts) := by
 unfold j7
 split
 ·exact L8 _ (h.tail (by omega)) (List.tail_suffix _)
 ·exact a1t h (.inl rfl)
theorem a8c (k : Nat) {ts : List Tk} (h : K0 ts) : GdP ts (a0g k ts) := by
 unfold a0g
 split
 ·split
  ·exact L8 _ (h.tail (by omega)) (List.tail_suffix _)
  ·exact a1t h (.inr rfl)
 ·split
  ·split
   ·exact L8 _ (h.tail (by omega)) (List.tail_suffix _)
   ·exact a1t h (.inr rfl)
  ·exact a1t h (.inl rfl)
theorem a0s {α : Type} {ts : List Tk} {x : Except Er (α × List Tk)} (h : GdP ts.tail x) : GdP ts x := h.up (List.tail_suffix _)
theorem as7 (of at' side : Nat) {ts : List Tk} (h : K0 ts) : GdP ts (a02 of at' side ts) := by
 unfold a02
 split
 ·rename_i hb
  exact a0s (N7 (a26 (h.tail (M9 hb))) (fun v r _ hr => L8 _ hr (List.suffix_refl _)))
 ·split
  ·rename_i hb
   refine a0s (N7 (a26 (h.tail (M9 hb))) (fun v r _ hr => ?_))
   simp only [a4u]
   exact N7 (a3w _ hr) (fun v r _ hr => N7 (a26 hr) (fun v r _ hr => L8 _ hr (List.suffix_refl _)))
  ·split
   ·rename_i hb
    exact a0s (N7 (a8c _ (h.tail (M9 hb.2))) (fun v r _ hr => L8 _ hr (List.suffix_refl _)))
   ·split
    ·rename_i hb
     refine a0s (N7 (a8c _ (h.tail (M9 hb.2))) (fun v r _ hr => ?_))
     simp only [a4u]
     exact N7 (a3w _ hr) (fun v r _ hr => N7 (a26 hr) (fun v r _ hr => L8 _ hr (List.suffix_refl _)))
    ·exact a1t h (.inl rfl)
theorem aT1 {ts : List Tk} (h : K0 ts) : K0 (o9 ts) := by
 unfold o9
 split
 ·exact h
 ·rename_i hs
  refine h.tail ?_
  unfold s0 at hs
  split at hs
  ·rename_i hb; exact M9 hb
  ·split at hs
   ·rename_i hb; exact M9 hb
   ·exact absurd rfl hs
theorem a8h (of at' : Nat) {ts : List Tk} (h : K0 ts) : GdP ts (a1i of at' ts) := (as7 _ _ _ (aT1 h)).up (a3K ts)
theorem as9 {ts : List Tk} (h : K0 ts) (hk : (hdT ts).kind ≠ 0) : GdP ts (L7 ts) := by
 have ht := h.tail hk
 unfold L7
 split
 ·exact L8 _ ht (List.tail_suffix _)
 ·split
  ·exact L8 _ ht (List.tail_suffix _)
  ·split
   ·exact L8 _ ht (List.tail_suffix _)
   ·split
    ·exact a0s (N7 (a26 ht) (fun v r _ hr => L8 _ hr (List.suffix_refl _)))
    ·split
     ·exact a8h _ _ h
     ·exact a1t h (.inl rfl)
theorem as8 {ts : List Tk} (h : K0 ts) : GdP ts (a0z ts) := by
 unfold a0z
 simp only [a4u]
 split
 ·rename_i hb
  exact a0s (N7 (a26 (h.tail (M9 hb))) (fun v r _ hr => N7 (a3w _ hr) (fun v r _ hr => L8 _ hr (List.suffix_refl _))))
 ·exact N7 (a3w _ h) (fun v r _ hr => L8 _ hr (List.suffix_refl _))
def GdR (rec : Nat → List Tk → Out) : Prop := ∀ nest ts, K0 ts → GdP ts (rec nest ts)
theorem as5 {rec : Nat → List Tk → Out} (hr : GdR rec) (nest of at' : Nat) {ts : List Tk} (h : K0 ts) : GdP ts (T2 rec nest of at' ts) := by
 unfold T2
 split
 ·rename_i hb
  exact a4c h (M9 hb.1) (a0s (N7 (hr _ _ (h.tail (M9 hb.1))) (fun v r _ hq => N7 (as8 hq) (fun v r _ hr => L8 _ hr (List.suffix_refl _)))))
 ·split
  ·exact a1t h (.inl rfl)
  ·split
   ·rename_i hb
    exact a0s (N7 (a26 (h.tail (M9 hb.2))) (fun v r _ hr => L8 _ hr (List.suffix_refl _)))
   ·split
    ·exact a8h _ _ h
    ·exact L8 _ h (List.suffix_refl _)
theorem as6 {rec : Nat → List Tk → Out} (hr : GdR rec) : GdR (L3 rec) := by
 intro nest ts h
 unfold L3
 split
 ·exact L8 _ (h.tail (by omega)) (List.tail_suffix _)
 ·split
  ·rename_i hb
   refine a4c h (M9 hb) (a0s (N7 (hr _ _ (h.tail (M9 hb))) (fun v r _ hq => ?_)))
   simp only [a4u]
   exact N7 (a3w _ hq) (fun v r _ hr => L8 _ hr (List.suffix_refl _))
  ·split
   ·exact a1t h (.inl rfl)
   ·rename_i hk
    have hk' : (hdT ts).kind ≠ 0 := by omega
    split
    ·exact a0s (as5 hr _ _ _ (h.tail hk'))
    ·exact as9 h hk'
theorem a8e {rec : List Tk → Out} (hr : ∀ ts, K0 ts → GdP ts (rec ts)) (k : Nat) : ∀ (f : Nat) (ns : List (Nd × Nat)) (ts : List Tk), K0 ts → GdP ts (x8 rec k f ns ts)
 | 0, ns, ts, h => L8 _ h (List.suffix_refl _)
 | f + 1, ns, ts, h => by
  unfold x8
  split
  ·exact L8 _ h (List.suffix_refl _)
  ·rename_i nd hnd
   have hk : (hdT ts).kind ≠ 0 := by
    unfold opT at hnd
    split at hnd
    ·omega
    ·cases hnd
   refine a0s (N7 (hr _ (h.tail hk)) (fun v r _ hq => ?_))
   split
   ·exact L8 _ hq (List.suffix_refl _)
   ·exact a8e hr k f _ _ hq
theorem a8g : ∀ (f k : Nat), GdR (d7 f k)
 | 0, k => fun nest ts h => ⟨fun _ _ hq => (by cases hq), fun e he hn => (by cases he; exact absurd rfl hn)⟩
 | f + 1, k => fun nest ts h => by
  have ih := a8g f
  rw [T4]
  unfold N0
  split
  ·rename_i hb
   have hk : (hdT ts).kind ≠ 0 := by rcases hb.2 with hb | hb <;> exact M9 hb
   exact a4c h hk (a0s (N7 (ih 3 _ _ (h.tail hk)) (fun v r _ hr => L8 _ hr (List.suffix_refl _))))
  ·split
   ·rename_i hb
    exact a4c h (M9 hb.2) (a0s (N7 (ih 11 _ _ (h.tail (M9 hb.2))) (fun v r _ hr => L8 _ hr (List.suffix_refl _))))
   ·split
    ·exact ih (k + 1) _ _ h
    ·split
     ·exact as6 (ih 1) _ _ h
     ·exact N7 (ih (k + 1) _ _ h) (fun v r _ hr => a8e (fun ts h => ih (k + 1) nest ts h) k _ _ _ hr)

section
variable {A B : List Tk}
end
theorem aJ6 {ts : List Tk} (h : K0 ts) : (∃ ns, a14 ts = .ok ns ∧ ns ≠ []) ∨ ∃ e, a14 ts = .error e ∧ a1Y ts e := by
 have ht := a6v (a0i 1 ts) 1 0 ts (by decide) (Nat.le_refl _)
 have hg := a8g (a0i 1 ts) 1 0 ts h
 have hf := a0O (a0i 1 ts) 1 0 ts
 unfold a14
 cases hx : d7 (a0i 1 ts) 1 0 ts with
 | error e => exact .inr ⟨e, rfl, hg.2 e hx (fun h => ht (by rw [hx, h]))⟩
 | ok v =>
  obtain ⟨ns, r⟩ := v
  obtain ⟨h1, h2⟩ := hg.1 ns r hx
  show (∃ ms, (if (hdT r).kind = 0 then Except.ok ns else q9 r _) = .ok ms ∧ _) ∨ ∃ e, (if (hdT r).kind = 0 then Except.ok ns else q9 r _) = .error e ∧ _
  by_cases hk : (hdT r).kind = 0
  ·rw [if_pos hk]; exact .inl ⟨ns, rfl, (hf ns r hx).2⟩
  ·rw [if_neg hk]
   refine .inr ⟨_, rfl, _, h2.subset h1.mem, rfl, .inr ⟨hk, .inl ?_⟩⟩
   exact if_neg hk

section
variable {A B : List Tk}
end

section
variable {A B : List Tk}
end
def Al {α β : Type} (R : α → β → Prop) : List α → List β → Prop
 | [], [] => True
 | a :: l, b :: m => R a b ∧ Al R l m
 | _, _ => False
theorem Al.len {α β : Type} {R : α → β → Prop} : ∀ {l : List α} {m : List β}, Al R l m → l.length = m.length
 | [], [], _ => rfl
 | a :: l, b :: m, h => by simp only [List.length_cons]; rw [Al.len h.2]
 | [], b :: m, h => h.elim
 | a :: l, [], h => h.elim
theorem Al.app {α β : Type} {R : α → β → Prop} : ∀ {l l' : List α} {m m' : List β}, Al R l m → Al R l' m' → Al R (l ++ l') (m ++ m')
 | [], _, [], _, _, h => h
 | _ :: _, _, _ :: _, _, h, k => ⟨h.1, Al.app h.2 k⟩
 | [], _, _ :: _, _, h, _ => h.elim
 | _ :: _, _, [], _, h, _ => h.elim
def cls (t : Tk) : Nat × List UInt8 :=
 if t.kind = 5 ∨ t.kind = 2 then
  (if t.text = a0m ∨ t.text = [38, 38] then (9, a0m) else if t.text = wOr ∨ t.text = [124, 124] then (9, wOr) else if t.text = a0G ∨ t.text = [33] then (9, a0G) else if t.text = [61] ∨ t.text = [61, 61] then (9, [61]) else (t.kind, t.text))
 else (t.kind, t.text)
def a1V : List (List UInt8) := [a0m, [38, 38], wOr, [124, 124], a0G, [33], [61], [61, 61]]
theorem a44 (t : Tk) : cls t = (t.kind, t.text) ∧ ((t.kind ≠ 5 ∧ t.kind ≠ 2) ∨ t.text ∉ a1V) ∨ (t.kind = 5 ∨ t.kind = 2) ∧ (cls t).1 = 9 ∧ t.text ∈ a1V := by
 unfold cls
 by_cases hk : t.kind = 5 ∨ t.kind = 2
 ·rw [if_pos hk]
  by_cases h1 : t.text = a0m ∨ t.text = [38, 38]
  ·rw [if_pos h1]; exact .inr ⟨hk, rfl, by rcases h1 with h | h <;> simp [a1V, h]⟩
  rw [if_neg h1]
  by_cases h2 : t.text = wOr ∨ t.text = [124, 124]
  ·rw [if_pos h2]; exact .inr ⟨hk, rfl, by rcases h2 with h | h <;> simp [a1V, h]⟩
  rw [if_neg h2]
  by_cases h3 : t.text = a0G ∨ t.text = [33]
  ·rw [if_pos h3]; exact .inr ⟨hk, rfl, by rcases h3 with h | h <;> simp [a1V, h]⟩
  rw [if_neg h3]
  by_cases h4 : t.text = [61] ∨ t.text = [61, 61]
  ·rw [if_pos h4]; exact .inr ⟨hk, rfl, by rcases h4 with h | h <;> simp [a1V, h]⟩
  rw [if_neg h4]
  refine .inl ⟨rfl, .inr ?_⟩
  simp only [a1V, List.mem_cons, List.not_mem_nil, or_false]
  rintro (h | h | h | h | h | h | h | h)
  ·exact h1 (.inl h)
  ·exact h1 (.inr h)
  ·exact h2 (.inl h)
  ·exact h2 (.inr h)
  ·exact h3 (.inl h)
  ·exact h3 (.inr h)
  ·exact h4 (.inl h)
  ·exact h4 (.inr h)
 ·rw [if_neg hk]
  exact .inl ⟨rfl, .inl ⟨fun h => hk (.inl h), fun h => hk (.inr h)⟩⟩
def ClE (t t' : Tk) : Prop := cls t = cls t' ∧ t.num = t'.num ∧ t.kind ≤ 5 ∧ t'.kind ≤ 5
theorem ClE.symm {t t' : Tk} (h : ClE t t') : ClE t' t := ⟨h.1.symm, h.2.1.symm, h.2.2.2, h.2.2.1⟩
theorem ClE.plain {t t' : Tk} (h : ClE t t') (hp : (t.kind ≠ 5 ∧ t.kind ≠ 2) ∨ t.text ∉ a1V) : t'.kind = t.kind ∧ t'.text = t.text := by
 rcases a44 t with ⟨h1, -⟩ | ⟨h1, -, h3⟩
 ·rcases a44 t' with ⟨h4, -⟩ | ⟨-, h4, -⟩
  ·have := h.1
   rw [h1, h4] at this
   exact ⟨(congrArg Prod.fst this).symm, (congrArg Prod.snd this).symm⟩
  ·have := h.1
   rw [h1] at this
   rw [← this] at h4
   have := h.2.2.1
   simp only at h4
   omega
 ·exfalso
  rcases hp with hp | hp
  ·rcases h1 with h1 | h1
   ·exact hp.1 h1
   ·exact hp.2 h1
  ·exact hp h3
theorem ClE.kind {t t' : Tk} (h : ClE t t') {n : Nat} (hn : n ≠ 5 ∧ n ≠ 2) : t.kind = n ↔ t'.kind = n :=
 ⟨fun e => by rw [(h.plain (.inl (by rw [e]; exact hn))).1]; exact e, fun e => by rw [(h.symm.plain (.inl (by rw [e]; exact hn))).1]; exact e⟩
theorem ai9 (k : Nat) : x7 k [38, 38] = x7 k a0m := by
 unfold x7 a3a
 simp [a0m, wOr]
theorem aj1 (k : Nat) : x7 k [124, 124] = x7 k wOr := by
 unfold x7 a3a
 simp [a0m, wOr]
theorem a7B (k : Nat) : x7 k [33] = none ∧ x7 k a0G = none := by
 unfold x7 a3a
 simp [a0m, wOr, a0G]
theorem aj0 (k : Nat) : x7 k [61, 61] = x7 k [61] := by
 unfold x7 a3a
 simp [a0m, wOr]
def opK (k : Nat) (t : Tk) : Option Nd := if t.kind = 5 ∨ t.kind = 2 then x7 k t.text else none
theorem a7M (k : Nat) (t : Tk) (h5 : t.kind ≤ 5) : (cls t).1 = 9 → opK k t = x7 k (cls t).2 := by
 intro h9
 rcases a44 t with ⟨h1, hh⟩ | ⟨hk, -, -⟩
 ·rw [h1] at h9
  simp only at h9
  omega
 ·unfold opK
  rw [if_pos hk]
  unfold cls
  rw [if_pos hk]
  by_cases h1 : t.text = a0m ∨ t.text = [38, 38]
  ·rw [if_pos h1]
   rcases h1 with h | h <;> rw [h]
   exact ai9 k
  rw [if_neg h1]
  by_cases h2 : t.text = wOr ∨ t.text = [124, 124]
  ·rw [if_pos h2]
   rcases h2 with h | h <;> rw [h]
   exact aj1 k
  rw [if_neg h2]
  by_cases h3 : t.text = a0G ∨ t.text = [33]
  ·rw [if_pos h3]
   rcases h3 with h | h <;> rw [h]
   show x7 k [33] = x7 k a0G
   rw [(a7B k).1, (a7B k).2]
  rw [if_neg h3]
  by_cases h4 : t.text = [61] ∨ t.text = [61, 61]
  ·rw [if_pos h4]
   rcases h4 with h | h <;> rw [h]
   exact aj0 k
  rw [if_neg h4]
theorem ClE.op {t t' : Tk} (h : ClE t t') (k : Nat) : opK k t = opK k t' := by
 by_cases h9 : (cls t).1 = 9
 ·rw [a7M k t h.2.2.1 h9, h.1, a7M k t' h.2.2.2 (by rw [← h.1]; exact h9)]
 ·rcases a44 t with ⟨h1, hp⟩ | ⟨-, h2, -⟩
  ·obtain ⟨e1, e2⟩ := h.plain hp
   unfold opK
   rw [e1, e2]
  ·exact absurd h2 h9
def TkL (Q : Nat → Nat → Prop) : List Tk → List Tk → Prop := Al fun t t' => ClE t t' ∧ Q t.pos t'.pos
theorem am5 : ClE ⟨0, 0, [], 0⟩ ⟨0, 0, [], 0⟩ := ⟨rfl, rfl, by decide, by decide⟩
theorem TkL.hd {Q : Nat → Nat → Prop} {ts ts' : List Tk} (h : TkL Q ts ts') : ClE (hdT ts) (hdT ts') := by
 cases ts with
 | nil => cases ts' with
  | nil => exact am5
  | cons b m => exact h.elim
 | cons a l => cases ts' with
  | nil => exact h.elim
  | cons b m => exact h.1.1
theorem TkL.tail {Q : Nat → Nat → Prop} {ts ts' : List Tk} (h : TkL Q ts ts') : TkL Q ts.tail ts'.tail := by
 cases ts with
 | nil => cases ts' with
  | nil => exact trivial
  | cons b m => exact h.elim
 | cons a l => cases ts' with
  | nil => exact h.elim
  | cons b m => exact h.2
theorem TkL.pos {Q : Nat → Nat → Prop} {ts ts' : List Tk} (h : TkL Q ts ts') (hk : (hdT ts).kind ≠ 0) : Q (hdT ts).pos (hdT ts').pos := by
 cases ts with
 | nil => exact absurd rfl hk
 | cons a l => cases ts' with
  | nil => exact h.elim
  | cons b m => exact h.1.2
end Go.Proofs.YtklipelnjgpnjaaGreatDoor
