import Derived.Test.YtklipelnjgpnjaaGreatDoorLotB18
namespace Go.Proofs.YtklipelnjgpnjaaGreatDoor
open Go.RowKit
set_option maxRecDepth 100000
def exP : Er := (0, 0)
theorem a3B {α β : Type} {x y : Except Er α} {F G : α → Except Er β} (h1 : x ≠ .error exP → y = x) (h2 : ∀ v, x = .ok v → F v ≠ .error exP → G v = F v) (h : d7 x F ≠ .error exP) : d7 y G = d7 x F := by
 cases hx : x with
 | error e =>
  rw [hx] at h h1
  rw [h1 (fun e' => h (by rw [Except.error.inj e']; rfl))]
  rfl
 | ok v =>
  rw [hx] at h h1
  rw [h1 (by simp)]
  exact h2 v hx h
theorem a5c {α : Type} {nest : Nat} {ts : List Tk} {x y : Except Er α} (h1 : x ≠ .error exP → y = x) (h : B5 nest ts x ≠ .error exP) : B5 nest ts y = B5 nest ts x := by
 unfold B5 at *
 split
 ·rfl
 ·rename_i hn
  rw [if_neg hn] at h
  exact h1 h
def a4n (a b : Nat → List Tk → Out) : Prop := ∀ nest ts, a nest ts ≠ .error exP → b nest ts = a nest ts
theorem aG1 {a b : Nat → List Tk → Out} (hm : a4n a b) {nest of at' : Nat} {ts : List Tk} (h : S7 a nest of at' ts ≠ .error exP) : S7 b nest of at' ts = S7 a nest of at' ts := by
 unfold S7 at *
 split
 ·rename_i hb
  rw [if_pos hb] at h
  exact a5c (fun h => a3B (fun h => hm _ _ h) (fun v _ _ => rfl) h) h
 ·rfl
theorem aN3 {a b : Nat → List Tk → Out} (hm : a4n a b) : a4n (D4 a) (D4 b) := by
 intro nest ts h
 unfold D4 at *
 split
 ·rfl
 ·rename_i h1
  rw [if_neg h1] at h
  split
  ·rename_i hb
   rw [if_pos hb] at h
   exact a5c (fun h => a3B (fun h => hm _ _ h) (fun v _ _ => rfl) h) h
  ·rename_i h2
   rw [if_neg h2] at h
   split
   ·rfl
   ·rename_i h3
    rw [if_neg h3] at h
    split
    ·rename_i h4
     rw [if_pos h4] at h
     exact aG1 hm h
    ·rfl
theorem a9m {a b : List Tk → Out} (hm : ∀ ts, a ts ≠ .error exP → b ts = a ts) (k : Nat) : ∀ (f : Nat) (ns : List (Nd × Nat)) (ts : List Tk), A9 a k f ns ts ≠ .error exP → A9 b k f ns ts = A9 a k f ns ts
 | 0, ns, ts, _ => rfl
 | f + 1, ns, ts, h => by
  unfold A9 at *
  split
  ·rfl
  ·rename_i nd hnd
   rw [hnd] at h
   refine a3B (fun h => hm _ h) (fun v _ h2 => ?_) h
   split
   ·rfl
   ·rename_i hk
    rw [if_neg hk] at h2
    exact a9m hm k f _ _ h2
theorem aa3 : ∀ (f k : Nat), a4n (d6 f k) (d6 (f + 1) k)
 | 0, k => fun nest ts h => absurd rfl h
 | f + 1, k => fun nest ts h => by
  have ih := aa3 f
  rw [N0] at h
  rw [N0 (f + 1), N0 f]
  unfold N6 at *
  split
  ·rename_i h1
   rw [if_pos h1] at h
   exact a5c (fun h => a3B (fun h => ih 3 _ _ h) (fun v _ _ => rfl) h) h
  ·rename_i h1
   rw [if_neg h1] at h
   split
   ·rename_i h2
    rw [if_pos h2] at h
    exact a5c (fun h => a3B (fun h => ih 11 _ _ h) (fun v _ _ => rfl) h) h
   ·rename_i h2
    rw [if_neg h2] at h
    split
    ·rename_i h3
     rw [if_pos h3] at h
     exact ih (k + 1) _ _ h
    ·rename_i h3
     rw [if_neg h3] at h
     split
     ·rename_i h4
      rw [if_pos h4] at h
      exact aN3 (ih 1) _ _ h
     ·rename_i h4
      rw [if_neg h4] at h
      exact a3B (fun h => ih (k + 1) _ _ h) (fun v _ h2 => a9m (fun ts h => ih (k + 1) nest ts h) k _ _ _ h2) h
theorem aa4 {f g k nest : Nat} {ts : List Tk} (hfg : f ≤ g) (h : d6 f k nest ts ≠ .error exP) : d6 g k nest ts = d6 f k nest ts := by
 induction g with
 | zero =>
  obtain rfl : f = 0 := by omega
  rfl
 | succ g ih =>
  by_cases hg : f ≤ g
  ·rw [aa3 g k nest ts (by rw [ih hg]; exact h), ih hg]
  ·obtain rfl : f = g + 1 := by omega
   rfl
theorem a1J {α : Type} (ts : List Tk) (e : Int) (he : e ≠ 0) : (S5 ts e : Except Er α) ≠ .error exP := by
 intro h
 have := congrArg Prod.snd (Except.error.inj h)
 simp only [exP] at this
 split at this
 ·cases this
 ·exact he this
theorem T8 {α β : Type} {x : Except Er α} {F : α → Except Er β} (h1 : x ≠ .error exP) (h2 : ∀ v, x = .ok v → F v ≠ .error exP) : d7 x F ≠ .error exP := by
 cases hx : x with
 | error e => rw [hx] at h1; exact fun h => h1 (by rw [Except.error.inj h])
 | ok v => exact h2 v hx
theorem a5d {α : Type} {nest : Nat} {ts : List Tk} {x : Except Er α} (h : x ≠ .error exP) : B5 nest ts x ≠ .error exP := by
 unfold B5
 split
 ·intro e
  have := congrArg Prod.snd (Except.error.inj e)
  cases this
 ·exact h
theorem a42 (x : List UInt8) (ts : List Tk) : p9 x ts ≠ .error exP := by
 unfold p9
 split
 ·simp
 ·exact a1J _ _ (by decide)
theorem a2C (ts : List Tk) : m8 ts ≠ .error exP := by
 unfold m8
 split
 ·simp
 ·exact a1J _ _ (by decide)
theorem a7G (k : Nat) (ts : List Tk) : a0Z k ts ≠ .error exP := by
 unfold a0Z
 split
 ·split
  ·simp
  ·exact a1J _ _ (by decide)
 ·split
  ·split
   ·simp
   ·exact a1J _ _ (by decide)
  ·exact a1J _ _ (by decide)
theorem ac2 (of at' : Nat) (ts : List Tk) : a0C of at' ts ≠ .error exP := by
 unfold a0C a0a
 split
 ·exact T8 (a2C _) (fun v _ => by simp)
 ·split
  ·exact T8 (a2C _) (fun v _ => T8 (a42 _ _) (fun v _ => T8 (a2C _) (fun v _ => by simp)))
  ·split
   ·exact T8 (a7G _ _) (fun v _ => by simp)
   ·split
    ·exact T8 (a7G _ _) (fun v _ => T8 (a42 _ _) (fun v _ => T8 (a2C _) (fun v _ => by simp)))
    ·exact a1J _ _ (by decide)
theorem b18 (ts : List Tk) : a00 ts ≠ .error exP := by
 unfold a00
 split
 ·simp
 ·split
  ·simp
  ·split
   ·simp
   ·split
    ·exact T8 (a2C _) (fun v _ => by simp)
    ·split
     ·exact ac2 _ _ _
     ·exact a1J _ _ (by decide)
theorem aX3 (ts : List Tk) : a0u ts ≠ .error exP := by
 unfold a0u
 split
 ·exact T8 (a2C _) (fun v _ => T8 (a42 _ _) (fun v _ => by simp))
 ·exact T8 (a42 _ _) (fun v _ => by simp)
theorem aO8 {rec : Nat → List Tk → Out} {ts : List Tk} (h : ∀ nest r, Fr ts r → rec nest r ≠ .error exP) (nest : Nat) : D4 rec nest ts ≠ .error exP := by
 unfold D4
 split
 ·simp
 ·split
  ·rename_i hb
   exact a5d (T8 (h _ _ (M9 (a0q hb))) (fun v _ => T8 (a42 _ _) (fun v _ => by simp)))
  ·split
   ·exact a1J _ _ (by decide)
   ·rename_i hk
    have hne := a21 (ts := ts) (by omega)
    split
    ·unfold S7
     split
     ·rename_i hb
      exact a5d (T8 (h _ _ ((M9 hne).trans (M9 (a0q hb.1)))) (fun v _ => T8 (aX3 _) (fun v _ => by simp)))
     ·split
      ·exact a1J _ _ (by decide)
      ·split
       ·exact T8 (a2C _) (fun v _ => by simp)
       ·split
        ·exact ac2 _ _ _
        ·simp
    ·exact b18 _
theorem a9n {rec : List Tk → Out} {top : List Tk} (hf : ∀ ts ns r, rec ts = .ok (ns, r) → Fr ts r ∧ ns ≠ []) (h : ∀ r, Fr top r → rec r ≠ .error exP) (k : Nat) : ∀ (f : Nat) (ns : List (Nd × Nat)) (ts : List Tk), Fr top ts → A9 rec k f ns ts ≠ .error exP
 | 0, ns, ts, _ => by
  unfold A9
  simp
 | f + 1, ns, ts, ht => by
  unfold A9
  split
  ·simp
  ·rename_i nd hnd
   have hne : ts ≠ [] := by
    rintro rfl
    unfold opT at hnd
    rw [if_neg (by decide)] at hnd
    cases hnd
   refine T8 (h _ (ht.trans (M9 hne))) (fun v hv => ?_)
   split
   ·simp
   ·exact a9n hf h k f _ _ (ht.trans ((M9 hne).trans (hf _ v.1 v.2 hv).1))
theorem a6Z : ∀ (f k nest : Nat) (ts : List Tk), k ≤ 12 → a15 k ts ≤ f → d6 f k nest ts ≠ .error exP
 | 0, k, nest, ts, hk, hn => by unfold a15 at hn; omega
 | f + 1, k, nest, ts, hk, hn => by
  have ih := a6Z f
  unfold a15 at hn
  have below : ∀ k' nest' r, k' ≤ 12 → 1 ≤ k' → Fr ts r → d6 f k' nest' r ≠ .error exP := fun k' nest' r h1 h2 h3 => ih k' nest' r h1 (by have := h3.2; unfold a15; omega)
  rw [N0]
  unfold N6
  split
  ·rename_i hb
   have hne : ts ≠ [] := by rcases hb.2 with hb | hb <;> exact a0q hb
   exact a5d (T8 (below 3 _ _ (by omega) (by omega) (M9 hne)) (fun v _ => by simp))
  ·split
   ·rename_i hb
    exact a5d (T8 (below 11 _ _ (by omega) (by omega) (M9 (a0q hb.2))) (fun v _ => by simp))
   ·split
    ·exact ih (k + 1) _ _ (by omega) (by unfold a15; omega)
    ·split
     ·exact aO8 (fun nest' r hr => below 1 nest' r (by omega) (by omega) hr) nest
     ·have h1 : d6 f (k + 1) nest ts ≠ .error exP := ih (k + 1) _ _ (by omega) (by unfold a15; omega)
      refine T8 h1 (fun v hv => ?_)
      exact a9n (top := ts) (fun ts ns r h => a1o f (k + 1) nest ts ns r h) (fun r hr => below (k + 1) nest r (by omega) (by omega) hr) k _ _ _ (a1o f (k + 1) nest ts v.1 v.2 hv).1
def a2l (ts : List Tk) : Prop := ∃ us e, ts = us ++ [e] ∧ e.kind = 0 ∧ ∀ t ∈ us, t.kind ≠ 0
def a5P (ts : List Tk) (p : Nat) : Prop := ∃ t ∈ ts, t.kind ≠ 0 ∧ t.pos = p
def a4l (ts : List Tk) (e : Er) : Prop := ∃ t ∈ ts, t.pos = e.1 ∧ ((e.2 = 110 ∧ t.kind = 0) ∨ (t.kind ≠ 0 ∧ (e.2 = 111 ∨ e.2 = 112 ∨ e.2 = 113)))
theorem a2l.mem {ts : List Tk} (h : a2l ts) : hdT ts ∈ ts := by
 obtain ⟨us, e, rfl, -, -⟩ := h
 cases us with
 | nil => exact List.mem_cons_self ..
 | cons a us => exact List.mem_cons_self ..
theorem a2l.tail {ts : List Tk} (h : a2l ts) (hk : (hdT ts).kind ≠ 0) : a2l ts.tail := by
 obtain ⟨us, e, rfl, he, hu⟩ := h
 cases us with
 | nil => exact absurd he hk
 | cons a us => exact ⟨us, e, rfl, he, fun t ht => hu t (List.mem_cons_of_mem _ ht)⟩
theorem a5P.up {ts r : List Tk} {p : Nat} (h : a5P r p) (hs : r <:+ ts) : a5P ts p := by
 obtain ⟨t, ht, h⟩ := h
 exact ⟨t, hs.subset ht, h⟩
theorem a4l.up {ts r : List Tk} {e : Er} (h : a4l r e) (hs : r <:+ ts) : a4l ts e := by
 obtain ⟨t, ht, h⟩ := h
 exact ⟨t, hs.subset ht, h⟩
def GdP {α : Type} (ts : List Tk) (x : Except Er (α × List Tk)) : Prop := (∀ v r, x = .ok (v, r) → a2l r ∧ r <:+ ts) ∧ ∀ e, x = .error e → e ≠ exP → a4l ts e
theorem GdP.up {α : Type} {ts r : List Tk} {x : Except Er (α × List Tk)} (h : GdP r x) (hs : r <:+ ts) : GdP ts x :=
 ⟨fun v q hq => ⟨(h.1 v q hq).1, (h.1 v q hq).2.trans hs⟩, fun e he hn => (h.2 e he hn).up hs⟩
theorem a3b {ts : List Tk} {x : List UInt8} (h : isB ts x = true) : (hdT ts).kind ≠ 0 := by have := a6t h; omega

section
variable {A B : List Tk}
theorem ar7 (hB : (hdT B).kind = 0) (x : List UInt8) : isB B x = false := by
 unfold isB
 rw [hB]
 rfl
end

section
variable {A B : List Tk}
end
def a3I (B : List Tk) : Prop := (∀ x ∈ [[91], E0, L3, J0, J5, I3], isB B x = false) ∧ ∀ k, opT k B = none
theorem aZ1 {t : Tk} (ht : t.kind = 5) (hx : t.text = [41]) (r : List Tk) : a3I (t :: r) := by
 refine ⟨fun x hm => ?_, fun k => ?_⟩
 ·show ((t.kind == 5 || t.kind == 2) && t.text == x) = false
  rw [hx]
  simp only [List.mem_cons, List.not_mem_nil, or_false] at hm
  rcases hm with rfl | rfl | rfl | rfl | rfl | rfl <;> simp [E0, L3, J0, J5, I3]
 ·unfold opT
  show (if t.kind = 5 ∨ t.kind = 2 then t7 k t.text else none) = none
  rw [if_pos (.inl ht), hx]
  unfold t7 a2c
  simp [wOr, U8]
theorem aZ0 {t : Tk} (ht : t.kind = 0) (r : List Tk) : a3I (t :: r) := by
 refine ⟨fun x _ => ar7 (B := t :: r) ht x, fun k => ?_⟩
 unfold opT
 rw [if_neg (by show ¬ (t.kind = 5 ∨ t.kind = 2); omega)]

section
variable {A B : List Tk}
end
def Al {α β : Type} (R : α → β → Prop) : List α → List β → Prop
 | [], [] => True
 | a :: l, b :: m => R a b ∧ Al R l m
 | _, _ => False
theorem Al.len {α β : Type} {R : α → β → Prop} : ∀ {l : List α} {m : List β}, Al R l m → l.length = m.length
 | [], [], _ => rfl
 | a :: l, b :: m, h => by simp only [List.length_cons]; rw [Al.len h.2]
 | [], b :: m, h => h.elim
 | a :: l, [], h => h.elim
theorem Al.app {α β : Type} {R : α → β → Prop} : ∀ {l l' : List α} {m m' : List β}, Al R l m → Al R l' m' → Al R (l ++ l') (m ++ m')
 | [], _, [], _, _, h => h
 | _ :: _, _, _ :: _, _, h, k => ⟨h.1, Al.app h.2 k⟩
 | [], _, _ :: _, _, h, _ => h.elim
 | _ :: _, _, [], _, h, _ => h.elim
def cls (t : Tk) : Nat × List UInt8 :=
 if t.kind = 5 ∨ t.kind = 2 then
  (if t.text = U8 ∨ t.text = [38, 38] then (9, U8) else if t.text = wOr ∨ t.text = [124, 124] then (9, wOr) else if t.text = U1 ∨ t.text = [33] then (9, U1) else if t.text = [61] ∨ t.text = [61, 61] then (9, [61]) else (t.kind, t.text))
 else (t.kind, t.text)
def a2i : List (List UInt8) := [U8, [38, 38], wOr, [124, 124], U1, [33], [61], [61, 61]]
theorem a4C (t : Tk) : cls t = (t.kind, t.text) ∧ ((t.kind ≠ 5 ∧ t.kind ≠ 2) ∨ t.text ∉ a2i) ∨ (t.kind = 5 ∨ t.kind = 2) ∧ (cls t).1 = 9 ∧ t.text ∈ a2i := by
 unfold cls
 by_cases hk : t.kind = 5 ∨ t.kind = 2
 ·rw [if_pos hk]
  by_cases h1 : t.text = U8 ∨ t.text = [38, 38]
  ·rw [if_pos h1]; exact .inr ⟨hk, rfl, by rcases h1 with h | h <;> simp [a2i, h]⟩
  rw [if_neg h1]
  by_cases h2 : t.text = wOr ∨ t.text = [124, 124]
  ·rw [if_pos h2]; exact .inr ⟨hk, rfl, by rcases h2 with h | h <;> simp [a2i, h]⟩
  rw [if_neg h2]
  by_cases h3 : t.text = U1 ∨ t.text = [33]
  ·rw [if_pos h3]; exact .inr ⟨hk, rfl, by rcases h3 with h | h <;> simp [a2i, h]⟩
  rw [if_neg h3]
  by_cases h4 : t.text = [61] ∨ t.text = [61, 61]
  ·rw [if_pos h4]; exact .inr ⟨hk, rfl, by rcases h4 with h | h <;> simp [a2i, h]⟩
  rw [if_neg h4]
  refine .inl ⟨rfl, .inr ?_⟩
  simp only [a2i, List.mem_cons, List.not_mem_nil, or_false]
  rintro (h | h | h | h | h | h | h | h)
  ·exact h1 (.inl h)
  ·exact h1 (.inr h)
  ·exact h2 (.inl h)
  ·exact h2 (.inr h)
  ·exact h3 (.inl h)
  ·exact h3 (.inr h)
  ·exact h4 (.inl h)
  ·exact h4 (.inr h)
 ·rw [if_neg hk]
  exact .inl ⟨rfl, .inl ⟨fun h => hk (.inl h), fun h => hk (.inr h)⟩⟩
def ClE (t t' : Tk) : Prop := cls t = cls t' ∧ t.num = t'.num ∧ t.kind ≤ 5 ∧ t'.kind ≤ 5
theorem ClE.symm {t t' : Tk} (h : ClE t t') : ClE t' t := ⟨h.1.symm, h.2.1.symm, h.2.2.2, h.2.2.1⟩
theorem ClE.plain {t t' : Tk} (h : ClE t t') (hp : (t.kind ≠ 5 ∧ t.kind ≠ 2) ∨ t.text ∉ a2i) : t'.kind = t.kind ∧ t'.text = t.text := by
 rcases a4C t with ⟨h1, -⟩ | ⟨h1, -, h3⟩
 ·rcases a4C t' with ⟨h4, -⟩ | ⟨-, h4, -⟩
  ·have := h.1
   rw [h1, h4] at this
   exact ⟨(congrArg Prod.fst this).symm, (congrArg Prod.snd this).symm⟩
  ·have := h.1
   rw [h1] at this
   rw [← this] at h4
   have := h.2.2.1
   simp only at h4
   omega
 ·exfalso
  rcases hp with hp | hp
  ·rcases h1 with h1 | h1
   ·exact hp.1 h1
   ·exact hp.2 h1
  ·exact hp h3
theorem ClE.kind {t t' : Tk} (h : ClE t t') {n : Nat} (hn : n ≠ 5 ∧ n ≠ 2) : t.kind = n ↔ t'.kind = n :=
 ⟨fun e => by rw [(h.plain (.inl (by rw [e]; exact hn))).1]; exact e, fun e => by rw [(h.symm.plain (.inl (by rw [e]; exact hn))).1]; exact e⟩
theorem al5 (k : Nat) : t7 k [38, 38] = t7 k U8 := by
 unfold t7 a2c
 simp [U8, wOr]
theorem al8 (k : Nat) : t7 k [124, 124] = t7 k wOr := by
 unfold t7 a2c
 simp [U8, wOr]
theorem a8a (k : Nat) : t7 k [33] = none ∧ t7 k U1 = none := by
 unfold t7 a2c
 simp [U8, wOr, U1]
theorem al6 (k : Nat) : t7 k [61, 61] = t7 k [61] := by
 unfold t7 a2c
 simp [U8, wOr]
def opK (k : Nat) (t : Tk) : Option Nd := if t.kind = 5 ∨ t.kind = 2 then t7 k t.text else none
theorem a8l (k : Nat) (t : Tk) (h5 : t.kind ≤ 5) : (cls t).1 = 9 → opK k t = t7 k (cls t).2 := by
 intro h9
 rcases a4C t with ⟨h1, hh⟩ | ⟨hk, -, -⟩
 ·rw [h1] at h9
  simp only at h9
  omega
 ·unfold opK
  rw [if_pos hk]
  unfold cls
  rw [if_pos hk]
  by_cases h1 : t.text = U8 ∨ t.text = [38, 38]
  ·rw [if_pos h1]
   rcases h1 with h | h <;> rw [h]
   exact al5 k
  rw [if_neg h1]
  by_cases h2 : t.text = wOr ∨ t.text = [124, 124]
  ·rw [if_pos h2]
   rcases h2 with h | h <;> rw [h]
   exact al8 k
  rw [if_neg h2]
  by_cases h3 : t.text = U1 ∨ t.text = [33]
  ·rw [if_pos h3]
   rcases h3 with h | h <;> rw [h]
   show t7 k [33] = t7 k U1
   rw [(a8a k).1, (a8a k).2]
  rw [if_neg h3]
  by_cases h4 : t.text = [61] ∨ t.text = [61, 61]
  ·rw [if_pos h4]
   rcases h4 with h | h <;> rw [h]
   exact al6 k
  rw [if_neg h4]
theorem ClE.op {t t' : Tk} (h : ClE t t') (k : Nat) : opK k t = opK k t' := by
 by_cases h9 : (cls t).1 = 9
 ·rw [a8l k t h.2.2.1 h9, h.1, a8l k t' h.2.2.2 (by rw [← h.1]; exact h9)]
 ·rcases a4C t with ⟨h1, hp⟩ | ⟨-, h2, -⟩
  ·obtain ⟨e1, e2⟩ := h.plain hp
   unfold opK
   rw [e1, e2]
  ·exact absurd h2 h9
def TkL (Q : Nat → Nat → Prop) : List Tk → List Tk → Prop := Al fun t t' => ClE t t' ∧ Q t.pos t'.pos
theorem ap1 : ClE ⟨0, 0, [], 0⟩ ⟨0, 0, [], 0⟩ := ⟨rfl, rfl, by decide, by decide⟩
theorem TkL.hd {Q : Nat → Nat → Prop} {ts ts' : List Tk} (h : TkL Q ts ts') : ClE (hdT ts) (hdT ts') := by
 cases ts with
 | nil => cases ts' with
  | nil => exact ap1
  | cons b m => exact h.elim
 | cons a l => cases ts' with
  | nil => exact h.elim
  | cons b m => exact h.1.1
theorem TkL.tail {Q : Nat → Nat → Prop} {ts ts' : List Tk} (h : TkL Q ts ts') : TkL Q ts.tail ts'.tail := by
 cases ts with
 | nil => cases ts' with
  | nil => exact trivial
  | cons b m => exact h.elim
 | cons a l => cases ts' with
  | nil => exact h.elim
  | cons b m => exact h.2
theorem TkL.pos {Q : Nat → Nat → Prop} {ts ts' : List Tk} (h : TkL Q ts ts') (hk : (hdT ts).kind ≠ 0) : Q (hdT ts).pos (hdT ts').pos := by
 cases ts with
 | nil => exact absurd rfl hk
 | cons a l => cases ts' with
  | nil => exact h.elim
  | cons b m => exact h.1.2
end Go.Proofs.YtklipelnjgpnjaaGreatDoor
