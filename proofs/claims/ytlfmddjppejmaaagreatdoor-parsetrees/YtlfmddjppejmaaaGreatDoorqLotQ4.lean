import Derived.Test.YtlfmddjppejmaaaGreatDoorqLotQ3
namespace Go.Proofs.YtlfmddjppejmaaaGreatDoor
open Go.RowKit
set_option maxRecDepth 100000
theorem a05 {ts : List Tk} (h : (hdT ts).kind ≠ 0) : ts ≠ [] := by
 rintro rfl
 exact h rfl
theorem a2x {ts : List Tk} {x : List UInt8} (h : isB ts x = true) : (hdT ts).kind = 5 ∨ (hdT ts).kind = 2 := by
 unfold isB at h
 simp only [Bool.and_eq_true, Bool.or_eq_true, beq_iff_eq] at h
 exact h.1
theorem a0C {ts : List Tk} {x : List UInt8} (h : isB ts x = true) : (hdT ts).text = x := by
 unfold isB at h
 simp only [Bool.and_eq_true, beq_iff_eq] at h
 exact h.2
theorem N6 {ts : List Tk} {x : List UInt8} (h : isB ts x = true) : ts ≠ [] := a05 (by have := a2x h; omega)
def Fr (ts r : List Tk) : Prop := r <:+ ts ∧ r.length < ts.length
theorem E0 {ts : List Tk} (h : ts ≠ []) : Fr ts ts.tail := ⟨List.tail_suffix ts, by cases ts with
 | nil => exact absurd rfl h
 | cons a r => simp⟩
theorem Fr.trans {a b c : List Tk} (h : Fr a b) (k : Fr b c) : Fr a c := ⟨k.1.trans h.1, Nat.lt_trans k.2 h.2⟩
theorem I6 {α β : Type} {x : Except Er α} {f : α → Except Er β} {y : β} (h : d8 x f = .ok y) : ∃ v, x = .ok v ∧ f v = .ok y := by
 cases x with
 | error e => cases h
 | ok v => exact ⟨v, rfl, h⟩
theorem a1l {x : List UInt8} {ts r : List Tk} (h : l5 x ts = .ok r) : Fr ts r := by
 unfold l5 at h
 split at h
 ·rename_i hb
  cases h
  exact E0 (N6 hb)
 ·cases h
theorem a0n {ts r : List Tk} {n : Nat} (h : j8 ts = .ok (n, r)) : Fr ts r := by
 unfold j8 at h
 split at h
 ·rename_i hk
  cases h
  exact E0 (a05 (by omega))
 ·cases h
theorem a3j {k : Nat} {ts r : List Tk} {d : Nd} (h : S7 k ts = .ok (d, r)) : Fr ts r := by
 unfold S7 at h
 split at h
 ·rename_i hk
  split at h
  ·cases h
   exact E0 (a05 (by omega))
  ·cases h
 ·split at h
  ·rename_i hk
   split at h
   ·cases h
    exact E0 (a05 (by omega))
   ·cases h
  ·cases h
theorem ae8 {of at' side : Nat} {ts r : List Tk} {ns : List (Nd × Nat)} (h : sidedB of at' side ts = .ok (ns, r)) : Fr ts r ∧ ns ≠ [] := by
 unfold sidedB at h
 split at h
 ·rename_i hb
  obtain ⟨⟨n, r1⟩, h1, h2⟩ := I6 h
  cases h2
  exact ⟨(E0 (N6 hb)).trans (a0n h1), by simp⟩
 ·split at h
  ·rename_i hb
   obtain ⟨⟨n, r1⟩, h1, h2⟩ := I6 h
   obtain ⟨r2, h3, h4⟩ := I6 h2
   obtain ⟨⟨m, r3⟩, h5, h6⟩ := I6 h4
   cases h6
   exact ⟨(((E0 (N6 hb)).trans (a0n h1)).trans (a1l h3)).trans (a0n h5), by simp⟩
  ·split at h
   ·rename_i hb
    obtain ⟨⟨n, r1⟩, h1, h2⟩ := I6 h
    cases h2
    exact ⟨(E0 (N6 hb.2)).trans (a3j h1), by simp⟩
   ·split at h
    ·rename_i hb
     obtain ⟨⟨n, r1⟩, h1, h2⟩ := I6 h
     obtain ⟨r2, h3, h4⟩ := I6 h2
     obtain ⟨⟨m, r3⟩, h5, h6⟩ := I6 h4
     cases h6
     exact ⟨(((E0 (N6 hb.2)).trans (a3j h1)).trans (a1l h3)).trans (a0n h5), by simp⟩
    ·cases h
theorem a5i (ts : List Tk) : o9 ts <:+ ts := by
 unfold o9
 split
 ·exact List.suffix_refl _
 ·exact List.tail_suffix _
theorem a38 {of at' : Nat} {ts r : List Tk} {ns : List (Nd × Nat)} (h : Z9 of at' ts = .ok (ns, r)) : Fr ts r ∧ ns ≠ [] := by
 obtain ⟨h1, h2⟩ := ae8 h
 exact ⟨⟨h1.1.trans (a5i ts), Nat.lt_of_lt_of_le h1.2 (a5i ts).length_le⟩, h2⟩
theorem ai2 {ts r : List Tk} {ns : List (Nd × Nat)} (hk : (hdT ts).kind = 2) (h : K9 ts = .ok (ns, r)) : Fr ts r ∧ ns ≠ [] := by
 have hne := a05 (ts := ts) (by omega)
 unfold K9 at h
 split at h
 ·cases h; exact ⟨E0 hne, by simp⟩
 ·split at h
  ·cases h; exact ⟨E0 hne, by simp⟩
  ·split at h
   ·cases h; exact ⟨E0 hne, by simp⟩
   ·split at h
    ·obtain ⟨⟨n, r1⟩, h1, h2⟩ := I6 h
     cases h2
     exact ⟨(E0 hne).trans (a0n h1), by simp⟩
    ·split at h
     ·exact a38 h
     ·cases h
theorem af9 {ts r : List Tk} {n : Nat} (h : O6 ts = .ok (n, r)) : Fr ts r := by
 unfold O6 at h
 split at h
 ·rename_i hb
  obtain ⟨⟨n, r1⟩, h1, h2⟩ := I6 h
  obtain ⟨r2, h3, h4⟩ := I6 h2
  cases h4
  exact ((E0 (N6 hb)).trans (a0n h1)).trans (a1l h3)
 ·obtain ⟨r2, h3, h4⟩ := I6 h
  cases h4
  exact a1l h3
theorem a1U {α : Type} {nest : Nat} {ts : List Tk} {x : Except Er α} {y : α} (h : s9 nest ts x = .ok y) : nest ≠ 200 ∧ x = .ok y := by
 unfold s9 at h
 split at h
 ·cases h
 ·rename_i hn; exact ⟨hn, h⟩
def FrO (rec : Nat → List Tk → Out) : Prop := ∀ nest ts ns r, rec nest ts = .ok (ns, r) → Fr ts r ∧ ns ≠ []
theorem a7O {rec : Nat → List Tk → Out} (hr : FrO rec) {nest of at' : Nat} {ts r : List Tk} {ns : List (Nd × Nat)} (h : N7 rec nest of at' ts = .ok (ns, r)) : r <:+ ts ∧ ns ≠ [] := by
 unfold N7 at h
 split at h
 ·rename_i hb
  obtain ⟨-, h⟩ := a1U h
  obtain ⟨⟨n1, r1⟩, h1, h2⟩ := I6 h
  obtain ⟨⟨n2, r2⟩, h3, h4⟩ := I6 h2
  cases h4
  exact ⟨((E0 (N6 hb.1)).trans ((hr _ _ _ _ h1).1.trans (af9 h3))).1, by simp⟩
 ·split at h
  ·cases h
  ·split at h
   ·rename_i hb
    obtain ⟨⟨n, r1⟩, h1, h2⟩ := I6 h
    cases h2
    exact ⟨((E0 (N6 hb.2)).trans (a0n h1)).1, by simp⟩
   ·split at h
    ·exact ⟨(a38 h).1.1, (a38 h).2⟩
    ·cases h
     exact ⟨List.suffix_refl _, by simp⟩
theorem a8B {rec : Nat → List Tk → Out} (hr : FrO rec) : FrO (J2 rec) := by
 intro nest ts ns r h
 unfold J2 at h
 split at h
 ·cases h
  exact ⟨E0 (a05 (by omega)), by simp⟩
 ·split at h
  ·rename_i hb
   obtain ⟨-, h⟩ := a1U h
   obtain ⟨⟨n1, r1⟩, h1, h2⟩ := I6 h
   obtain ⟨r2, h3, h4⟩ := I6 h2
   cases h4
   exact ⟨(E0 (N6 hb)).trans ((hr _ _ _ _ h1).1.trans (a1l h3)), (hr _ _ _ _ h1).2⟩
  ·split at h
   ·cases h
   ·rename_i hk
    have hk' : (hdT ts).kind = 2 := Decidable.byContradiction hk
    have hne := a05 (ts := ts) (by omega)
    split at h
    ·obtain ⟨h1, h2⟩ := a7O hr h
     have ht := E0 hne
     exact ⟨⟨h1.trans ht.1, Nat.lt_of_le_of_lt h1.length_le ht.2⟩, h2⟩
    ·exact ai2 hk' h
theorem a4p {rec : List Tk → Out} (hr : ∀ ts ns r, rec ts = .ok (ns, r) → Fr ts r ∧ ns ≠ []) (k : Nat) : ∀ (f : Nat) (ns : List (Nd × Nat)) (ts : List Tk) (ms : List (Nd × Nat)) (r : List Tk), x0 rec k f ns ts = .ok (ms, r) → r <:+ ts ∧ (ns ≠ [] → ms ≠ [])
 | 0, ns, ts, ms, r, h => by
  cases h
  exact ⟨List.suffix_refl _, fun h => h⟩
 | f + 1, ns, ts, ms, r, h => by
  unfold x0 at h
  split at h
  ·cases h
   exact ⟨List.suffix_refl _, fun h => h⟩
  ·obtain ⟨⟨n1, r1⟩, h1, h2⟩ := I6 h
   have hf := (hr _ _ _ h1).1.1.trans (List.tail_suffix ts)
   split at h2
   ·cases h2
    exact ⟨hf, fun _ => by simp⟩
   ·obtain ⟨h3, h4⟩ := a4p hr k f _ _ _ _ h2
    exact ⟨h3.trans hf, fun _ => h4 (by simp)⟩
theorem V8 : ∀ (f k : Nat), FrO (d7 f k)
 | 0, k => fun nest ts ns r h => by cases h
 | f + 1, k => fun nest ts ns r h => by
  have ih := V8 f
  rw [M3] at h
  unfold J9 at h
  split at h
  ·rename_i hb
   obtain ⟨-, h⟩ := a1U h
   obtain ⟨⟨n1, r1⟩, h1, h2⟩ := I6 h
   cases h2
   have hne : ts ≠ [] := by rcases hb.2 with hb | hb <;> exact N6 hb
   exact ⟨(E0 hne).trans (ih 3 _ _ _ _ h1).1, by simp⟩
  ·split at h
   ·rename_i hb
    obtain ⟨-, h⟩ := a1U h
    obtain ⟨⟨n1, r1⟩, h1, h2⟩ := I6 h
    cases h2
    exact ⟨(E0 (N6 hb.2)).trans (ih 11 _ _ _ _ h1).1, by simp⟩
   ·split at h
    ·exact ih (k + 1) _ _ _ _ h
    ·split at h
     ·exact a8B (ih 1) _ _ _ _ h
     ·obtain ⟨⟨n1, r1⟩, h1, h2⟩ := I6 h
      obtain ⟨h3, h4⟩ := ih (k + 1) _ _ _ _ h1
      obtain ⟨h5, h6⟩ := a4p (fun ts ns r h => ih (k + 1) nest ts ns r h) k _ _ _ _ _ h2
      exact ⟨⟨h5.trans h3.1, Nat.lt_of_le_of_lt h5.length_le h3.2⟩, h6 h4⟩
def exP : Er := (0, 0)
theorem Y7 {α : Type} (ts : List Tk) (e : Int) (he : e ≠ 0) : (x6 ts e : Except Er α) ≠ .error exP := by
 intro h
 have := congrArg Prod.snd (Except.error.inj h)
 simp only [exP] at this
 split at this
 ·cases this
 ·exact he this
theorem I7 {α β : Type} {x : Except Er α} {F : α → Except Er β} (h1 : x ≠ .error exP) (h2 : ∀ v, x = .ok v → F v ≠ .error exP) : d8 x F ≠ .error exP := by
 cases hx : x with
 | error e => rw [hx] at h1; exact fun h => h1 (by rw [Except.error.inj h])
 | ok v => exact h2 v hx
theorem a1W {α : Type} {nest : Nat} {ts : List Tk} {x : Except Er α} (h : x ≠ .error exP) : s9 nest ts x ≠ .error exP := by
 unfold s9
 split
 ·intro e
  have := congrArg Prod.snd (Except.error.inj e)
  cases this
 ·exact h
theorem a1n (x : List UInt8) (ts : List Tk) : l5 x ts ≠ .error exP := by
 unfold l5
 split
 ·simp
 ·exact Y7 _ _ (by decide)
theorem a0o (ts : List Tk) : j8 ts ≠ .error exP := by
 unfold j8
 split
 ·simp
 ·exact Y7 _ _ (by decide)
theorem a3l (k : Nat) (ts : List Tk) : S7 k ts ≠ .error exP := by
 unfold S7
 split
 ·split
  ·simp
  ·exact Y7 _ _ (by decide)
 ·split
  ·split
   ·simp
   ·exact Y7 _ _ (by decide)
  ·exact Y7 _ _ (by decide)
theorem a5k (of at' : Nat) (ts : List Tk) : Z9 of at' ts ≠ .error exP := by
 unfold Z9 sidedB
 split
 ·exact I7 (a0o _) (fun v _ => by simp)
 ·split
  ·exact I7 (a0o _) (fun v _ => I7 (a1n _ _) (fun v _ => I7 (a0o _) (fun v _ => by simp)))
  ·split
   ·exact I7 (a3l _ _) (fun v _ => by simp)
   ·split
    ·exact I7 (a3l _ _) (fun v _ => I7 (a1n _ _) (fun v _ => I7 (a0o _) (fun v _ => by simp)))
    ·exact Y7 _ _ (by decide)
theorem ai3 (ts : List Tk) : K9 ts ≠ .error exP := by
 unfold K9
 split
 ·simp
 ·split
  ·simp
  ·split
   ·simp
   ·split
    ·exact I7 (a0o _) (fun v _ => by simp)
    ·split
     ·exact a5k _ _ _
     ·exact Y7 _ _ (by decide)
theorem ag1 (ts : List Tk) : O6 ts ≠ .error exP := by
 unfold O6
 split
 ·exact I7 (a0o _) (fun v _ => I7 (a1n _ _) (fun v _ => by simp))
 ·exact I7 (a1n _ _) (fun v _ => by simp)
theorem a8R {rec : Nat → List Tk → Out} {ts : List Tk} (h : ∀ nest r, Fr ts r → rec nest r ≠ .error exP) (nest : Nat) : J2 rec nest ts ≠ .error exP := by
 unfold J2
 split
 ·simp
 ·split
  ·rename_i hb
   exact a1W (I7 (h _ _ (E0 (N6 hb))) (fun v _ => I7 (a1n _ _) (fun v _ => by simp)))
  ·split
   ·exact Y7 _ _ (by decide)
   ·rename_i hk
    have hne := a05 (ts := ts) (by omega)
    split
    ·unfold N7
     split
     ·rename_i hb
      exact a1W (I7 (h _ _ ((E0 hne).trans (E0 (N6 hb.1)))) (fun v _ => I7 (ag1 _) (fun v _ => by simp)))
     ·split
      ·exact Y7 _ _ (by decide)
      ·split
       ·exact I7 (a0o _) (fun v _ => by simp)
       ·split
        ·exact a5k _ _ _
        ·simp
    ·exact ai3 _
theorem a4t {rec : List Tk → Out} {top : List Tk} (hf : ∀ ts ns r, rec ts = .ok (ns, r) → Fr ts r ∧ ns ≠ []) (h : ∀ r, Fr top r → rec r ≠ .error exP) (k : Nat) : ∀ (f : Nat) (ns : List (Nd × Nat)) (ts : List Tk), Fr top ts → x0 rec k f ns ts ≠ .error exP
 | 0, ns, ts, _ => by
  unfold x0
  simp
 | f + 1, ns, ts, ht => by
  unfold x0
  split
  ·simp
  ·rename_i nd hnd
   have hne : ts ≠ [] := by
    rintro rfl
    unfold opT at hnd
    rw [if_neg (by decide)] at hnd
    cases hnd
   refine I7 (h _ (ht.trans (E0 hne))) (fun v hv => ?_)
   split
   ·simp
   ·exact a4t hf h k f _ _ (ht.trans ((E0 hne).trans (hf _ v.1 v.2 hv).1))
theorem a34 : ∀ (f k nest : Nat) (ts : List Tk), k ≤ 12 → D4 k ts ≤ f → d7 f k nest ts ≠ .error exP
 | 0, k, nest, ts, hk, hn => by unfold D4 at hn; omega
 | f + 1, k, nest, ts, hk, hn => by
  have ih := a34 f
  unfold D4 at hn
  have below : ∀ k' nest' r, k' ≤ 12 → 1 ≤ k' → Fr ts r → d7 f k' nest' r ≠ .error exP := fun k' nest' r h1 h2 h3 => ih k' nest' r h1 (by have := h3.2; unfold D4; omega)
  rw [M3]
  unfold J9
  split
  ·rename_i hb
   have hne : ts ≠ [] := by rcases hb.2 with hb | hb <;> exact N6 hb
   exact a1W (I7 (below 3 _ _ (by omega) (by omega) (E0 hne)) (fun v _ => by simp))
  ·split
   ·rename_i hb
    exact a1W (I7 (below 11 _ _ (by omega) (by omega) (E0 (N6 hb.2))) (fun v _ => by simp))
   ·split
    ·exact ih (k + 1) _ _ (by omega) (by unfold D4; omega)
    ·split
     ·exact a8R (fun nest' r hr => below 1 nest' r (by omega) (by omega) hr) nest
     ·have h1 : d7 f (k + 1) nest ts ≠ .error exP := ih (k + 1) _ _ (by omega) (by unfold D4; omega)
      refine I7 h1 (fun v hv => ?_)
      exact a4t (top := ts) (fun ts ns r h => V8 f (k + 1) nest ts ns r h) (fun r hr => below (k + 1) nest r (by omega) (by omega) hr) k _ _ _ (V8 f (k + 1) nest ts v.1 v.2 hv).1
def a0x (ts : List Tk) : Prop := ∃ us e, ts = us ++ [e] ∧ e.kind = 0 ∧ ∀ t ∈ us, t.kind ≠ 0
theorem a0x.mem {ts : List Tk} (h : a0x ts) : hdT ts ∈ ts := by
 obtain ⟨us, e, rfl, -, -⟩ := h
 cases us with
 | nil => exact List.mem_cons_self ..
 | cons a us => exact List.mem_cons_self ..
theorem a0x.tail {ts : List Tk} (h : a0x ts) (hk : (hdT ts).kind ≠ 0) : a0x ts.tail := by
 obtain ⟨us, e, rfl, he, hu⟩ := h
 cases us with
 | nil => exact absurd he hk
 | cons a us => exact ⟨us, e, rfl, he, fun t ht => hu t (List.mem_cons_of_mem _ ht)⟩
theorem a0i {ts : List Tk} {x : List UInt8} (h : isB ts x = true) : (hdT ts).kind ≠ 0 := by have := a2x h; omega
theorem a45 : ∀ (d : List UInt8) (v n : Nat), v ≤ 4294967295 → N5 v d = some n → n ≤ 4294967295
 | [], v, n, hv, h => by
  simp only [N5, Option.some.injEq] at h
  omega
 | c :: r, v, n, hv, h => by
  unfold N5 at h
  split at h
  ·split at h
   ·cases h
   ·exact a45 r _ n (by omega) h
  ·cases h
theorem a1q {s : List UInt8} {n : Nat} (h : E1 s = some n) : n ≤ 4294967295 := by
 unfold E1 at h
 split at h
 ·exact a45 _ 0 n (by omega) h
 ·unfold k9 at h
  split at h
  ·cases h
  ·exact a2K 0 s n (by omega) h
theorem a25 {s : List UInt8} (h : t6 s ≠ []) : t6 s = s.take (t6 s).length ∧ (t6 s).length ≤ s.length := by
 unfold t6 at h ⊢
 by_cases h1 : s.take 2 ∈ L6
 ·rw [if_pos h1]
  have hl : (s.take 2).length = 2 := by
   simp only [L6, List.mem_cons, List.not_mem_nil, or_false] at h1
   rcases h1 with e | e | e | e | e | e | e | e <;> rw [e] <;> rfl
  rw [hl]
  refine ⟨rfl, ?_⟩
  rw [List.length_take] at hl
  omega
 ·rw [if_neg h1] at h ⊢
  by_cases h2 : s.head?.all (X9.contains ·) = true
  ·rw [if_pos h2] at h ⊢
   cases s with
   | nil => simp at h
   | cons c r => exact ⟨by simp, by simp⟩
  ·rw [if_neg h2] at h
   exact absurd rfl h
theorem V9 {s : List UInt8} {q n : Nat} {t : List UInt8} (h : o7 s = .ok (q, t, n)) : t ≠ [] ∧ t = s.take t.length ∧ t.length ≤ s.length ∧ 1 ≤ q ∧ q ≤ 5 ∧ n ≤ 4294967295 := by
 unfold o7 at h
 split at h
 ·rename_i hc
  simp only [Except.ok.injEq, Prod.mk.injEq] at h
  obtain ⟨rfl, rfl, rfl⟩ := h
  refine ⟨fun e => ?_, a1t _ _, Y1 _ _, by omega, by omega, by omega⟩
  rw [e] at hc
  simp at hc
 ·split at h
  ·rename_i hd
   have hne : (s.takeWhile j9) ≠ [] := by
    cases s with
    | nil => simp at hd
    | cons c r =>
     have hc : s8 c = true := by simpa using hd
     obtain ⟨u, e⟩ := a5v j9 c r (by simp [j9, hc])
     rw [e]
     simp
   split at h
   ·rename_i h46
    simp only [Except.ok.injEq, Prod.mk.injEq] at h
    obtain ⟨rfl, rfl, rfl⟩ := h
    refine ⟨fun e => ?_, a1t _ _, Y1 _ _, by omega, by omega, by omega⟩
    rw [e] at h46
    simp at h46
   ·split at h
    ·cases h
    ·rename_i m hm
     simp only [Except.ok.injEq, Prod.mk.injEq] at h
     obtain ⟨rfl, rfl, rfl⟩ := h
     exact ⟨hne, a1t _ _, Y1 _ _, by omega, by omega, a1q hm⟩
  ·split at h
   ·rename_i hl
    simp only [Except.ok.injEq, Prod.mk.injEq] at h
    obtain ⟨rfl, rfl, rfl⟩ := h
    refine ⟨?_, a1t _ _, Y1 _ _, by omega, by omega, by omega⟩
    cases s with
    | nil => simp at hl
    | cons c r =>
     have hc : M1 c = true := by simpa using hl
     obtain ⟨u, e⟩ := a5v j9 c r (by simp [j9, hc])
     rw [e]
     simp
   ·split at h
    ·cases h
    ·rename_i hs
     simp only [Except.ok.injEq, Prod.mk.injEq] at h
     obtain ⟨rfl, rfl, rfl⟩ := h
     exact ⟨hs, (a25 hs).1, (a25 hs).2, by omega, by omega, by omega⟩
theorem a2h {l : List UInt8} {p : UInt8 → Bool} (hp : p 58 = false) (h : ∀ x ∈ l, p x = true) (r : UInt8 → Bool) : (l.takeWhile r).count 58 = 0 := by
 rw [List.count_eq_zero]
 intro hm
 have h1 : (58 : UInt8) ∈ l := (List.takeWhile_sublist r).subset hm
 have := h 58 h1
 rw [hp] at this
 cases this
theorem a1J {s : List UInt8} {n : Nat} (hn : 0 < n) : (s.take n).head? = s.head? := by
 cases s with
 | nil => simp
 | cons c r =>
  cases n with
  | zero => omega
  | succ n => rfl
theorem af2 {s : List UInt8} (h : t6 s ≠ []) : t6 (t6 s) = t6 s ∧ (t6 s).head? = s.head? := by
 have hl := a25 h
 refine ⟨?_, by rw [hl.1]; exact a1J (by rw [← List.length_pos_iff] at h; exact h)⟩
 unfold t6 at h ⊢
 by_cases h1 : s.take 2 ∈ L6
 ·rw [if_pos h1, List.take_take, Nat.min_self, if_pos h1]
 ·rw [if_neg h1] at h ⊢
  by_cases h2 : s.head?.all (X9.contains ·) = true
  ·rw [if_pos h2] at h ⊢
   cases s with
   | nil => simp at h
   | cons c r =>
    have hc : ([c] : List UInt8).take 2 ∉ L6 := by simp [L6]
    show (if [c].take 2 ∈ L6 then [c].take 2 else if ([c] : List UInt8).head?.all (X9.contains ·) = true then [c].take 1 else []) = [c]
    rw [if_neg hc, if_pos (show ([c] : List UInt8).head?.all (X9.contains ·) = true from h2)]
    rfl
  ·rw [if_neg h2] at h
   exact absurd rfl h
theorem a5w {α : Type} (p : α → Bool) : ∀ (l : List α) (n : Nat), (l.take n).takeWhile p = (l.takeWhile p).take ((l.take n).takeWhile p).length
 | [], n => by simp
 | x :: r, 0 => by simp
 | x :: r, n + 1 => by
  rw [List.take_succ_cons]
  by_cases h : p x = true
  ·rw [List.takeWhile_cons_of_pos h, List.takeWhile_cons_of_pos h, List.length_cons, List.take_succ_cons, ← a5w p r n]
  ·rw [List.takeWhile_cons_of_neg h]
   simp
theorem ag9 {s : List UInt8} {q n : Nat} {t : List UInt8} (h : o7 s = .ok (q, t, n)) : o7 t = .ok (q, t, n) := by
 have hok := V9 h
 unfold o7 at h
 split at h
 ·rename_i hc
  simp only [Except.ok.injEq, Prod.mk.injEq] at h
  obtain ⟨rfl, rfl, rfl⟩ := h
  unfold o7
  rw [a27, if_pos hc]
 ·rename_i hc
  split at h
  ·rename_i hd
   split at h
   ·rename_i h46
    simp only [Except.ok.injEq, Prod.mk.injEq] at h
    obtain ⟨rfl, rfl, rfl⟩ := h
    have hh : (s.takeWhile p7).head? = s.head? := by rw [hok.2.1]; exact a1J (List.length_pos_iff.2 hok.1)
    unfold o7
    rw [a2h (l := s.takeWhile p7) (p := p7) (by decide) (fun x hx => a0Z _ _ hx) o4, if_neg (by omega), hh, if_pos hd, a27, if_pos h46]
   ·split at h
    ·cases h
    ·rename_i h46 m hm
     simp only [Except.ok.injEq, Prod.mk.injEq] at h
     obtain ⟨rfl, rfl, rfl⟩ := h
     have hh : (s.takeWhile j9).head? = s.head? := by rw [hok.2.1]; exact a1J (List.length_pos_iff.2 hok.1)
     have h46' : ¬ 46 ∈ (s.takeWhile j9).takeWhile p7 := fun hm => by
      have h1 := (List.takeWhile_sublist p7).subset hm
      have := a0Z j9 s h1
      revert this
      decide
     unfold o7
     rw [a2h (l := s.takeWhile j9) (p := j9) (by decide) (fun x hx => a0Z _ _ hx) o4, if_neg (by omega), hh, if_pos hd, if_neg h46', a27, hm]
  ·rename_i hd
   split at h
   ·rename_i hl
    simp only [Except.ok.injEq, Prod.mk.injEq] at h
    obtain ⟨rfl, rfl, rfl⟩ := h
    have hh : (s.takeWhile j9).head? = s.head? := by rw [hok.2.1]; exact a1J (List.length_pos_iff.2 hok.1)
    unfold o7
    rw [a2h (l := s.takeWhile j9) (p := j9) (by decide) (fun x hx => a0Z _ _ hx) o4, if_neg (by omega), hh, if_neg hd, if_pos hl, a27]
   ·rename_i hl
    split at h
    ·cases h
    ·rename_i hs
     simp only [Except.ok.injEq, Prod.mk.injEq] at h
     obtain ⟨rfl, rfl, rfl⟩ := h
     obtain ⟨e1, e2⟩ := af2 hs
     have hc' : ¬ 2 ≤ ((t6 s).takeWhile o4).count 58 := by
      have hsub : (t6 s).takeWhile o4 = (s.takeWhile o4).take ((t6 s).takeWhile o4).length := by
       have := a25 hs
       rw [this.1]
       exact a5w o4 s _
      intro hge
      apply hc
      rw [hsub] at hge
      exact Nat.le_trans hge ((List.take_sublist _ _).count_le 58)
     unfold o7
     rw [if_neg hc', e2, if_neg hd, if_neg hl, e1, if_neg hs]

end Go.Proofs.YtlfmddjppejmaaaGreatDoor
