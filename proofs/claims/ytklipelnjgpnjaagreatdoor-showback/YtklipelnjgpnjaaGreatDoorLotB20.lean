import Derived.Test.YtklipelnjgpnjaaGreatDoorLotB19
import Derived.Test.YtklipelnjgpnjaaGreatDoorLotB6
namespace Go.Proofs.YtklipelnjgpnjaaGreatDoor
open Go.RowKit
set_option maxRecDepth 100000

section
variable {Q : Nat → Nat → Prop}
end
def lpB (t : Tk) : Prop := t.kind = 5 ∧ t.text = [40]
theorem a4Y {t : Tk} (h : lpB t) (r : List Tk) (x : List UInt8) : isB (t :: r) x = decide (x = [40]) := by
 show ((t.kind == 5 || t.kind == 2) && t.text == x) = _
 rw [h.1, h.2]
 by_cases hx : x = [40]
 ·subst hx; rfl
 ·rw [decide_eq_false hx]
  simp only [BEq.rfl, Bool.true_or, Bool.true_and, beq_eq_false_iff_ne, ne_eq]
  exact fun e => hx e.symm
theorem aE2 {t : Tk} (h : lpB t) (rec : Nat → List Tk → Out) (nest : Nat) (r : List Tk) : D4 rec nest (t :: r) = B5 nest (t :: r) (d7 (rec (nest + 1) r) fun p => d7 (p9 [41] p.2) fun q => .ok (p.1, q)) := by
 unfold D4
 rw [if_neg (by show ¬ t.kind = 1; rw [h.1]; decide), if_pos (by rw [a4Y h]; rfl)]
 rfl
theorem b0s {f k nest : Nat} {ts r : List Tk} {ns : List (Nd × Nat)} (hk : k ≠ 3 ∧ k ≠ 11 ∧ k ≠ 12) (ho : opT k r = none) (h : d6 f (k + 1) nest ts = .ok (ns, r)) : d6 (f + 1) k nest ts = .ok (ns, r) := by
 rw [N0]
 unfold N6
 rw [if_neg (by omega), if_neg (by omega), if_neg (by omega), if_neg hk.2.2, h]
 show A9 _ k r.length ns r = _
 cases r.length with
 | zero => rfl
 | succ n => unfold A9; rw [ho]
theorem a6Y {f nest : Nat} {ts : List Tk} : d6 (f + 1) 12 nest ts = D4 (d6 f 1) nest ts := by
 rw [N0]
 unfold N6
 rw [if_neg (by omega), if_neg (by omega), if_neg (by omega), if_pos rfl]
theorem a8X : ∀ (d : List UInt8) (v n : Nat), v ≤ 4294967295 → a2u v d = some n → n ≤ 4294967295
 | [], v, n, hv, h => by
  simp only [a2u, Option.some.injEq] at h
  omega
 | c :: r, v, n, hv, h => by
  unfold a2u at h
  split at h
  ·split at h
   ·cases h
   ·exact a8X r _ n (by omega) h
  ·cases h
theorem a57 {s : List UInt8} {n : Nat} (h : a0P s = some n) : n ≤ 4294967295 := by
 unfold a0P at h
 split at h
 ·exact a8X _ 0 n (by omega) h
 ·unfold D2 at h
  split at h
  ·cases h
  ·exact a6N 0 s n (by omega) h
theorem a5p {s : List UInt8} (h : L6 s ≠ []) : L6 s = s.take (L6 s).length ∧ (L6 s).length ≤ s.length := by
 unfold L6 at h ⊢
 by_cases h1 : s.take 2 ∈ L0
 ·rw [if_pos h1]
  have hl : (s.take 2).length = 2 := by
   simp only [L0, List.mem_cons, List.not_mem_nil, or_false] at h1
   rcases h1 with e | e | e | e | e | e | e | e <;> rw [e] <;> rfl
  rw [hl]
  refine ⟨rfl, ?_⟩
  rw [List.length_take] at hl
  omega
 ·rw [if_neg h1] at h ⊢
  by_cases h2 : s.head?.all (a0Q.contains ·) = true
  ·rw [if_pos h2] at h ⊢
   cases s with
   | nil => simp at h
   | cons c r => exact ⟨by simp, by simp⟩
  ·rw [if_neg h2] at h
   exact absurd rfl h
theorem Z9 {s : List UInt8} {q n : Nat} {t : List UInt8} (h : k8 s = .ok (q, t, n)) : t ≠ [] ∧ t = s.take t.length ∧ t.length ≤ s.length ∧ 1 ≤ q ∧ q ≤ 5 ∧ n ≤ 4294967295 := by
 unfold k8 at h
 split at h
 ·rename_i hc
  simp only [Except.ok.injEq, Prod.mk.injEq] at h
  obtain ⟨rfl, rfl, rfl⟩ := h
  refine ⟨fun e => ?_, a4f _ _, a2Q _ _, by omega, by omega, by omega⟩
  rw [e] at hc
  simp at hc
 ·split at h
  ·rename_i hd
   have hne : (s.takeWhile l0) ≠ [] := by
    cases s with
    | nil => simp at hd
    | cons c r =>
     have hc : D8 c = true := by simpa using hd
     obtain ⟨u, e⟩ := ae5 l0 c r (by simp [l0, hc])
     rw [e]
     simp
   split at h
   ·rename_i h46
    simp only [Except.ok.injEq, Prod.mk.injEq] at h
    obtain ⟨rfl, rfl, rfl⟩ := h
    refine ⟨fun e => ?_, a4f _ _, a2Q _ _, by omega, by omega, by omega⟩
    rw [e] at h46
    simp at h46
   ·split at h
    ·cases h
    ·rename_i m hm
     simp only [Except.ok.injEq, Prod.mk.injEq] at h
     obtain ⟨rfl, rfl, rfl⟩ := h
     exact ⟨hne, a4f _ _, a2Q _ _, by omega, by omega, a57 hm⟩
  ·split at h
   ·rename_i hl
    simp only [Except.ok.injEq, Prod.mk.injEq] at h
    obtain ⟨rfl, rfl, rfl⟩ := h
    refine ⟨?_, a4f _ _, a2Q _ _, by omega, by omega, by omega⟩
    cases s with
    | nil => simp at hl
    | cons c r =>
     have hc : a0j c = true := by simpa using hl
     obtain ⟨u, e⟩ := ae5 l0 c r (by simp [l0, hc])
     rw [e]
     simp
   ·split at h
    ·cases h
    ·rename_i hs
     simp only [Except.ok.injEq, Prod.mk.injEq] at h
     obtain ⟨rfl, rfl, rfl⟩ := h
     exact ⟨hs, (a5p hs).1, (a5p hs).2, by omega, by omega, by omega⟩
theorem a60 {l : List UInt8} {p : UInt8 → Bool} (hp : p 58 = false) (h : ∀ x ∈ l, p x = true) (r : UInt8 → Bool) : (l.takeWhile r).count 58 = 0 := by
 rw [List.count_eq_zero]
 intro hm
 have h1 : (58 : UInt8) ∈ l := (List.takeWhile_sublist r).subset hm
 have := h 58 h1
 rw [hp] at this
 cases this
theorem a4N {s : List UInt8} {n : Nat} (hn : 0 < n) : (s.take n).head? = s.head? := by
 cases s with
 | nil => simp
 | cons c r =>
  cases n with
  | zero => omega
  | succ n => rfl
theorem aW2 {s : List UInt8} (h : L6 s ≠ []) : L6 (L6 s) = L6 s ∧ (L6 s).head? = s.head? := by
 have hl := a5p h
 refine ⟨?_, by rw [hl.1]; exact a4N (by rw [← List.length_pos_iff] at h; exact h)⟩
 unfold L6 at h ⊢
 by_cases h1 : s.take 2 ∈ L0
 ·rw [if_pos h1, List.take_take, Nat.min_self, if_pos h1]
 ·rw [if_neg h1] at h ⊢
  by_cases h2 : s.head?.all (a0Q.contains ·) = true
  ·rw [if_pos h2] at h ⊢
   cases s with
   | nil => simp at h
   | cons c r =>
    have hc : ([c] : List UInt8).take 2 ∉ L0 := by simp [L0]
    show (if [c].take 2 ∈ L0 then [c].take 2 else if ([c] : List UInt8).head?.all (a0Q.contains ·) = true then [c].take 1 else []) = [c]
    rw [if_neg hc, if_pos (show ([c] : List UInt8).head?.all (a0Q.contains ·) = true from h2)]
    rfl
  ·rw [if_neg h2] at h
   exact absurd rfl h
theorem ae6 {α : Type} (p : α → Bool) : ∀ (l : List α) (n : Nat), (l.take n).takeWhile p = (l.takeWhile p).take ((l.take n).takeWhile p).length
 | [], n => by simp
 | x :: r, 0 => by simp
 | x :: r, n + 1 => by
  rw [List.take_succ_cons]
  by_cases h : p x = true
  ·rw [List.takeWhile_cons_of_pos h, List.takeWhile_cons_of_pos h, List.length_cons, List.take_succ_cons, ← ae6 p r n]
  ·rw [List.takeWhile_cons_of_neg h]
   simp
theorem b04 {s : List UInt8} {q n : Nat} {t : List UInt8} (h : k8 s = .ok (q, t, n)) : k8 t = .ok (q, t, n) := by
 have hok := Z9 h
 unfold k8 at h
 split at h
 ·rename_i hc
  simp only [Except.ok.injEq, Prod.mk.injEq] at h
  obtain ⟨rfl, rfl, rfl⟩ := h
  unfold k8
  rw [a5u, if_pos hc]
 ·rename_i hc
  split at h
  ·rename_i hd
   split at h
   ·rename_i h46
    simp only [Except.ok.injEq, Prod.mk.injEq] at h
    obtain ⟨rfl, rfl, rfl⟩ := h
    have hh : (s.takeWhile t8).head? = s.head? := by rw [hok.2.1]; exact a4N (List.length_pos_iff.2 hok.1)
    unfold k8
    rw [a60 (l := s.takeWhile t8) (p := t8) (by decide) (fun x hx => a3A _ _ hx) k6, if_neg (by omega), hh, if_pos hd, a5u, if_pos h46]
   ·split at h
    ·cases h
    ·rename_i h46 m hm
     simp only [Except.ok.injEq, Prod.mk.injEq] at h
     obtain ⟨rfl, rfl, rfl⟩ := h
     have hh : (s.takeWhile l0).head? = s.head? := by rw [hok.2.1]; exact a4N (List.length_pos_iff.2 hok.1)
     have h46' : ¬ 46 ∈ (s.takeWhile l0).takeWhile t8 := fun hm => by
      have h1 := (List.takeWhile_sublist t8).subset hm
      have := a3A l0 s h1
      revert this
      decide
     unfold k8
     rw [a60 (l := s.takeWhile l0) (p := l0) (by decide) (fun x hx => a3A _ _ hx) k6, if_neg (by omega), hh, if_pos hd, if_neg h46', a5u, hm]
  ·rename_i hd
   split at h
   ·rename_i hl
    simp only [Except.ok.injEq, Prod.mk.injEq] at h
    obtain ⟨rfl, rfl, rfl⟩ := h
    have hh : (s.takeWhile l0).head? = s.head? := by rw [hok.2.1]; exact a4N (List.length_pos_iff.2 hok.1)
    unfold k8
    rw [a60 (l := s.takeWhile l0) (p := l0) (by decide) (fun x hx => a3A _ _ hx) k6, if_neg (by omega), hh, if_neg hd, if_pos hl, a5u]
   ·rename_i hl
    split at h
    ·cases h
    ·rename_i hs
     simp only [Except.ok.injEq, Prod.mk.injEq] at h
     obtain ⟨rfl, rfl, rfl⟩ := h
     obtain ⟨e1, e2⟩ := aW2 hs
     have hc' : ¬ 2 ≤ ((L6 s).takeWhile k6).count 58 := by
      have hsub : (L6 s).takeWhile k6 = (s.takeWhile k6).take ((L6 s).takeWhile k6).length := by
       have := a5p hs
       rw [this.1]
       exact ae6 k6 s _
      intro hge
      apply hc
      rw [hsub] at hge
      exact Nat.le_trans hge ((List.take_sublist _ _).count_le 58)
     unfold k8
     rw [if_neg hc', e2, if_neg hd, if_neg hl, e1, if_neg hs]
theorem a6A : ∀ (k k' p : Nat) (s : List UInt8), s.length ≤ k → s.length ≤ k' → a1i k p s = a1i k' p s
 | 0, k', p, s, h, h' => by
  have : s = [] := List.eq_nil_of_length_eq_zero (by omega)
  subst this
  cases k' <;> rfl
 | k + 1, 0, p, s, h, h' => by
  have : s = [] := List.eq_nil_of_length_eq_zero (by omega)
  subst this
  rfl
 | k + 1, k' + 1, p, [], _, _ => rfl
 | k + 1, k' + 1, p, c :: r, h, h' => by
  simp only [List.length_cons] at h h'
  rw [a1i, a1i]
  split
  ·exact a6A k k' (p + 1) r (by omega) (by omega)
  ·split
   ·rfl
   ·rename_i q t n ht
    have hl := List.length_pos_iff.2 (Z9 ht).1
    rw [a6A k k' (p + t.length) ((c :: r).drop t.length) (by rw [List.length_drop, List.length_cons]; omega) (by rw [List.length_drop, List.length_cons]; omega)]
theorem a3W (p : Nat) : N8 p [] = .ok [⟨0, p, [], 0⟩] := rfl
theorem a3e (p : Nat) {c : UInt8} (r : List UInt8) (h : I8 c = true) : N8 p (c :: r) = N8 (p + 1) r := by
 unfold N8
 rw [List.length_cons, a1i, if_pos h]
theorem a3V (p : Nat) {c : UInt8} {r : List UInt8} {e : Int} (h : I8 c = false) (ht : k8 (c :: r) = .error e) : N8 p (c :: r) = .error (p, e) := by
 unfold N8
 rw [List.length_cons, a1i, if_neg (by rw [h]; simp), ht]
theorem a3f (p : Nat) {c : UInt8} {r : List UInt8} {q n : Nat} {t : List UInt8} (h : I8 c = false) (ht : k8 (c :: r) = .ok (q, t, n)) :
  N8 p (c :: r) = match N8 (p + t.length) ((c :: r).drop t.length) with
   | .error e => .error e
   | .ok ts => .ok (⟨q, p, t, n⟩ :: ts) := by
 have hl := List.length_pos_iff.2 (Z9 ht).1
 unfold N8
 rw [List.length_cons, a1i, if_neg (by rw [h]; simp), ht]
 simp only
 rw [a6A r.length ((c :: r).drop t.length).length _ _ (by rw [List.length_drop, List.length_cons]; omega) (Nat.le_refl _)]
 cases a1i ((c :: r).drop t.length).length (p + t.length) ((c :: r).drop t.length) <;> rfl
theorem aC0 (p : Nat) : ∀ (bs r : List UInt8), (∀ b ∈ bs, I8 b = true) → N8 p (bs ++ r) = N8 (p + bs.length) r := by
 intro bs
 induction bs generalizing p with
 | nil => intro r _; rfl
 | cons b bs ih =>
  intro r h
  rw [List.cons_append, a3e p _ (h b (List.mem_cons_self ..)), ih (p + 1) r (fun x hx => h x (List.mem_cons_of_mem _ hx)), List.length_cons, show p + 1 + bs.length = p + (bs.length + 1) by omega]
theorem a6C : ∀ (k p : Nat) (s : List UInt8) (ts : List Tk), s.length ≤ k → N8 p s = .ok ts → ∃ us, ts = us ++ [⟨0, p + s.length, [], 0⟩] ∧ ∀ t ∈ us, t.text ≠ [] ∧ k8 t.text = .ok (t.kind, t.text, t.num)
 | k, p, [], ts, _, h => by
  rw [a3W] at h
  cases h
  exact ⟨[], rfl, fun t ht => by cases ht⟩
 | 0, p, c :: r, ts, hk, h => by simp at hk
 | k + 1, p, c :: r, ts, hk, h => by
  simp only [List.length_cons] at hk
  cases hb : I8 c with
  | true =>
   rw [a3e p r hb] at h
   obtain ⟨us, e, hu⟩ := a6C k (p + 1) r ts (by omega) h
   exact ⟨us, by rw [e, List.length_cons, show p + 1 + r.length = p + (r.length + 1) by omega], hu⟩
  | false =>
   cases ht : k8 (c :: r) with
   | error e => rw [a3V p hb ht] at h; cases h
   | ok x =>
    obtain ⟨q, t, n⟩ := x
    rw [a3f p hb ht] at h
    have hok := Z9 ht
    have hl := List.length_pos_iff.2 hok.1
    split at h
    ·cases h
    ·rename_i ts' h'
     cases h
     obtain ⟨us, e, hu⟩ := a6C k (p + t.length) ((c :: r).drop t.length) ts' (by rw [List.length_drop, List.length_cons]; omega) h'
     refine ⟨⟨q, p, t, n⟩ :: us, ?_, fun x hx => ?_⟩
     ·rw [e, List.cons_append]
      have := hok.2.2.1
      rw [List.length_drop, show p + t.length + ((c :: r).length - t.length) = p + (c :: r).length by omega]
     ·rcases List.mem_cons.1 hx with rfl | hx
      ·exact ⟨hok.1, b04 ht⟩
      ·exact hu x hx

end Go.Proofs.YtklipelnjgpnjaaGreatDoor
