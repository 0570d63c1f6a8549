import Derived.Test.YtklipelnjgpnjaaGreatDoorLotS17
import Derived.Test.YtklipelnjgpnjaaGreatDoorLotS6
namespace Go.Proofs.YtklipelnjgpnjaaGreatDoor
open Go.RowKit
set_option maxRecDepth 100000

section
variable {Q : Nat → Nat → Prop}
end
def lpB (t : Tk) : Prop := t.kind = 5 ∧ t.text = [40]
theorem a4S {t : Tk} (h : lpB t) (r : List Tk) (x : List UInt8) : isB (t :: r) x = decide (x = [40]) := by
 show ((t.kind == 5 || t.kind == 2) && t.text == x) = _
 rw [h.1, h.2]
 by_cases hx : x = [40]
 ·subst hx; rfl
 ·rw [decide_eq_false hx]
  simp only [BEq.rfl, Bool.true_or, Bool.true_and, beq_eq_false_iff_ne, ne_eq]
  exact fun e => hx e.symm
theorem aD4 {t : Tk} (h : lpB t) (rec : Nat → List Tk → Out) (nest : Nat) (r : List Tk) : s9 rec nest (t :: r) = y0 nest (t :: r) (d7 (rec (nest + 1) r) fun p => d7 (m9 [41] p.2) fun q => .ok (p.1, q)) := by
 unfold s9
 rw [if_neg (by show ¬ t.kind = 1; rw [h.1]; decide), if_pos (by rw [a4S h]; rfl)]
 rfl
theorem b0u {f k nest : Nat} {ts r : List Tk} {ns : List (Nd × Nat)} (hk : k ≠ 3 ∧ k ≠ 11 ∧ k ≠ 12) (ho : opT k r = none) (h : d6 f (k + 1) nest ts = .ok (ns, r)) : d6 (f + 1) k nest ts = .ok (ns, r) := by
 rw [J9]
 unfold L0
 rw [if_neg (by omega), if_neg (by omega), if_neg (by omega), if_neg hk.2.2, h]
 show q9 _ k r.length ns r = _
 cases r.length with
 | zero => rfl
 | succ n => unfold q9; rw [ho]
theorem a6V {f nest : Nat} {ts : List Tk} : d6 (f + 1) 12 nest ts = s9 (d6 f 1) nest ts := by
 rw [J9]
 unfold L0
 rw [if_neg (by omega), if_neg (by omega), if_neg (by omega), if_pos rfl]
theorem a8V : ∀ (d : List UInt8) (v n : Nat), v ≤ 4294967295 → a2v v d = some n → n ≤ 4294967295
 | [], v, n, hv, h => by
  simp only [a2v, Option.some.injEq] at h
  omega
 | c :: r, v, n, hv, h => by
  unfold a2v at h
  split at h
  ·split at h
   ·cases h
   ·exact a8V r _ n (by omega) h
  ·cases h
theorem a52 {s : List UInt8} {n : Nat} (h : a0Q s = some n) : n ≤ 4294967295 := by
 unfold a0Q at h
 split at h
 ·exact a8V _ 0 n (by omega) h
 ·unfold A9 at h
  split at h
  ·cases h
  ·exact a6H 0 s n (by omega) h
theorem a5n {s : List UInt8} (h : K0 s ≠ []) : K0 s = s.take (K0 s).length ∧ (K0 s).length ≤ s.length := by
 unfold K0 at h ⊢
 by_cases h1 : s.take 2 ∈ J6
 ·rw [if_pos h1]
  have hl : (s.take 2).length = 2 := by
   simp only [J6, List.mem_cons, List.not_mem_nil, or_false] at h1
   rcases h1 with e | e | e | e | e | e | e | e <;> rw [e] <;> rfl
  rw [hl]
  refine ⟨rfl, ?_⟩
  rw [List.length_take] at hl
  omega
 ·rw [if_neg h1] at h ⊢
  by_cases h2 : s.head?.all (a0R.contains ·) = true
  ·rw [if_pos h2] at h ⊢
   cases s with
   | nil => simp at h
   | cons c r => exact ⟨by simp, by simp⟩
  ·rw [if_neg h2] at h
   exact absurd rfl h
theorem Z2 {s : List UInt8} {q n : Nat} {t : List UInt8} (h : j9 s = .ok (q, t, n)) : t ≠ [] ∧ t = s.take t.length ∧ t.length ≤ s.length ∧ 1 ≤ q ∧ q ≤ 5 ∧ n ≤ 4294967295 := by
 unfold j9 at h
 split at h
 ·rename_i hc
  simp only [Except.ok.injEq, Prod.mk.injEq] at h
  obtain ⟨rfl, rfl, rfl⟩ := h
  refine ⟨fun e => ?_, a4d _ _, a2P _ _, by omega, by omega, by omega⟩
  rw [e] at hc
  simp at hc
 ·split at h
  ·rename_i hd
   have hne : (s.takeWhile k6) ≠ [] := by
    cases s with
    | nil => simp at hd
    | cons c r =>
     have hc : D3 c = true := by simpa using hd
     obtain ⟨u, e⟩ := ad7 k6 c r (by simp [k6, hc])
     rw [e]
     simp
   split at h
   ·rename_i h46
    simp only [Except.ok.injEq, Prod.mk.injEq] at h
    obtain ⟨rfl, rfl, rfl⟩ := h
    refine ⟨fun e => ?_, a4d _ _, a2P _ _, by omega, by omega, by omega⟩
    rw [e] at h46
    simp at h46
   ·split at h
    ·cases h
    ·rename_i m hm
     simp only [Except.ok.injEq, Prod.mk.injEq] at h
     obtain ⟨rfl, rfl, rfl⟩ := h
     exact ⟨hne, a4d _ _, a2P _ _, by omega, by omega, a52 hm⟩
  ·split at h
   ·rename_i hl
    simp only [Except.ok.injEq, Prod.mk.injEq] at h
    obtain ⟨rfl, rfl, rfl⟩ := h
    refine ⟨?_, a4d _ _, a2P _ _, by omega, by omega, by omega⟩
    cases s with
    | nil => simp at hl
    | cons c r =>
     have hc : a0l c = true := by simpa using hl
     obtain ⟨u, e⟩ := ad7 k6 c r (by simp [k6, hc])
     rw [e]
     simp
   ·split at h
    ·cases h
    ·rename_i hs
     simp only [Except.ok.injEq, Prod.mk.injEq] at h
     obtain ⟨rfl, rfl, rfl⟩ := h
     exact ⟨hs, (a5n hs).1, (a5n hs).2, by omega, by omega, by omega⟩
theorem a5V {l : List UInt8} {p : UInt8 → Bool} (hp : p 58 = false) (h : ∀ x ∈ l, p x = true) (r : UInt8 → Bool) : (l.takeWhile r).count 58 = 0 := by
 rw [List.count_eq_zero]
 intro hm
 have h1 : (58 : UInt8) ∈ l := (List.takeWhile_sublist r).subset hm
 have := h 58 h1
 rw [hp] at this
 cases this
theorem a4I {s : List UInt8} {n : Nat} (hn : 0 < n) : (s.take n).head? = s.head? := by
 cases s with
 | nil => simp
 | cons c r =>
  cases n with
  | zero => omega
  | succ n => rfl
theorem aW2 {s : List UInt8} (h : K0 s ≠ []) : K0 (K0 s) = K0 s ∧ (K0 s).head? = s.head? := by
 have hl := a5n h
 refine ⟨?_, by rw [hl.1]; exact a4I (by rw [← List.length_pos_iff] at h; exact h)⟩
 unfold K0 at h ⊢
 by_cases h1 : s.take 2 ∈ J6
 ·rw [if_pos h1, List.take_take, Nat.min_self, if_pos h1]
 ·rw [if_neg h1] at h ⊢
  by_cases h2 : s.head?.all (a0R.contains ·) = true
  ·rw [if_pos h2] at h ⊢
   cases s with
   | nil => simp at h
   | cons c r =>
    have hc : ([c] : List UInt8).take 2 ∉ J6 := by simp [J6]
    show (if [c].take 2 ∈ J6 then [c].take 2 else if ([c] : List UInt8).head?.all (a0R.contains ·) = true then [c].take 1 else []) = [c]
    rw [if_neg hc, if_pos (show ([c] : List UInt8).head?.all (a0R.contains ·) = true from h2)]
    rfl
  ·rw [if_neg h2] at h
   exact absurd rfl h
theorem ad8 {α : Type} (p : α → Bool) : ∀ (l : List α) (n : Nat), (l.take n).takeWhile p = (l.takeWhile p).take ((l.take n).takeWhile p).length
 | [], n => by simp
 | x :: r, 0 => by simp
 | x :: r, n + 1 => by
  rw [List.take_succ_cons]
  by_cases h : p x = true
  ·rw [List.takeWhile_cons_of_pos h, List.takeWhile_cons_of_pos h, List.length_cons, List.take_succ_cons, ← ad8 p r n]
  ·rw [List.takeWhile_cons_of_neg h]
   simp
theorem b06 {s : List UInt8} {q n : Nat} {t : List UInt8} (h : j9 s = .ok (q, t, n)) : j9 t = .ok (q, t, n) := by
 have hok := Z2 h
 unfold j9 at h
 split at h
 ·rename_i hc
  simp only [Except.ok.injEq, Prod.mk.injEq] at h
  obtain ⟨rfl, rfl, rfl⟩ := h
  unfold j9
  rw [a5s, if_pos hc]
 ·rename_i hc
  split at h
  ·rename_i hd
   split at h
   ·rename_i h46
    simp only [Except.ok.injEq, Prod.mk.injEq] at h
    obtain ⟨rfl, rfl, rfl⟩ := h
    have hh : (s.takeWhile t8).head? = s.head? := by rw [hok.2.1]; exact a4I (List.length_pos_iff.2 hok.1)
    unfold j9
    rw [a5V (l := s.takeWhile t8) (p := t8) (by decide) (fun x hx => a3z _ _ hx) j8, if_neg (by omega), hh, if_pos hd, a5s, if_pos h46]
   ·split at h
    ·cases h
    ·rename_i h46 m hm
     simp only [Except.ok.injEq, Prod.mk.injEq] at h
     obtain ⟨rfl, rfl, rfl⟩ := h
     have hh : (s.takeWhile k6).head? = s.head? := by rw [hok.2.1]; exact a4I (List.length_pos_iff.2 hok.1)
     have h46' : ¬ 46 ∈ (s.takeWhile k6).takeWhile t8 := fun hm => by
      have h1 := (List.takeWhile_sublist t8).subset hm
      have := a3z k6 s h1
      revert this
      decide
     unfold j9
     rw [a5V (l := s.takeWhile k6) (p := k6) (by decide) (fun x hx => a3z _ _ hx) j8, if_neg (by omega), hh, if_pos hd, if_neg h46', a5s, hm]
  ·rename_i hd
   split at h
   ·rename_i hl
    simp only [Except.ok.injEq, Prod.mk.injEq] at h
    obtain ⟨rfl, rfl, rfl⟩ := h
    have hh : (s.takeWhile k6).head? = s.head? := by rw [hok.2.1]; exact a4I (List.length_pos_iff.2 hok.1)
    unfold j9
    rw [a5V (l := s.takeWhile k6) (p := k6) (by decide) (fun x hx => a3z _ _ hx) j8, if_neg (by omega), hh, if_neg hd, if_pos hl, a5s]
   ·rename_i hl
    split at h
    ·cases h
    ·rename_i hs
     simp only [Except.ok.injEq, Prod.mk.injEq] at h
     obtain ⟨rfl, rfl, rfl⟩ := h
     obtain ⟨e1, e2⟩ := aW2 hs
     have hc' : ¬ 2 ≤ ((K0 s).takeWhile j8).count 58 := by
      have hsub : (K0 s).takeWhile j8 = (s.takeWhile j8).take ((K0 s).takeWhile j8).length := by
       have := a5n hs
       rw [this.1]
       exact ad8 j8 s _
      intro hge
      apply hc
      rw [hsub] at hge
      exact Nat.le_trans hge ((List.take_sublist _ _).count_le 58)
     unfold j9
     rw [if_neg hc', e2, if_neg hd, if_neg hl, e1, if_neg hs]
theorem a6u : ∀ (k k' p : Nat) (s : List UInt8), s.length ≤ k → s.length ≤ k' → a1k k p s = a1k k' p s
 | 0, k', p, s, h, h' => by
  have : s = [] := List.eq_nil_of_length_eq_zero (by omega)
  subst this
  cases k' <;> rfl
 | k + 1, 0, p, s, h, h' => by
  have : s = [] := List.eq_nil_of_length_eq_zero (by omega)
  subst this
  rfl
 | k + 1, k' + 1, p, [], _, _ => rfl
 | k + 1, k' + 1, p, c :: r, h, h' => by
  simp only [List.length_cons] at h h'
  rw [a1k, a1k]
  split
  ·exact a6u k k' (p + 1) r (by omega) (by omega)
  ·split
   ·rfl
   ·rename_i q t n ht
    have hl := List.length_pos_iff.2 (Z2 ht).1
    rw [a6u k k' (p + t.length) ((c :: r).drop t.length) (by rw [List.length_drop, List.length_cons]; omega) (by rw [List.length_drop, List.length_cons]; omega)]
theorem a3W (p : Nat) : M9 p [] = .ok [⟨0, p, [], 0⟩] := rfl
theorem a3c (p : Nat) {c : UInt8} (r : List UInt8) (h : I3 c = true) : M9 p (c :: r) = M9 (p + 1) r := by
 unfold M9
 rw [List.length_cons, a1k, if_pos h]
theorem a3V (p : Nat) {c : UInt8} {r : List UInt8} {e : Int} (h : I3 c = false) (ht : j9 (c :: r) = .error e) : M9 p (c :: r) = .error (p, e) := by
 unfold M9
 rw [List.length_cons, a1k, if_neg (by rw [h]; simp), ht]
theorem a3d (p : Nat) {c : UInt8} {r : List UInt8} {q n : Nat} {t : List UInt8} (h : I3 c = false) (ht : j9 (c :: r) = .ok (q, t, n)) :
  M9 p (c :: r) = match M9 (p + t.length) ((c :: r).drop t.length) with
   | .error e => .error e
   | .ok ts => .ok (⟨q, p, t, n⟩ :: ts) := by
 have hl := List.length_pos_iff.2 (Z2 ht).1
 unfold M9
 rw [List.length_cons, a1k, if_neg (by rw [h]; simp), ht]
 simp only
 rw [a6u r.length ((c :: r).drop t.length).length _ _ (by rw [List.length_drop, List.length_cons]; omega) (Nat.le_refl _)]
 cases a1k ((c :: r).drop t.length).length (p + t.length) ((c :: r).drop t.length) <;> rfl
theorem aB4 (p : Nat) : ∀ (bs r : List UInt8), (∀ b ∈ bs, I3 b = true) → M9 p (bs ++ r) = M9 (p + bs.length) r := by
 intro bs
 induction bs generalizing p with
 | nil => intro r _; rfl
 | cons b bs ih =>
  intro r h
  rw [List.cons_append, a3c p _ (h b (List.mem_cons_self ..)), ih (p + 1) r (fun x hx => h x (List.mem_cons_of_mem _ hx)), List.length_cons, show p + 1 + bs.length = p + (bs.length + 1) by omega]
theorem a4P : ∀ (k p : Nat) (s : List UInt8) (ts : List Tk), s.length ≤ k → M9 p s = .ok ts → ∃ us, ts = us ++ [⟨0, p + s.length, [], 0⟩] ∧ ∀ t ∈ us, t.text ≠ [] ∧ j9 t.text = .ok (t.kind, t.text, t.num)
 | k, p, [], ts, _, h => by
  rw [a3W] at h
  cases h
  exact ⟨[], rfl, fun t ht => by cases ht⟩
 | 0, p, c :: r, ts, hk, h => by simp at hk
 | k + 1, p, c :: r, ts, hk, h => by
  simp only [List.length_cons] at hk
  cases hb : I3 c with
  | true =>
   rw [a3c p r hb] at h
   obtain ⟨us, e, hu⟩ := a4P k (p + 1) r ts (by omega) h
   exact ⟨us, by rw [e, List.length_cons, show p + 1 + r.length = p + (r.length + 1) by omega], hu⟩
  | false =>
   cases ht : j9 (c :: r) with
   | error e => rw [a3V p hb ht] at h; cases h
   | ok x =>
    obtain ⟨q, t, n⟩ := x
    rw [a3d p hb ht] at h
    have hok := Z2 ht
    have hl := List.length_pos_iff.2 hok.1
    split at h
    ·cases h
    ·rename_i ts' h'
     cases h
     obtain ⟨us, e, hu⟩ := a4P k (p + t.length) ((c :: r).drop t.length) ts' (by rw [List.length_drop, List.length_cons]; omega) h'
     refine ⟨⟨q, p, t, n⟩ :: us, ?_, fun x hx => ?_⟩
     ·rw [e, List.cons_append]
      have := hok.2.2.1
      rw [List.length_drop, show p + t.length + ((c :: r).length - t.length) = p + (c :: r).length by omega]
     ·rcases List.mem_cons.1 hx with rfl | hx
      ·exact ⟨hok.1, b06 ht⟩
      ·exact hu x hx

end Go.Proofs.YtklipelnjgpnjaaGreatDoor
