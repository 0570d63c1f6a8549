import Derived.Test.YtklipelnjgpnjaaGreatDoorLotN12
import Derived.Test.YtklipelnjgpnjaaGreatDoorLotN2
import Derived.Test.YtklipelnjgpnjaaGreatDoorLotN11
namespace Go.Proofs.YtklipelnjgpnjaaGreatDoor
open Go.RowKit
set_option maxRecDepth 100000

section
variable {Q : Nat → Nat → Prop}
end
theorem a8s : ∀ (d : List UInt8) (v n : Nat), v ≤ 4294967295 → a2a v d = some n → n ≤ 4294967295
 | [], v, n, hv, h => by
  simp only [a2a, Option.some.injEq] at h
  omega
 | c :: r, v, n, hv, h => by
  unfold a2a at h
  split at h
  ·split at h
   ·cases h
   ·exact a8s r _ n (by omega) h
  ·cases h
theorem a4A {s : List UInt8} {n : Nat} (h : a12 s = some n) : n ≤ 4294967295 := by
 unfold a12 at h
 split at h
 ·exact a8s _ 0 n (by omega) h
 ·unfold B5 at h
  split at h
  ·cases h
  ·exact a6g 0 s n (by omega) h
theorem a4M {s : List UInt8} (h : M5 s ≠ []) : M5 s = s.take (M5 s).length ∧ (M5 s).length ≤ s.length := by
 unfold M5 at h ⊢
 by_cases h1 : s.take 2 ∈ a1o
 ·rw [if_pos h1]
  have hl : (s.take 2).length = 2 := by
   simp only [a1o, List.mem_cons, List.not_mem_nil, or_false] at h1
   rcases h1 with e | e | e | e | e | e | e | e <;> rw [e] <;> rfl
  rw [hl]
  refine ⟨rfl, ?_⟩
  rw [List.length_take] at hl
  omega
 ·rw [if_neg h1] at h ⊢
  by_cases h2 : s.head?.all (a1N.contains ·) = true
  ·rw [if_pos h2] at h ⊢
   cases s with
   | nil => simp at h
   | cons c r => exact ⟨by simp, by simp⟩
  ·rw [if_neg h2] at h
   exact absurd rfl h
theorem a0l {s : List UInt8} {q n : Nat} {t : List UInt8} (h : o6 s = .ok (q, t, n)) : t ≠ [] ∧ t = s.take t.length ∧ t.length ≤ s.length ∧ 1 ≤ q ∧ q ≤ 5 ∧ n ≤ 4294967295 := by
 unfold o6 at h
 split at h
 ·rename_i hc
  simp only [Except.ok.injEq, Prod.mk.injEq] at h
  obtain ⟨rfl, rfl, rfl⟩ := h
  refine ⟨fun e => ?_, a3O _ _, a2C _ _, by omega, by omega, by omega⟩
  rw [e] at hc
  simp at hc
 ·split at h
  ·rename_i hd
   have hne : (s.takeWhile j9) ≠ [] := by
    cases s with
    | nil => simp at hd
    | cons c r =>
     have hc : H9 c = true := by simpa using hd
     obtain ⟨u, e⟩ := ab5 j9 c r (by simp [j9, hc])
     rw [e]
     simp
   split at h
   ·rename_i h46
    simp only [Except.ok.injEq, Prod.mk.injEq] at h
    obtain ⟨rfl, rfl, rfl⟩ := h
    refine ⟨fun e => ?_, a3O _ _, a2C _ _, by omega, by omega, by omega⟩
    rw [e] at h46
    simp at h46
   ·split at h
    ·cases h
    ·rename_i m hm
     simp only [Except.ok.injEq, Prod.mk.injEq] at h
     obtain ⟨rfl, rfl, rfl⟩ := h
     exact ⟨hne, a3O _ _, a2C _ _, by omega, by omega, a4A hm⟩
  ·split at h
   ·rename_i hl
    simp only [Except.ok.injEq, Prod.mk.injEq] at h
    obtain ⟨rfl, rfl, rfl⟩ := h
    refine ⟨?_, a3O _ _, a2C _ _, by omega, by omega, by omega⟩
    cases s with
    | nil => simp at hl
    | cons c r =>
     have hc : a0Y c = true := by simpa using hl
     obtain ⟨u, e⟩ := ab5 j9 c r (by simp [j9, hc])
     rw [e]
     simp
   ·split at h
    ·cases h
    ·rename_i hs
     simp only [Except.ok.injEq, Prod.mk.injEq] at h
     obtain ⟨rfl, rfl, rfl⟩ := h
     exact ⟨hs, (a4M hs).1, (a4M hs).2, by omega, by omega, by omega⟩
theorem a5p {l : List UInt8} {p : UInt8 → Bool} (hp : p 58 = false) (h : ∀ x ∈ l, p x = true) (r : UInt8 → Bool) : (l.takeWhile r).count 58 = 0 := by
 rw [List.count_eq_zero]
 intro hm
 have h1 : (58 : UInt8) ∈ l := (List.takeWhile_sublist r).subset hm
 have := h 58 h1
 rw [hp] at this
 cases this
theorem a4h {s : List UInt8} {n : Nat} (hn : 0 < n) : (s.take n).head? = s.head? := by
 cases s with
 | nil => simp
 | cons c r =>
  cases n with
  | zero => omega
  | succ n => rfl
theorem aT7 {s : List UInt8} (h : M5 s ≠ []) : M5 (M5 s) = M5 s ∧ (M5 s).head? = s.head? := by
 have hl := a4M h
 refine ⟨?_, by rw [hl.1]; exact a4h (by rw [← List.length_pos_iff] at h; exact h)⟩
 unfold M5 at h ⊢
 by_cases h1 : s.take 2 ∈ a1o
 ·rw [if_pos h1, List.take_take, Nat.min_self, if_pos h1]
 ·rw [if_neg h1] at h ⊢
  by_cases h2 : s.head?.all (a1N.contains ·) = true
  ·rw [if_pos h2] at h ⊢
   cases s with
   | nil => simp at h
   | cons c r =>
    have hc : ([c] : List UInt8).take 2 ∉ a1o := by simp [a1o]
    show (if [c].take 2 ∈ a1o then [c].take 2 else if ([c] : List UInt8).head?.all (a1N.contains ·) = true then [c].take 1 else []) = [c]
    rw [if_neg hc, if_pos (show ([c] : List UInt8).head?.all (a1N.contains ·) = true from h2)]
    rfl
  ·rw [if_neg h2] at h
   exact absurd rfl h
theorem ab6 {α : Type} (p : α → Bool) : ∀ (l : List α) (n : Nat), (l.take n).takeWhile p = (l.takeWhile p).take ((l.take n).takeWhile p).length
 | [], n => by simp
 | x :: r, 0 => by simp
 | x :: r, n + 1 => by
  rw [List.take_succ_cons]
  by_cases h : p x = true
  ·rw [List.takeWhile_cons_of_pos h, List.takeWhile_cons_of_pos h, List.length_cons, List.take_succ_cons, ← ab6 p r n]
  ·rw [List.takeWhile_cons_of_neg h]
   simp
theorem aX5 {s : List UInt8} {q n : Nat} {t : List UInt8} (h : o6 s = .ok (q, t, n)) : o6 t = .ok (q, t, n) := by
 have hok := a0l h
 unfold o6 at h
 split at h
 ·rename_i hc
  simp only [Except.ok.injEq, Prod.mk.injEq] at h
  obtain ⟨rfl, rfl, rfl⟩ := h
  unfold o6
  rw [a4Q, if_pos hc]
 ·rename_i hc
  split at h
  ·rename_i hd
   split at h
   ·rename_i h46
    simp only [Except.ok.injEq, Prod.mk.injEq] at h
    obtain ⟨rfl, rfl, rfl⟩ := h
    have hh : (s.takeWhile t8).head? = s.head? := by rw [hok.2.1]; exact a4h (List.length_pos_iff.2 hok.1)
    unfold o6
    rw [a5p (l := s.takeWhile t8) (p := t8) (by decide) (fun x hx => a2D _ _ hx) m7, if_neg (by omega), hh, if_pos hd, a4Q, if_pos h46]
   ·split at h
    ·cases h
    ·rename_i h46 m hm
     simp only [Except.ok.injEq, Prod.mk.injEq] at h
     obtain ⟨rfl, rfl, rfl⟩ := h
     have hh : (s.takeWhile j9).head? = s.head? := by rw [hok.2.1]; exact a4h (List.length_pos_iff.2 hok.1)
     have h46' : ¬ 46 ∈ (s.takeWhile j9).takeWhile t8 := fun hm => by
      have h1 := (List.takeWhile_sublist t8).subset hm
      have := a2D j9 s h1
      revert this
      decide
     unfold o6
     rw [a5p (l := s.takeWhile j9) (p := j9) (by decide) (fun x hx => a2D _ _ hx) m7, if_neg (by omega), hh, if_pos hd, if_neg h46', a4Q, hm]
  ·rename_i hd
   split at h
   ·rename_i hl
    simp only [Except.ok.injEq, Prod.mk.injEq] at h
    obtain ⟨rfl, rfl, rfl⟩ := h
    have hh : (s.takeWhile j9).head? = s.head? := by rw [hok.2.1]; exact a4h (List.length_pos_iff.2 hok.1)
    unfold o6
    rw [a5p (l := s.takeWhile j9) (p := j9) (by decide) (fun x hx => a2D _ _ hx) m7, if_neg (by omega), hh, if_neg hd, if_pos hl, a4Q]
   ·rename_i hl
    split at h
    ·cases h
    ·rename_i hs
     simp only [Except.ok.injEq, Prod.mk.injEq] at h
     obtain ⟨rfl, rfl, rfl⟩ := h
     obtain ⟨e1, e2⟩ := aT7 hs
     have hc' : ¬ 2 ≤ ((M5 s).takeWhile m7).count 58 := by
      have hsub : (M5 s).takeWhile m7 = (s.takeWhile m7).take ((M5 s).takeWhile m7).length := by
       have := a4M hs
       rw [this.1]
       exact ab6 m7 s _
      intro hge
      apply hc
      rw [hsub] at hge
      exact Nat.le_trans hge ((List.take_sublist _ _).count_le 58)
     unfold o6
     rw [if_neg hc', e2, if_neg hd, if_neg hl, e1, if_neg hs]
theorem a62 : ∀ (k k' p : Nat) (s : List UInt8), s.length ≤ k → s.length ≤ k' → a0u k p s = a0u k' p s
 | 0, k', p, s, h, h' => by
  have : s = [] := List.eq_nil_of_length_eq_zero (by omega)
  subst this
  cases k' <;> rfl
 | k + 1, 0, p, s, h, h' => by
  have : s = [] := List.eq_nil_of_length_eq_zero (by omega)
  subst this
  rfl
 | k + 1, k' + 1, p, [], _, _ => rfl
 | k + 1, k' + 1, p, c :: r, h, h' => by
  simp only [List.length_cons] at h h'
  rw [a0u, a0u]
  split
  ·exact a62 k k' (p + 1) r (by omega) (by omega)
  ·split
   ·rfl
   ·rename_i q t n ht
    have hl := List.length_pos_iff.2 (a0l ht).1
    rw [a62 k k' (p + t.length) ((c :: r).drop t.length) (by rw [List.length_drop, List.length_cons]; omega) (by rw [List.length_drop, List.length_cons]; omega)]
theorem a3C (p : Nat) : J6 p [] = .ok [⟨0, p, [], 0⟩] := rfl
theorem a3A (p : Nat) {c : UInt8} (r : List UInt8) (h : I3 c = true) : J6 p (c :: r) = J6 (p + 1) r := by
 unfold J6
 rw [List.length_cons, a0u, if_pos h]
theorem a3B (p : Nat) {c : UInt8} {r : List UInt8} {e : Int} (h : I3 c = false) (ht : o6 (c :: r) = .error e) : J6 p (c :: r) = .error (p, e) := by
 unfold J6
 rw [List.length_cons, a0u, if_neg (by rw [h]; simp), ht]
theorem a3D (p : Nat) {c : UInt8} {r : List UInt8} {q n : Nat} {t : List UInt8} (h : I3 c = false) (ht : o6 (c :: r) = .ok (q, t, n)) :
  J6 p (c :: r) = match J6 (p + t.length) ((c :: r).drop t.length) with
   | .error e => .error e
   | .ok ts => .ok (⟨q, p, t, n⟩ :: ts) := by
 have hl := List.length_pos_iff.2 (a0l ht).1
 unfold J6
 rw [List.length_cons, a0u, if_neg (by rw [h]; simp), ht]
 simp only
 rw [a62 r.length ((c :: r).drop t.length).length _ _ (by rw [List.length_drop, List.length_cons]; omega) (Nat.le_refl _)]
 cases a0u ((c :: r).drop t.length).length (p + t.length) ((c :: r).drop t.length) <;> rfl
theorem az8 (p : Nat) : ∀ (bs r : List UInt8), (∀ b ∈ bs, I3 b = true) → J6 p (bs ++ r) = J6 (p + bs.length) r := by
 intro bs
 induction bs generalizing p with
 | nil => intro r _; rfl
 | cons b bs ih =>
  intro r h
  rw [List.cons_append, a3A p _ (h b (List.mem_cons_self ..)), ih (p + 1) r (fun x hx => h x (List.mem_cons_of_mem _ hx)), List.length_cons, show p + 1 + bs.length = p + (bs.length + 1) by omega]
theorem a4q : ∀ (k p : Nat) (s : List UInt8) (ts : List Tk), s.length ≤ k → J6 p s = .ok ts → ∃ us, ts = us ++ [⟨0, p + s.length, [], 0⟩] ∧ ∀ t ∈ us, t.text ≠ [] ∧ o6 t.text = .ok (t.kind, t.text, t.num)
 | k, p, [], ts, _, h => by
  rw [a3C] at h
  cases h
  exact ⟨[], rfl, fun t ht => by cases ht⟩
 | 0, p, c :: r, ts, hk, h => by simp at hk
 | k + 1, p, c :: r, ts, hk, h => by
  simp only [List.length_cons] at hk
  cases hb : I3 c with
  | true =>
   rw [a3A p r hb] at h
   obtain ⟨us, e, hu⟩ := a4q k (p + 1) r ts (by omega) h
   exact ⟨us, by rw [e, List.length_cons, show p + 1 + r.length = p + (r.length + 1) by omega], hu⟩
  | false =>
   cases ht : o6 (c :: r) with
   | error e => rw [a3B p hb ht] at h; cases h
   | ok x =>
    obtain ⟨q, t, n⟩ := x
    rw [a3D p hb ht] at h
    have hok := a0l ht
    have hl := List.length_pos_iff.2 hok.1
    split at h
    ·cases h
    ·rename_i ts' h'
     cases h
     obtain ⟨us, e, hu⟩ := a4q k (p + t.length) ((c :: r).drop t.length) ts' (by rw [List.length_drop, List.length_cons]; omega) h'
     refine ⟨⟨q, p, t, n⟩ :: us, ?_, fun x hx => ?_⟩
     ·rw [e, List.cons_append]
      have := hok.2.2.1
      rw [List.length_drop, show p + t.length + ((c :: r).length - t.length) = p + (c :: r).length by omega]
     ·rcases List.mem_cons.1 hx with rfl | hx
      ·exact ⟨hok.1, aX5 ht⟩
      ·exact hu x hx
abbrev Ky := Nat × List UInt8 × Nat
def Tk.ky (t : Tk) : Ky := (t.kind, t.text, t.num)
def kW (x : List UInt8) : Ky := (2, x, 0)
def kS (x : List UInt8) : Ky := (5, x, 0)
def kN (n : Nat) : Ky := (1, dec n, n)
def kA (x : Ng) : Ky := (if x.of = 3 then 4 else 3, I0 x, 0)
def a6A (k : Int) : List Ky := if k = 1 then [kW V7] else if k = 2 then [kW R0] else []
def az3 (x : Ng) : List Ky :=
 if x.kind = 1 then [kN x.n]
 else if x.kind = 2 then [kW a3k]
 else if x.kind = 10 then [kW (if x.side = 1 then a3j else a3l)]
 else if x.kind = 11 then [kW (t7 x.of)]
 else if x.kind = 12 then [kW J2, kN x.n]
 else if x.kind = 13 then [kW (t7 x.of), kW J2, kN x.n]
 else if x.kind = 14 then a6A x.side ++ [kW a0Q, kA x]
 else if x.kind = 15 then a6A x.side ++ [kW a19, kA x, kS [47], kN x.bits.toNat]
 else (if x.of = 0 then [] else [kW (t7 x.of)]) ++ a6A x.side ++ (if x.n = x.m then [kW S0, kN x.n] else [kW M1, kN x.n, kS [45], kN x.m])
def aT6 (x : Ng) : Ky := if x.kind = 7 then kW a0m else if x.kind = 8 then kW wOr else if x.kind = 6 then kS (a2u x.op) else kS (a2n x.op)
def aU3 (n : Int) : List Ky := if n = 1 then [] else [kS [58], kN n.toNat]
def a6p (want : Bool) (l : List Ky) : List Ky := if want = true then kS [40] :: (l ++ [kS [41]]) else l
def Tr.ky (full : Bool) : Tr → List Ky
 | .leaf x => az3 x
 | .one x p =>
  if x.kind = 3 then kW (t7 x.of) :: kS [91] :: (p.ky full ++ (aU3 x.size ++ [kS [93]]))
  else (if x.kind = 9 then kW a0G else kS [45]) :: a6p (D2 full (d5 p.root) (d5 x)) (p.ky full)
 | .two x p q => a6p (D2 full (d5 p.root) (if d5 x = 4 then 5 else d5 x)) (p.ky full) ++ aT6 x :: a6p (D2 full (d5 q.root) (d5 x + 1)) (q.ky full)
def af0 (B : List Tk) : Prop := ∀ x ∈ [[91], J2, V7, R0, S0, M1], isB B x = false
theorem au8 {a lo hi : Int} (h : inG a lo hi = true) : lo ≤ a ∧ a ≤ hi := by
 unfold inG at h
 have := Bool.and_eq_true_iff.1 h
 exact ⟨of_decide_eq_true this.1, of_decide_eq_true this.2⟩
end Go.Proofs.YtklipelnjgpnjaaGreatDoor
