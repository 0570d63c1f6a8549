import Derived.Test.YtghbbephhoniaaaGreatDoorLotP12
import Derived.Test.YtghbbephhoniaaaGreatDoorLotP2
namespace Go.Proofs.YtghbbephhoniaaaGreatDoor
open Go.RowKit
set_option maxRecDepth 100000

section
variable {Q : Nat → Nat → Prop}
end
def lpB (t : Tk) : Prop := t.kind = 5 ∧ t.text = [40]
theorem lp_is {t : Tk} (h : lpB t) (r : List Tk) (x : List UInt8) : isB (t :: r) x = decide (x = [40]) := by
 show ((t.kind == 5 || t.kind == 2) && t.text == x) = _
 rw [h.1, h.2]
 by_cases hx : x = [40]
 ·subst hx; rfl
 ·rw [decide_eq_false hx]
  simp only [BEq.rfl, Bool.true_or, Bool.true_and, beq_eq_false_iff_ne, ne_eq]
  exact fun e => hx e.symm
theorem lp_part {t : Tk} (h : lpB t) (rec : Nat → List Tk → Out) (nest : Nat) (r : List Tk) : partF rec nest (t :: r) = opnV nest (t :: r) (thenE (rec (nest + 1) r) fun p => thenE (mustV [41] p.2) fun q => .ok (p.1, q)) := by
 unfold partF
 rw [if_neg (by show ¬ t.kind = 1; rw [h.1]; decide), if_pos (by rw [lp_is h]; rfl)]
 rfl
theorem up_op {f k nest : Nat} {ts r : List Tk} {ns : List (Nd × Nat)} (hk : k ≠ 3 ∧ k ≠ 11 ∧ k ≠ 12) (ho : opT k r = none) (h : rowF f (k + 1) nest ts = .ok (ns, r)) : rowF (f + 1) k nest ts = .ok (ns, r) := by
 rw [row_succ]
 unfold stepR
 rw [if_neg (by omega), if_neg (by omega), if_neg (by omega), if_neg hk.2.2, h]
 show loopG _ k r.length ns r = _
 cases r.length with
 | zero => rfl
 | succ n => unfold loopG; rw [ho]
theorem row_part {f nest : Nat} {ts : List Tk} : rowF (f + 1) 12 nest ts = partF (rowF f 1) nest ts := by
 rw [row_succ]
 unfold stepR
 rw [if_neg (by omega), if_neg (by omega), if_neg (by omega), if_pos rfl]
theorem hexL_le : ∀ (d : List UInt8) (v n : Nat), v ≤ 4294967295 → hexL v d = some n → n ≤ 4294967295
 | [], v, n, hv, h => by
  simp only [hexL, Option.some.injEq] at h
  omega
 | c :: r, v, n, hv, h => by
  unfold hexL at h
  split at h
  ·split at h
   ·cases h
   ·exact hexL_le r _ n (by omega) h
  ·cases h
theorem numV_le {s : List UInt8} {n : Nat} (h : numV s = some n) : n ≤ 4294967295 := by
 unfold numV at h
 split at h
 ·exact hexL_le _ 0 n (by omega) h
 ·unfold numberV at h
  split at h
  ·cases h
  ·exact numFrom_le 0 s n (by omega) h
theorem sign_len {s : List UInt8} (h : signV s ≠ []) : signV s = s.take (signV s).length ∧ (signV s).length ≤ s.length := by
 unfold signV at h ⊢
 by_cases h1 : s.take 2 ∈ twosL
 ·rw [if_pos h1]
  have hl : (s.take 2).length = 2 := by
   simp only [twosL, List.mem_cons, List.not_mem_nil, or_false] at h1
   rcases h1 with e | e | e | e | e | e | e | e <;> rw [e] <;> rfl
  rw [hl]
  refine ⟨rfl, ?_⟩
  rw [List.length_take] at hl
  omega
 ·rw [if_neg h1] at h ⊢
  by_cases h2 : s.head?.all (onesL.contains ·) = true
  ·rw [if_pos h2] at h ⊢
   cases s with
   | nil => simp at h
   | cons c r => exact ⟨by simp, by simp⟩
  ·rw [if_neg h2] at h
   exact absurd rfl h
theorem tok_ok {s : List UInt8} {q n : Nat} {t : List UInt8} (h : tokV s = .ok (q, t, n)) : t ≠ [] ∧ t = s.take t.length ∧ t.length ≤ s.length ∧ 1 ≤ q ∧ q ≤ 5 ∧ n ≤ 4294967295 := by
 unfold tokV at h
 split at h
 ·rename_i hc
  simp only [Except.ok.injEq, Prod.mk.injEq] at h
  obtain ⟨rfl, rfl, rfl⟩ := h
  refine ⟨fun e => ?_, takeWhile_pre _ _, takeWhile_len _ _, by omega, by omega, by omega⟩
  rw [e] at hc
  simp at hc
 ·split at h
  ·rename_i hd
   have hne : (s.takeWhile wordB) ≠ [] := by
    cases s with
    | nil => simp at hd
    | cons c r =>
     have hc : isDig c = true := by simpa using hd
     obtain ⟨u, e⟩ := takeWhile_head wordB c r (by simp [wordB, hc])
     rw [e]
     simp
   split at h
   ·rename_i h46
    simp only [Except.ok.injEq, Prod.mk.injEq] at h
    obtain ⟨rfl, rfl, rfl⟩ := h
    refine ⟨fun e => ?_, takeWhile_pre _ _, takeWhile_len _ _, by omega, by omega, by omega⟩
    rw [e] at h46
    simp at h46
   ·split at h
    ·cases h
    ·rename_i m hm
     simp only [Except.ok.injEq, Prod.mk.injEq] at h
     obtain ⟨rfl, rfl, rfl⟩ := h
     exact ⟨hne, takeWhile_pre _ _, takeWhile_len _ _, by omega, by omega, numV_le hm⟩
  ·split at h
   ·rename_i hl
    simp only [Except.ok.injEq, Prod.mk.injEq] at h
    obtain ⟨rfl, rfl, rfl⟩ := h
    refine ⟨?_, takeWhile_pre _ _, takeWhile_len _ _, by omega, by omega, by omega⟩
    cases s with
    | nil => simp at hl
    | cons c r =>
     have hc : letB c = true := by simpa using hl
     obtain ⟨u, e⟩ := takeWhile_head wordB c r (by simp [wordB, hc])
     rw [e]
     simp
   ·split at h
    ·cases h
    ·rename_i hs
     simp only [Except.ok.injEq, Prod.mk.injEq] at h
     obtain ⟨rfl, rfl, rfl⟩ := h
     exact ⟨hs, (sign_len hs).1, (sign_len hs).2, by omega, by omega, by omega⟩
theorem count_zero {l : List UInt8} {p : UInt8 → Bool} (hp : p 58 = false) (h : ∀ x ∈ l, p x = true) (r : UInt8 → Bool) : (l.takeWhile r).count 58 = 0 := by
 rw [List.count_eq_zero]
 intro hm
 have h1 : (58 : UInt8) ∈ l := (List.takeWhile_sublist r).subset hm
 have := h 58 h1
 rw [hp] at this
 cases this
theorem head_take {s : List UInt8} {n : Nat} (hn : 0 < n) : (s.take n).head? = s.head? := by
 cases s with
 | nil => simp
 | cons c r =>
  cases n with
  | zero => omega
  | succ n => rfl
theorem sign_alone {s : List UInt8} (h : signV s ≠ []) : signV (signV s) = signV s ∧ (signV s).head? = s.head? := by
 have hl := sign_len h
 refine ⟨?_, by rw [hl.1]; exact head_take (by rw [← List.length_pos_iff] at h; exact h)⟩
 unfold signV at h ⊢
 by_cases h1 : s.take 2 ∈ twosL
 ·rw [if_pos h1, List.take_take, Nat.min_self, if_pos h1]
 ·rw [if_neg h1] at h ⊢
  by_cases h2 : s.head?.all (onesL.contains ·) = true
  ·rw [if_pos h2] at h ⊢
   cases s with
   | nil => simp at h
   | cons c r =>
    have hc : ([c] : List UInt8).take 2 ∉ twosL := by simp [twosL]
    show (if [c].take 2 ∈ twosL then [c].take 2 else if ([c] : List UInt8).head?.all (onesL.contains ·) = true then [c].take 1 else []) = [c]
    rw [if_neg hc, if_pos (show ([c] : List UInt8).head?.all (onesL.contains ·) = true from h2)]
    rfl
  ·rw [if_neg h2] at h
   exact absurd rfl h
theorem takeWhile_take {α : Type} (p : α → Bool) : ∀ (l : List α) (n : Nat), (l.take n).takeWhile p = (l.takeWhile p).take ((l.take n).takeWhile p).length
 | [], n => by simp
 | x :: r, 0 => by simp
 | x :: r, n + 1 => by
  rw [List.take_succ_cons]
  by_cases h : p x = true
  ·rw [List.takeWhile_cons_of_pos h, List.takeWhile_cons_of_pos h, List.length_cons, List.take_succ_cons, ← takeWhile_take p r n]
  ·rw [List.takeWhile_cons_of_neg h]
   simp
theorem tok_alone {s : List UInt8} {q n : Nat} {t : List UInt8} (h : tokV s = .ok (q, t, n)) : tokV t = .ok (q, t, n) := by
 have hok := tok_ok h
 unfold tokV at h
 split at h
 ·rename_i hc
  simp only [Except.ok.injEq, Prod.mk.injEq] at h
  obtain ⟨rfl, rfl, rfl⟩ := h
  unfold tokV
  rw [takeWhile_twice, if_pos hc]
 ·rename_i hc
  split at h
  ·rename_i hd
   split at h
   ·rename_i h46
    simp only [Except.ok.injEq, Prod.mk.injEq] at h
    obtain ⟨rfl, rfl, rfl⟩ := h
    have hh : (s.takeWhile quadB).head? = s.head? := by rw [hok.2.1]; exact head_take (List.length_pos_iff.2 hok.1)
    unfold tokV
    rw [count_zero (l := s.takeWhile quadB) (p := quadB) (by decide) (fun x hx => takeWhile_mem _ _ hx) sixB, if_neg (by omega), hh, if_pos hd, takeWhile_twice, if_pos h46]
   ·split at h
    ·cases h
    ·rename_i h46 m hm
     simp only [Except.ok.injEq, Prod.mk.injEq] at h
     obtain ⟨rfl, rfl, rfl⟩ := h
     have hh : (s.takeWhile wordB).head? = s.head? := by rw [hok.2.1]; exact head_take (List.length_pos_iff.2 hok.1)
     have h46' : ¬ 46 ∈ (s.takeWhile wordB).takeWhile quadB := fun hm => by
      have h1 := (List.takeWhile_sublist quadB).subset hm
      have := takeWhile_mem wordB s h1
      revert this
      decide
     unfold tokV
     rw [count_zero (l := s.takeWhile wordB) (p := wordB) (by decide) (fun x hx => takeWhile_mem _ _ hx) sixB, if_neg (by omega), hh, if_pos hd, if_neg h46', takeWhile_twice, hm]
  ·rename_i hd
   split at h
   ·rename_i hl
    simp only [Except.ok.injEq, Prod.mk.injEq] at h
    obtain ⟨rfl, rfl, rfl⟩ := h
    have hh : (s.takeWhile wordB).head? = s.head? := by rw [hok.2.1]; exact head_take (List.length_pos_iff.2 hok.1)
    unfold tokV
    rw [count_zero (l := s.takeWhile wordB) (p := wordB) (by decide) (fun x hx => takeWhile_mem _ _ hx) sixB, if_neg (by omega), hh, if_neg hd, if_pos hl, takeWhile_twice]
   ·rename_i hl
    split at h
    ·cases h
    ·rename_i hs
     simp only [Except.ok.injEq, Prod.mk.injEq] at h
     obtain ⟨rfl, rfl, rfl⟩ := h
     obtain ⟨e1, e2⟩ := sign_alone hs
     have hc' : ¬ 2 ≤ ((signV s).takeWhile sixB).count 58 := by
      have hsub : (signV s).takeWhile sixB = (s.takeWhile sixB).take ((signV s).takeWhile sixB).length := by
       have := sign_len hs
       rw [this.1]
       exact takeWhile_take sixB s _
      intro hge
      apply hc
      rw [hsub] at hge
      exact Nat.le_trans hge ((List.take_sublist _ _).count_le 58)
     unfold tokV
     rw [if_neg hc', e2, if_neg hd, if_neg hl, e1, if_neg hs]

end Go.Proofs.YtghbbephhoniaaaGreatDoor
