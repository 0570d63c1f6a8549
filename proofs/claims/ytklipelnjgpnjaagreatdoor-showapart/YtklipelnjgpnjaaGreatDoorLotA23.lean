import Derived.Test.YtklipelnjgpnjaaGreatDoorLotA22
import Derived.Test.YtklipelnjgpnjaaGreatDoorLotA7
namespace Go.Proofs.YtklipelnjgpnjaaGreatDoor
open Go.RowKit
set_option maxRecDepth 100000

section
variable {Q : Nat → Nat → Prop}
end
def lpB (t : Tk) : Prop := t.kind = 5 ∧ t.text = [40]
theorem lp_is {t : Tk} (h : lpB t) (r : List Tk) (x : List UInt8) : isB (t :: r) x = decide (x = [40]) := by
 show ((t.kind == 5 || t.kind == 2) && t.text == x) = _
 rw [h.1, h.2]
 by_cases hx : x = [40]
 ·subst hx; rfl
 ·rw [decide_eq_false hx]
  simp only [BEq.rfl, Bool.true_or, Bool.true_and, beq_eq_false_iff_ne, ne_eq]
  exact fun e => hx e.symm
theorem lp_part {t : Tk} (h : lpB t) (rec : Nat → List Tk → Out) (nest : Nat) (r : List Tk) : partF rec nest (t :: r) = opnV nest (t :: r) (thenE (rec (nest + 1) r) fun p => thenE (mustV [41] p.2) fun q => .ok (p.1, q)) := by
 unfold partF
 rw [if_neg (by show ¬ t.kind = 1; rw [h.1]; decide), if_pos (by rw [lp_is h]; rfl)]
 rfl
theorem up_op {f k nest : Nat} {ts r : List Tk} {ns : List (Nd × Nat)} (hk : k ≠ 3 ∧ k ≠ 11 ∧ k ≠ 12) (ho : opT k r = none) (h : rowF f (k + 1) nest ts = .ok (ns, r)) : rowF (f + 1) k nest ts = .ok (ns, r) := by
 rw [row_succ]
 unfold stepR
 rw [if_neg (by omega), if_neg (by omega), if_neg (by omega), if_neg hk.2.2, h]
 show loopG _ k r.length ns r = _
 cases r.length with
 | zero => rfl
 | succ n => unfold loopG; rw [ho]
theorem row_part {f nest : Nat} {ts : List Tk} : rowF (f + 1) 12 nest ts = partF (rowF f 1) nest ts := by
 rw [row_succ]
 unfold stepR
 rw [if_neg (by omega), if_neg (by omega), if_neg (by omega), if_pos rfl]
theorem hexL_le : ∀ (d : List UInt8) (v n : Nat), v ≤ 4294967295 → hexL v d = some n → n ≤ 4294967295
 | [], v, n, hv, h => by
  simp only [hexL, Option.some.injEq] at h
  omega
 | c :: r, v, n, hv, h => by
  unfold hexL at h
  split at h
  ·split at h
   ·cases h
   ·exact hexL_le r _ n (by omega) h
  ·cases h
theorem numV_le {s : List UInt8} {n : Nat} (h : numV s = some n) : n ≤ 4294967295 := by
 unfold numV at h
 split at h
 ·exact hexL_le _ 0 n (by omega) h
 ·unfold numberV at h
  split at h
  ·cases h
  ·exact numFrom_le 0 s n (by omega) h
theorem sign_len {s : List UInt8} (h : signV s ≠ []) : signV s = s.take (signV s).length ∧ (signV s).length ≤ s.length := by
 unfold signV at h ⊢
 by_cases h1 : s.take 2 ∈ twosL
 ·rw [if_pos h1]
  have hl : (s.take 2).length = 2 := by
   simp only [twosL, List.mem_cons, List.not_mem_nil, or_false] at h1
   rcases h1 with e | e | e | e | e | e | e | e <;> rw [e] <;> rfl
  rw [hl]
  refine ⟨rfl, ?_⟩
  rw [List.length_take] at hl
  omega
 ·rw [if_neg h1] at h ⊢
  by_cases h2 : s.head?.all (onesL.contains ·) = true
  ·rw [if_pos h2] at h ⊢
   cases s with
   | nil => simp at h
   | cons c r => exact ⟨by simp, by simp⟩
  ·rw [if_neg h2] at h
   exact absurd rfl h
theorem tok_ok {s : List UInt8} {q n : Nat} {t : List UInt8} (h : tokV s = .ok (q, t, n)) : t ≠ [] ∧ t = s.take t.length ∧ t.length ≤ s.length ∧ 1 ≤ q ∧ q ≤ 5 ∧ n ≤ 4294967295 := by
 unfold tokV at h
 split at h
 ·rename_i hc
  simp only [Except.ok.injEq, Prod.mk.injEq] at h
  obtain ⟨rfl, rfl, rfl⟩ := h
  refine ⟨fun e => ?_, takeWhile_pre _ _, takeWhile_len _ _, by omega, by omega, by omega⟩
  rw [e] at hc
  simp at hc
 ·split at h
  ·rename_i hd
   have hne : (s.takeWhile wordB) ≠ [] := by
    cases s with
    | nil => simp at hd
    | cons c r =>
     have hc : isDig c = true := by simpa using hd
     obtain ⟨u, e⟩ := takeWhile_head wordB c r (by simp [wordB, hc])
     rw [e]
     simp
   split at h
   ·rename_i h46
    simp only [Except.ok.injEq, Prod.mk.injEq] at h
    obtain ⟨rfl, rfl, rfl⟩ := h
    refine ⟨fun e => ?_, takeWhile_pre _ _, takeWhile_len _ _, by omega, by omega, by omega⟩
    rw [e] at h46
    simp at h46
   ·split at h
    ·cases h
    ·rename_i m hm
     simp only [Except.ok.injEq, Prod.mk.injEq] at h
     obtain ⟨rfl, rfl, rfl⟩ := h
     exact ⟨hne, takeWhile_pre _ _, takeWhile_len _ _, by omega, by omega, numV_le hm⟩
  ·split at h
   ·rename_i hl
    simp only [Except.ok.injEq, Prod.mk.injEq] at h
    obtain ⟨rfl, rfl, rfl⟩ := h
    refine ⟨?_, takeWhile_pre _ _, takeWhile_len _ _, by omega, by omega, by omega⟩
    cases s with
    | nil => simp at hl
    | cons c r =>
     have hc : letB c = true := by simpa using hl
     obtain ⟨u, e⟩ := takeWhile_head wordB c r (by simp [wordB, hc])
     rw [e]
     simp
   ·split at h
    ·cases h
    ·rename_i hs
     simp only [Except.ok.injEq, Prod.mk.injEq] at h
     obtain ⟨rfl, rfl, rfl⟩ := h
     exact ⟨hs, (sign_len hs).1, (sign_len hs).2, by omega, by omega, by omega⟩
theorem lexF_fuel : ∀ (k k' p : Nat) (s : List UInt8), s.length ≤ k → s.length ≤ k' → lexF k p s = lexF k' p s
 | 0, k', p, s, h, h' => by
  have : s = [] := List.eq_nil_of_length_eq_zero (by omega)
  subst this
  cases k' <;> rfl
 | k + 1, 0, p, s, h, h' => by
  have : s = [] := List.eq_nil_of_length_eq_zero (by omega)
  subst this
  rfl
 | k + 1, k' + 1, p, [], _, _ => rfl
 | k + 1, k' + 1, p, c :: r, h, h' => by
  simp only [List.length_cons] at h h'
  rw [lexF, lexF]
  split
  ·exact lexF_fuel k k' (p + 1) r (by omega) (by omega)
  ·split
   ·rfl
   ·rename_i q t n ht
    have hl := List.length_pos_iff.2 (tok_ok ht).1
    rw [lexF_fuel k k' (p + t.length) ((c :: r).drop t.length) (by rw [List.length_drop, List.length_cons]; omega) (by rw [List.length_drop, List.length_cons]; omega)]
theorem lexR_blank (p : Nat) {c : UInt8} (r : List UInt8) (h : blankB c = true) : lexR p (c :: r) = lexR (p + 1) r := by
 unfold lexR
 rw [List.length_cons, lexF, if_pos h]
theorem lexR_tok (p : Nat) {c : UInt8} {r : List UInt8} {q n : Nat} {t : List UInt8} (h : blankB c = false) (ht : tokV (c :: r) = .ok (q, t, n)) :
  lexR p (c :: r) = match lexR (p + t.length) ((c :: r).drop t.length) with
   | .error e => .error e
   | .ok ts => .ok (⟨q, p, t, n⟩ :: ts) := by
 have hl := List.length_pos_iff.2 (tok_ok ht).1
 unfold lexR
 rw [List.length_cons, lexF, if_neg (by rw [h]; simp), ht]
 simp only
 rw [lexF_fuel r.length ((c :: r).drop t.length).length _ _ (by rw [List.length_drop, List.length_cons]; omega) (Nat.le_refl _)]
 cases lexF ((c :: r).drop t.length).length (p + t.length) ((c :: r).drop t.length) <;> rfl

end Go.Proofs.YtklipelnjgpnjaaGreatDoor
