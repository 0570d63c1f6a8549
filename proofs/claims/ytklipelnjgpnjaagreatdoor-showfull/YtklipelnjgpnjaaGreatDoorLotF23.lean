import Derived.Test.YtklipelnjgpnjaaGreatDoorLotF22
import Derived.Test.YtklipelnjgpnjaaGreatDoorLotF7
namespace Go.Proofs.YtklipelnjgpnjaaGreatDoor
open Go.RowKit
set_option maxRecDepth 100000

section
variable {Q : Nat → Nat → Prop}
end
theorem hexL_le : ∀ (d : List UInt8) (v n : Nat), v ≤ 4294967295 → hexL v d = some n → n ≤ 4294967295
 | [], v, n, hv, h => by
  simp only [hexL, Option.some.injEq] at h
  omega
 | c :: r, v, n, hv, h => by
  unfold hexL at h
  split at h
  ·split at h
   ·cases h
   ·exact hexL_le r _ n (by omega) h
  ·cases h
theorem numV_le {s : List UInt8} {n : Nat} (h : numV s = some n) : n ≤ 4294967295 := by
 unfold numV at h
 split at h
 ·exact hexL_le _ 0 n (by omega) h
 ·unfold numberV at h
  split at h
  ·cases h
  ·exact numFrom_le 0 s n (by omega) h
theorem sign_len {s : List UInt8} (h : signV s ≠ []) : signV s = s.take (signV s).length ∧ (signV s).length ≤ s.length := by
 unfold signV at h ⊢
 by_cases h1 : s.take 2 ∈ twosL
 ·rw [if_pos h1]
  have hl : (s.take 2).length = 2 := by
   simp only [twosL, List.mem_cons, List.not_mem_nil, or_false] at h1
   rcases h1 with e | e | e | e | e | e | e | e <;> rw [e] <;> rfl
  rw [hl]
  refine ⟨rfl, ?_⟩
  rw [List.length_take] at hl
  omega
 ·rw [if_neg h1] at h ⊢
  by_cases h2 : s.head?.all (onesL.contains ·) = true
  ·rw [if_pos h2] at h ⊢
   cases s with
   | nil => simp at h
   | cons c r => exact ⟨by simp, by simp⟩
  ·rw [if_neg h2] at h
   exact absurd rfl h
theorem tok_ok {s : List UInt8} {q n : Nat} {t : List UInt8} (h : tokV s = .ok (q, t, n)) : t ≠ [] ∧ t = s.take t.length ∧ t.length ≤ s.length ∧ 1 ≤ q ∧ q ≤ 5 ∧ n ≤ 4294967295 := by
 unfold tokV at h
 split at h
 ·rename_i hc
  simp only [Except.ok.injEq, Prod.mk.injEq] at h
  obtain ⟨rfl, rfl, rfl⟩ := h
  refine ⟨fun e => ?_, takeWhile_pre _ _, takeWhile_len _ _, by omega, by omega, by omega⟩
  rw [e] at hc
  simp at hc
 ·split at h
  ·rename_i hd
   have hne : (s.takeWhile wordB) ≠ [] := by
    cases s with
    | nil => simp at hd
    | cons c r =>
     have hc : isDig c = true := by simpa using hd
     obtain ⟨u, e⟩ := takeWhile_head wordB c r (by simp [wordB, hc])
     rw [e]
     simp
   split at h
   ·rename_i h46
    simp only [Except.ok.injEq, Prod.mk.injEq] at h
    obtain ⟨rfl, rfl, rfl⟩ := h
    refine ⟨fun e => ?_, takeWhile_pre _ _, takeWhile_len _ _, by omega, by omega, by omega⟩
    rw [e] at h46
    simp at h46
   ·split at h
    ·cases h
    ·rename_i m hm
     simp only [Except.ok.injEq, Prod.mk.injEq] at h
     obtain ⟨rfl, rfl, rfl⟩ := h
     exact ⟨hne, takeWhile_pre _ _, takeWhile_len _ _, by omega, by omega, numV_le hm⟩
  ·split at h
   ·rename_i hl
    simp only [Except.ok.injEq, Prod.mk.injEq] at h
    obtain ⟨rfl, rfl, rfl⟩ := h
    refine ⟨?_, takeWhile_pre _ _, takeWhile_len _ _, by omega, by omega, by omega⟩
    cases s with
    | nil => simp at hl
    | cons c r =>
     have hc : letB c = true := by simpa using hl
     obtain ⟨u, e⟩ := takeWhile_head wordB c r (by simp [wordB, hc])
     rw [e]
     simp
   ·split at h
    ·cases h
    ·rename_i hs
     simp only [Except.ok.injEq, Prod.mk.injEq] at h
     obtain ⟨rfl, rfl, rfl⟩ := h
     exact ⟨hs, (sign_len hs).1, (sign_len hs).2, by omega, by omega, by omega⟩

end Go.Proofs.YtklipelnjgpnjaaGreatDoor
