/-
  How long what was made is, and what stands at its end.
-/
import Derived.Test.YtfjjmeanmlimoaaForgeV
namespace Go.Proofs.Ytfjjmeanmlimoaa
open Go.RowKit
set_option maxRecDepth 100000

theorem load_end (s : Sp) : ∃ p, loadV s = p ++ s.data := ⟨_, rfl⟩
theorem car_end (s : Sp) : ∃ p, carV s = p ++ s.data := by
  obtain ⟨p, hp⟩ := load_end s
  unfold carV
  split
  · exact ⟨p, hp⟩
  · split
    · rw [hp]; exact ⟨_, (List.append_assoc _ _ _).symm⟩
    · split
      · rw [hp]; exact ⟨_, (List.append_assoc _ _ _).symm⟩
      · exact ⟨p, hp⟩
theorem out_end (l : Lk) (s : Sp) : ∃ p, outV l s = p ++ s.data := by
  obtain ⟨p, hp⟩ := car_end s
  unfold outV
  rw [hp]
  exact ⟨_, (List.append_assoc _ _ _).symm⟩
theorem field_pos (l : Lk) (b : Bool) (p : Nat) : 0 < (fieldV l b p).length := by
  unfold fieldV
  split <;> simp [be2]
theorem front_pos (l : Lk) (s : Sp) : 0 < (frontV l s).length := by
  unfold frontV
  rw [List.length_append, List.length_append]
  cases hs : saidB s with
  | true =>
    have := field_pos l s.plain s.proto
    rw [ownV, if_pos hs]
    omega
  | false =>
    have hm : s.multi = true := by
      cases h : s.multi
      · simp [saidB, h] at hs
      · rfl
    have := field_pos l s.plain 61
    rw [pieceB, if_pos hm, List.length_append]
    omega
theorem load_len (s : Sp) : (loadV s).length = (if s.ports = true then 4 else 0) + s.data.length := by
  unfold loadV
  rw [List.length_append]
  split <;> simp [be2]
/-- How long it is. -/
theorem out_len (l : Lk) (s : Sp) (hs : s.src.length = 16) (hd : s.dst.length = 16) : (outV l s).length = (frontV l s).length + (if ipB s = true then (if s.proto = 33 then 20 else 40) else 0) + (if s.ports = true then 4 else 0) + s.data.length := by
  unfold outV
  rw [List.length_append]
  have hl := load_len s
  unfold carV
  by_cases hq : s.multi = true ∧ s.beg = false
  · have hi : ipB s = false := by simp [ipB, saidB, hq.1, hq.2]
    rw [if_pos hq, hi, hl]
    simp
    omega
  · have hsd : saidB s = true := by
      cases hm : s.multi <;> cases hb : s.beg <;> simp_all [saidB]
    rw [if_neg hq]
    by_cases h3 : s.proto = 33
    · have hi : ipB s = true := by simp [ipB, hsd, h3]
      rw [if_pos h3, if_pos hi, if_pos h3]
      simp only [List.length_append, List.length_cons, List.length_nil, List.length_take, hl, be2]
      omega
    · by_cases h8 : s.proto = 87
      · have hi : ipB s = true := by simp [ipB, hsd, h8]
        rw [if_neg h3, if_pos h8, if_pos hi, if_neg h3]
        simp only [List.length_append, List.length_cons, List.length_nil, hl, be2]
        omega
      · have hi : ipB s = false := by simp [ipB, hsd, h3, h8]
        rw [if_neg h3, if_neg h8, hi, hl]
        simp
        omega

end Go.Proofs.Ytfjjmeanmlimoaa
