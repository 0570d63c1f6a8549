/-
  What is refused, one thing turned. No Go text here.
-/
import Derived.Test.YtfjjmeanmlimoaaForgeV
namespace Go.Proofs.Ytfjjmeanmlimoaa
open Go.RowKit
set_option maxRecDepth 100000

/-- The spec with thing j turned. -/
def tS (j : Nat) (s : Sp) : Sp :=
  match j with
  | 0 => { s with proto := if s.proto = 0 then 1 else s.proto - 1 }
  | 1 => { s with proto := s.proto + 65536 }
  | 2 => { s with next := s.next + 256 }
  | 3 => { s with seq := s.seq + 16777216 }
  | 4 => { s with frm := 70000 }
  | 6 => { s with wide := false }
  | 7 => { s with next := -1 }
  | _ => s
/-- The link with thing j turned. -/
def tL (j : Nat) (l : Lk) : Lk :=
  match j with
  | 5 => { l with mp := 3 }
  | 6 => { l with acfc := false }
  | _ => l
def tE (j : Nat) : Int := if j = 5 then 70 else 80

theorem refused {l : Lk} {s : Sp} (h0 : checkF l = 0) (h : cond1 l s = true ∨ cond2 l s = true ∨ cond3 l s = true ∨ cond4 s = true ∨ cond5 s = true ∨ cond7 s = true ∨ cond9 s = true ∨ cond10 s = true) : makeX l s = .error 80 := by
  have hf : fitsB l s = false := by
    simp only [fitsB, Bool.not_eq_false', Bool.or_eq_true]
    rcases h with h | h | h | h | h | h | h | h <;> simp [h]
  rw [makeX, if_neg (by rw [h0]; simp), if_pos hf]

theorem refuses {l : Lk} {s : Sp} (h0 : checkF l = 0) (F : Fits l s) (j : Nat) (hj : j < 8) : makeX (tL j l) (tS j s) = .error (tE j) := by
  have hn := F.next
  have hpr : s.proto = 0 ∧ saidB s = false ∨ (s.proto ≤ 65535 ∧ s.proto % 2 = 1) ∧ saidB s = true := by
    cases hs : saidB s with
    | true => exact .inr ⟨⟨(F.said hs).1, (F.said hs).2.1⟩, rfl⟩
    | false =>
      simp only [saidB, Bool.or_eq_false_iff, Bool.not_eq_false'] at hs
      exact .inl ⟨(F.mute hs.1 hs.2).1, rfl⟩
  match j, hj with
  | 0, _ =>
    refine refused h0 ?_
    rcases hpr with ⟨hp, hs⟩ | ⟨⟨hp1, hp2⟩, hs⟩
    · have : cond4 (tS 0 s) = true := by
        have e : saidB (tS 0 s) = false := hs
        rw [cond4, e]
        simp [tS, hp]
      simp [this]
    · have : cond5 (tS 0 s) = true := by
        have e : saidB (tS 0 s) = true := hs
        have e1 : ¬ s.proto = 0 := by omega
        have e2 : (((s.proto - 1 : Nat) : Int) % 2 == 0) = true := by rw [beq_iff_eq]; omega
        rw [cond5, e]
        simp only [tS, if_neg e1, e2, Bool.true_and, Bool.true_or, Bool.or_true]
      simp [this]
  | 1, _ =>
    refine refused h0 ?_
    rcases hpr with ⟨hp, hs⟩ | ⟨⟨hp1, hp2⟩, hs⟩
    · have : cond4 (tS 1 s) = true := by
        have e : saidB (tS 1 s) = false := hs
        rw [cond4, e]
        simp [tS, hp]
      simp [this]
    · have : cond5 (tS 1 s) = true := by
        have e : saidB (tS 1 s) = true := hs
        have e2 : decide ((65535 : Int) < ((s.proto + 65536 : Nat) : Int)) = true := decide_eq_true (by omega)
        rw [cond5, e]
        simp only [tS, e2, Bool.true_and, Bool.true_or]
      simp [this]
  | 2, _ =>
    refine refused h0 ?_
    have : cond7 (tS 2 s) = true := by
      have e2 : decide ((255 : Int) < s.next + 256) = true := decide_eq_true (by omega)
      simp only [cond7, tS, e2, Bool.or_true]
    simp [this]
  | 3, _ =>
    refine refused h0 ?_
    cases hm : s.multi with
    | true =>
      have : cond2 l (tS 3 s) = true := by
        have e : decide (spV l ≤ s.seq + 16777216) = true := decide_eq_true (by unfold spV; split <;> omega)
        simp only [cond2, tS, hm, e, Bool.true_and, Bool.or_true]
      simp [tL, this]
    | false =>
      have : cond3 l (tS 3 s) = true := by
        have e : (((s.seq + 16777216 : Nat) : Int) != 0) = true := by rw [bne_iff_ne]; omega
        simp only [cond3, tS, hm, e, Bool.not_false, Bool.true_and, Bool.true_or, Bool.or_true]
      simp [tL, this]
  | 4, _ =>
    refine refused h0 ?_
    have : cond10 (tS 4 s) = true := by
      simp [cond10, tS]
    simp [this]
  | 5, _ =>
    have e : checkF (tL 5 l) = 70 := by simp [checkF, tL]
    rw [makeX, if_pos (by rw [e]; decide), e]
    rfl
  | 6, _ =>
    refine refused h0 ?_
    have : cond1 (tL 6 l) (tS 6 s) = true := by simp [cond1, tS, tL]
    simp [this]
  | 7, _ =>
    refine refused h0 ?_
    have : cond7 (tS 7 s) = true := by simp [cond7, tS]
    simp [this]

end Go.Proofs.Ytfjjmeanmlimoaa
