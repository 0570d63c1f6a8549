/-
  What every link takes that the plain one takes. No Go text here.
-/
import Derived.Test.YtfjjmeanmlimoaaForgeV
namespace Go.Proofs.Ytfjjmeanmlimoaa
open Go.RowKit
set_option maxRecDepth 100000

def lk0 : Lk := ⟨false, false, 0⟩
def lessV (k : Lk) (s : Sp) : Nat := if k.pfc = true ∧ s.proto < 256 then 1 else 0

theorem links_same {s : Sp} {b : List UInt8} (h : makeX lk0 { s with plain := true } = .ok b) (hp : s.proto ≠ 61) (k : Lk) (hk : 0 ≤ k.mp ∧ k.mp ≤ 2) :
    makeX k { s with plain := true } = .ok b ∧ ∃ y, makeX k { s with plain := false } = .ok y ∧ y.length + lessV k s = b.length := by
  have hb := make_ok h
  have hf : fitsB lk0 { s with plain := true } = true := by
    unfold makeX at h
    split at h
    · cases h
    · split at h
      · cases h
      · rename_i h2
        simpa using h2
  have hd : s.data.length ≤ 65535 := by
    unfold makeX at h
    split at h
    · cases h
    · split at h
      · cases h
      · split at h
        · cases h
        · rename_i h3
          simpa using h3
  obtain ⟨-, -, e, hl⟩ := hb
  simp only [fitsB, Bool.not_eq_true', Bool.or_eq_false_iff] at hf
  obtain ⟨h1, h2, h3, h4, h5, h6, h7, h8, h9, h10, h11⟩ := hf
  have hw : s.wide = true := by
    cases hw : s.wide with
    | true => rfl
    | false => simp [cond1, lk0, hw] at h1
  have hm : s.multi = false := by
    cases hm : s.multi with
    | false => rfl
    | true => simp [cond2, lk0, hm] at h2
  have hk0 : checkF k = 0 := by
    unfold checkF
    rw [if_neg (by omega)]
  have hp' : ((s.proto : Int) == 61) = false := by rw [beq_eq_false_iff_ne]; omega
  have h3' : ∀ p, cond3 k { s with plain := p } = false := by
    intro p
    simp only [cond3, hm, hp', Bool.not_false, Bool.true_and, Bool.false_and, Bool.or_false] at h3 ⊢
    exact h3
  have hfit : ∀ p, fitsB k { s with plain := p } = true := by
    intro p
    have a1 : cond1 k { s with plain := p } = false := by simp [cond1, hw]
    have a2 : cond2 k { s with plain := p } = false := by simp [cond2, hm]
    have a11 : cond11 k { s with plain := p } = false := by simp [cond11, hw]
    simp only [fitsB, a1, a2, h3' p, a11, Bool.false_or, Bool.or_false, Bool.not_eq_true', Bool.or_eq_false_iff]
    exact ⟨h4, h5, h6, h7, h8, h9, h10⟩
  have hs : ∀ p, saidB { s with plain := p } = true := by intro p; simp [saidB, hm]
  have ho : ∀ (q : Lk) (p : Bool), outV q { s with plain := p } = [255, 3] ++ fieldV q p s.proto ++ carV { s with plain := true } := by
    intro q p
    have c : carV { s with plain := p } = carV { s with plain := true } := rfl
    have w1 : wideV { s with plain := p } = [255, 3] := by simp [wideV, hw]
    have p1 : pieceB q { s with plain := p } = [] := by simp [pieceB, hm]
    have o1 : ownV q { s with plain := p } = fieldV q p s.proto := by rw [ownV, if_pos (hs p)]
    rw [outV, frontV, w1, p1, o1, c, List.append_nil]
  have hft : ∀ q, fieldV q true s.proto = be2 s.proto := by
    intro q
    unfold fieldV
    rw [if_neg (by simp)]
  have e1 : outV k { s with plain := true } = outV lk0 { s with plain := true } := by
    rw [ho, ho, hft, hft]
  have hlen : (outV k { s with plain := false }).length + lessV k s = b.length := by
    rw [e, ho, ho, hft]
    simp only [lessV, List.length_append]
    by_cases hc : k.pfc = true ∧ s.proto < 256
    · rw [if_pos hc, show fieldV k false s.proto = [UInt8.ofNat s.proto] by simp [fieldV, hc]]
      simp only [be2, List.length_cons, List.length_nil]
      omega
    · rw [if_neg hc, show fieldV k false s.proto = be2 s.proto by rw [fieldV, if_neg (by rintro ⟨x, -, y⟩; exact hc ⟨x, y⟩)]]
      omega
  have hbl : b.length ≤ 65535 := by rw [e]; exact hl
  constructor
  · rw [makeX, if_neg (by rw [hk0]; simp), if_neg (by rw [hfit]; simp), if_neg (by simp only []; omega), e1, if_neg (by omega), ← e]
  · refine ⟨outV k { s with plain := false }, ?_, hlen⟩
    rw [makeX, if_neg (by rw [hk0]; simp), if_neg (by rw [hfit]; simp), if_neg (by simp only []; omega), if_neg (by omega)]

end Go.Proofs.Ytfjjmeanmlimoaa
