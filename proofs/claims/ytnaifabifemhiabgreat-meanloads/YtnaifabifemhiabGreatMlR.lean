/-
  What chapter 14 says of loads. No Go text here.
-/
import Derived.Test.YtnaifabifemhiabGreatLotP45
namespace Go.Proofs.YtnaifabifemhiabGreat
open Go.RowKit
set_option maxRecDepth 100000

def nmAt (a : Nat) : Ng := ⟨1, 0, a, 0, 0, 0, 0, zeros 16, 0⟩
def ldAt (of n : Int) : Ng := ⟨3, 0, 0, 0, n, of, 0, zeros 16, 0⟩
theorem nm_step (a : Nat) : stepG (nmAt a) [] = .ok [⟨false, true, a⟩] := by
  have h1 : formG (nmAt a) = true := by simp [formG, sameG, useG, mayG, nmAt]
  have hf : faultG (nmAt a) [] = 0 := by
    unfold faultG
    rw [h1]
    rfl
  show (if (0 : Nat) < 0 then Except.error 120 else if faultG (nmAt a) [] ≠ 0 then Except.error (faultG (nmAt a) []) else Except.ok [joinG (nmAt a) []]) = _
  rw [if_neg (by omega), if_neg (by omega)]
  rfl
theorem ld_step (a : Nat) (of n : Int) (ho : of = 1 ∨ of = 2 ∨ of = 3) (hn : n = 1 ∨ n = 2 ∨ n = 4) : stepG (ldAt of n) [⟨false, true, a⟩] = .ok [⟨false, false, 0⟩] := by
  rcases ho with rfl | rfl | rfl <;> rcases hn with rfl | rfl | rfl <;> rfl
theorem loads_check (a : Nat) (of n : Int) (ho : of = 1 ∨ of = 2 ∨ of = 3) (hn : n = 1 ∨ n = 2 ∨ n = 4) : (checkG (cmpdM [nmAt a, ldAt of n])).2 = 0 := by
  refine cmpd_iff.2 ⟨⟨false, false, 0⟩, ?_, rfl, ?_⟩
  · simp only [walkG, nm_step, ld_step a of n ho hn]
  · simp [weightG, weighG, nmAt, ldAt]
theorem loads_mean {l : Lk} {b : List UInt8} {v : Vw} (a : Nat) (of n : Int) (hl : lookX l b = .ok v) : meanM [nmAt a, ldAt of n] l 0 b = loadM ⟨v, 0, b⟩ (ldAt of n) ⟨1, a⟩ := by
  unfold meanM
  rw [hl]
  rfl
theorem num_in {b : List UInt8} {p n : Nat} (hn : n = 1 ∨ n = 2 ∨ n = 4) (h : p + n ≤ b.length) : numM b p (n : Int) = some (numAt b p n) := by
  unfold numM
  rw [if_pos]
  · simp
  · unfold okB
    exact decide_eq_true ⟨by omega, by omega, by omega⟩
theorem num_out {b : List UInt8} {p n : Nat} (h : ¬ p + n ≤ b.length) : numM b p (n : Int) = none := by
  unfold numM
  rw [if_neg]
  intro k
  have := okB_yes k
  omega
/-- MeanLoads: what is said of one name. -/
theorem loads_pure {l : Lk} {b : List UInt8} {v : Vw} (a n : Nat) (of : Int) (hl : lookX l b = .ok v) (ho : of = 1 ∨ of = 2 ∨ of = 3) (hn : n = 1 ∨ n = 2 ∨ n = 4) (hF : checkF l = 0) :
    valueA [nmAt a, ldAt of n] l 0 b = (if (baseM v of).2 = false then .tuple #[.int .u32 0, .int .i64 0, .int .i64 0] else if (baseM v of).1 + a + n ≤ b.length then .tuple #[.int .u32 (numAt b ((baseM v of).1 + a) n : Int), .int .i64 1, .int .i64 0] else .tuple #[.int .u32 0, .int .i64 2, .int .i64 0]) := by
  have hr : refuseM (cmpdM [nmAt a, ldAt of n]) l 0 = 0 := refuse_ok (loads_check a of n ho (by omega)) hF (.inl rfl)
  have e : loadM ⟨v, 0, b⟩ (ldAt of n) ⟨1, a⟩ = (if (baseM v of).2 = false then (⟨0, 0⟩ : Pm) else if (baseM v of).1 + a + n ≤ b.length then ⟨1, numAt b ((baseM v of).1 + a) n⟩ else ⟨2, 0⟩) := by
    show (if (baseM v of).2 = false then (⟨0, 0⟩ : Pm) else if (1 : Int) ≠ 1 then ⟨1, a⟩ else match numM b ((baseM v of).1 + a) (n : Int) with | none => ⟨2, 0⟩ | some k => ⟨1, k⟩) = _
    by_cases hb : (baseM v of).2 = false
    · rw [if_pos hb, if_pos hb]
    · rw [if_neg hb, if_neg hb, if_neg (by simp)]
      by_cases hs : (baseM v of).1 + a + n ≤ b.length
      · rw [if_pos hs, num_in hn hs]
      · rw [if_neg hs, num_out hs]
  unfold valueA
  rw [if_neg (by simpa using hr), loads_mean a of n hl, e]
  by_cases hb : (baseM v of).2 = false
  · rw [if_pos hb, if_pos hb]; rfl
  · rw [if_neg hb, if_neg hb]
    by_cases hs : (baseM v of).1 + a + n ≤ b.length
    · rw [if_pos hs, if_pos hs]
    · rw [if_neg hs, if_neg hs]; rfl
end Go.Proofs.YtnaifabifemhiabGreat
