/-
  A text cut at the first mark, and its parts; no Go text here.
-/
import Derived.Test.YtbklagdegnflgaaDoorAddrR
import Derived.Lib.IndexMore
namespace Go.Proofs.YtbklagdegnflgaaDoor
open Go.RowKit
set_option maxRecDepth 100000

theorem idx_none (b : UInt8) (s : List UInt8) (h : b ∉ s) : Lib.index s [b] = -1 := by
  induction s with
  | nil => rfl
  | cons c r ih =>
    have hc : (b == c) = false := by rw [beq_eq_false_iff_ne]; intro e; exact h (by rw [e]; simp)
    rw [Lib.index, show ([b] : List UInt8).isPrefixOf (c :: r) = false by simp [List.isPrefixOf, hc], ih (fun e => h (by simp [e]))]
    rfl
theorem idx_at (b : UInt8) (x y : List UInt8) (h : b ∉ x) : Lib.index (x ++ b :: y) [b] = (x.length : Int) := by
  induction x with
  | nil => simp [Lib.index, List.isPrefixOf]
  | cons c r ih =>
    have hc : (b == c) = false := by rw [beq_eq_false_iff_ne]; intro e; exact h (by rw [e]; simp)
    rw [List.cons_append, Lib.index, show ([b] : List UInt8).isPrefixOf (c :: (r ++ b :: y)) = false by simp [List.isPrefixOf, hc], ih (fun e => h (by simp [e]))]
    have : ((r.length : Int) == -1) = false := by rw [beq_eq_false_iff_ne]; omega
    rw [this]
    simp

/-- A text cut at a letter. -/
theorem cut_one (b : UInt8) (s : List UInt8) : (Lib.cut s [b] = (s, [], false) ∧ splitV b s = [s]) ∨ (∃ x y, Lib.cut s [b] = (x, y, true) ∧ splitV b s = x :: splitV b y ∧ x.length + y.length + 1 = s.length) := by
  by_cases h : b ∈ s
  · right
    obtain ⟨x, y, rfl, hx⟩ := List.eq_append_cons_of_mem h
    refine ⟨x, y, ?_, ?_, ?_⟩
    · rw [Lib.cut, idx_at b x y hx, if_pos (by omega)]
      simp only [Int.toNat_natCast, List.take_left, List.length_cons, List.length_nil]
      rw [← List.drop_drop, List.drop_left]
      rfl
    · unfold splitV
      rw [splitG_piece b [] x y hx]
      rfl
    · simp
      omega
  · left
    refine ⟨?_, ?_⟩
    · rw [Lib.cut, idx_none b s h, if_neg (by decide)]
    · unfold splitV
      rw [splitG_plain b [] s h]
      rfl

theorem idx_gap (s : List UInt8) : Lib.index s [58, 58] = gapI (gapV s) := by
  induction s with
  | nil => rfl
  | cons a r ih =>
    rw [Lib.index, gapV, ih]
    by_cases h : a = 58 ∧ r.head? = some 58
    · rw [if_pos h]
      obtain ⟨rfl, h2⟩ := h
      cases r with
      | nil => cases h2
      | cons c r =>
        simp only [List.head?_cons, Option.some.injEq] at h2
        subst h2
        rw [if_pos (by simp [List.isPrefixOf])]
        rfl
    · rw [if_neg h]
      have hp : ([58, 58] : List UInt8).isPrefixOf (a :: r) = false := by
        cases r with
        | nil => simp [List.isPrefixOf]
        | cons c r =>
          simp only [List.head?_cons, Option.some.injEq] at h
          by_cases ha : a = 58
          · have hc : ((58 : UInt8) == c) = false := by rw [beq_eq_false_iff_ne]; intro e; exact h ⟨ha, e.symm⟩
            simp [List.isPrefixOf, hc]
          · have hc : ((58 : UInt8) == a) = false := by rw [beq_eq_false_iff_ne]; intro e; exact ha e.symm
            simp [List.isPrefixOf, hc]
      rw [hp]
      cases gapV r with
      | none => rfl
      | some k =>
        have : (((k : Nat) : Int) == -1) = false := by rw [beq_eq_false_iff_ne]; omega
        simp only [gapI, Option.map_some, this, Bool.false_eq_true, if_false]
        omega

theorem cut_gap_none (s : List UInt8) (h : gapV s = none) : Lib.cut s [58, 58] = (s, [], false) := by
  rw [Lib.cut, idx_gap, h]
  rfl
theorem cut_gap_some (s : List UInt8) (k : Nat) (h : gapV s = some k) : Lib.cut s [58, 58] = (s.take k, s.drop (k + 2), true) := by
  rw [Lib.cut, idx_gap, h]
  simp [gapI]

/-- Parts, numbered. -/
def numF {α : Type} : Nat → List α → List (Nat × α)
  | _, [] => []
  | i, x :: r => (i, x) :: numF (i + 1) r

theorem numF_len {α : Type} (i : Nat) (l : List α) : (numF i l).length = l.length := by
  induction l generalizing i with
  | nil => rfl
  | cons x r ih => rw [numF, List.length_cons, List.length_cons, ih]
theorem numF_snd {α : Type} (i : Nat) (l : List α) : (numF i l).map (·.2) = l := by
  induction l generalizing i with
  | nil => rfl
  | cons x r ih => rw [numF, List.map_cons, ih]
theorem numF_append {α : Type} (i : Nat) (a b : List α) : numF i (a ++ b) = numF i a ++ numF (i + a.length) b := by
  induction a generalizing i with
  | nil => simp [numF]
  | cons x r ih => rw [List.cons_append, numF, numF, ih, List.length_cons, List.cons_append, show i + 1 + r.length = i + (r.length + 1) by omega]
theorem numF_at {α : Type} (i : Nat) (l : List α) (j : Nat) (h : j < l.length) : (numF i l)[j]? = some (i + j, l[j]) := by
  induction l generalizing i j with
  | nil => simp at h
  | cons x r ih =>
    cases j with
    | zero => rfl
    | succ j =>
      rw [numF, List.getElem?_cons_succ, ih (i + 1) j (by simpa using h)]
      simp
      omega
theorem numF_pre {α : Type} {i : Nat} {l : List α} {pre : List (Nat × α)} (h : pre <+: numF i l) : pre = numF i (pre.map (·.2)) ∧ pre.map (·.2) <+: l := by
  obtain ⟨t, ht⟩ := h
  have hl : (pre.map (·.2)) ++ t.map (·.2) = l := by rw [← List.map_append, ht, numF_snd]
  refine ⟨?_, ⟨_, hl⟩⟩
  have e := numF_append i (pre.map (·.2)) (t.map (·.2))
  rw [hl, ← ht] at e
  have := List.append_inj e (by rw [numF_len, List.length_map])
  exact this.1

end Go.Proofs.YtbklagdegnflgaaDoor
