/-
  Programs that are taken: one ahead of the other, and with instructions ahead. No Go text here.
-/
import Derived.Test.YtaldhnionkacmabReachR
namespace Go.Proofs.Ytaldhnionkacmab
open Go.RowKit
set_option maxRecDepth 100000

theorem firstBad_all {n i : Nat} {xs : List In} (h : ∀ j (hj : j < xs.length), badV n (i + j) xs[j] = 0) : firstBad n i xs = none := by
  induction xs generalizing i with
  | nil => rfl
  | cons x xs ih =>
    have h0 := h 0 (by simp)
    simp only [Nat.add_zero, List.getElem_cons_zero] at h0
    rw [firstBad, if_pos h0]
    refine ih (fun j hj => ?_)
    have := h (j + 1) (by simpa using hj)
    simpa [Nat.add_assoc, Nat.add_comm, Nat.add_left_comm] using this

theorem taken_of {xs : List In} (h1 : 0 < xs.length) (h2 : xs.length ≤ 4096) (h3 : ∀ j (hj : j < xs.length), badV xs.length j xs[j] = 0) (h4 : lastB xs = true) : checkV xs = (0, 0) := by
  rw [checkV, if_neg (by omega), if_neg (by omega), firstBad_all (by intro j hj; simpa using h3 j hj), endV, if_pos h4]

theorem bad_of {n i : Nat} {x : In} (h1 : faultV x.code.toNat x.k.toNat = 0) (h2 : jumpBad x.code.toNat x.jt.toNat x.jf.toNat x.k.toNat (n - 1 - i) = false) : badV n i x = 0 := by
  rw [badV, if_pos h1, if_neg (by rw [h2]; simp)]

theorem bad_shift (n m i : Nat) (x : In) : badV (n + m) (i + m) x = badV n i x := by
  unfold badV
  rw [show n + m - 1 - (i + m) = n - 1 - i by omega]

theorem jumpBad_mono {c : Int} {t f k r s : Nat} (h : jumpBad c t f k r = false) (hrs : r ≤ s) : jumpBad c t f k s = false := by
  unfold jumpBad at *
  simp only [Bool.or_eq_false_iff, Bool.and_eq_false_iff, decide_eq_false_iff_not, Nat.not_le] at *
  refine ⟨?_, ?_⟩
  · rcases h.1 with q | q
    · exact .inl q
    · exact .inr (by omega)
  · rcases h.2 with q | q
    · exact .inl q
    · exact .inr ⟨by omega, by omega⟩

theorem bad_mono {n m i : Nat} {x : In} (h : badV n i x = 0) (hnm : n ≤ m) : badV m i x = 0 := by
  obtain ⟨h1, h2⟩ := bad_zero h
  exact bad_of h1 (jumpBad_mono h2 (by omega))

theorem lastB_app (xs ys : List In) (h : ys ≠ []) : lastB (xs ++ ys) = lastB ys := by
  unfold lastB
  rw [List.getLast?_append]
  cases hy : ys.getLast? with
  | none => exact absurd (List.getLast?_eq_none_iff.1 hy) h
  | some y => rfl

/-- P4.3: one that is taken behind one that is taken. -/
theorem taken_app {xs ys : List In} (hx : (checkV xs).2 = 0) (hy : (checkV ys).2 = 0) (hl : xs.length + ys.length ≤ 4096) : checkV (xs ++ ys) = (0, 0) := by
  obtain ⟨a1, a2, a3, a4⟩ := taken hx
  obtain ⟨b1, b2, b3, b4⟩ := taken hy
  refine taken_of (by simp; omega) (by simpa using hl) (fun j hj => ?_) (by rw [lastB_app _ _ (by intro e; rw [e] at b1; simp at b1)]; exact b4)
  rw [List.length_append]
  by_cases h : j < xs.length
  · rw [List.getElem_append_left h]
    exact bad_mono (a3 j h) (by omega)
  · rw [List.getElem_append_right (by omega)]
    have hj2 : j - xs.length < ys.length := by simp at hj; omega
    have := b3 (j - xs.length) hj2
    rw [← bad_shift ys.length xs.length (j - xs.length)] at this
    rw [show xs.length + ys.length = ys.length + xs.length by omega]
    rw [show j - xs.length + xs.length = j by omega] at this
    exact this

/-- P4.3: with instructions ahead that go straight on. -/
theorem taken_ahead {xs ps : List In} (hx : (checkV xs).2 = 0) (hl : ps.length + xs.length ≤ 4096) (ha : ∀ x ∈ ps, faultV x.code.toNat x.k.toNat = 0 ∧ ((x.code.toNat : Int) == 5) = false ∧ jumpB x.code.toNat = false) : checkV (ps ++ xs) = (0, 0) := by
  obtain ⟨a1, a2, a3, a4⟩ := taken hx
  refine taken_of (by simp; omega) (by simpa using hl) (fun j hj => ?_) (by rw [lastB_app _ _ (by intro e; rw [e] at a1; simp at a1)]; exact a4)
  rw [List.length_append]
  by_cases h : j < ps.length
  · rw [List.getElem_append_left h]
    obtain ⟨f1, f2, f3⟩ := ha ps[j] (List.getElem_mem h)
    exact bad_of f1 (by rw [jumpBad, f2, f3]; rfl)
  · rw [List.getElem_append_right (by omega)]
    have hj2 : j - ps.length < xs.length := by simp at hj; omega
    have := a3 (j - ps.length) hj2
    rw [← bad_shift xs.length ps.length (j - ps.length)] at this
    rw [show ps.length + xs.length = xs.length + ps.length by omega]
    rw [show j - ps.length + ps.length = j by omega] at this
    exact this

end Go.Proofs.Ytaldhnionkacmab
