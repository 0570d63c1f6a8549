/-
  There and back: Decode of Encode, Encode of Decode.
-/
import Derived.Test.YtoimhggpblkcgaaDecR
namespace Go.Proofs.Ytoimhggpblkcgaa
open Go.RowKit

theorem bytesV2 (v : Nat) : bytesV 2 v = [UInt8.ofNat (shr8 v 1), UInt8.ofNat (shr8 v 0)] := rfl
theorem bytesV4 (v : Nat) : bytesV 4 v = [UInt8.ofNat (shr8 v 3), UInt8.ofNat (shr8 v 2), UInt8.ofNat (shr8 v 1), UInt8.ofNat (shr8 v 0)] := rfl
theorem shrN1 (v : Nat) : shr8 v 1 = v / 256 := by simp [shr8]
theorem shrN2 (v : Nat) : shr8 v 2 = v / 65536 := by simp [shr8]
theorem shrN3 (v : Nat) : shr8 v 3 = v / 16777216 := by simp [shr8]

theorem encI_eq (x : In) : encI x = [UInt8.ofNat (x.code.toNat / 256), UInt8.ofNat x.code.toNat, x.jt, x.jf, UInt8.ofNat (x.k.toNat / 16777216), UInt8.ofNat (x.k.toNat / 65536), UInt8.ofNat (x.k.toNat / 256), UInt8.ofNat x.k.toNat] := by
  unfold encI
  rw [bytesV2, bytesV4, shrN1, shrN1, shrN2, shrN3, shr8_zero, shr8_zero]
  rfl

theorem encS_cons (x : In) (xs : List In) : encS (x :: xs) = encI x ++ encS xs := rfl

theorem encS_get (xs : List In) (j t : Nat) (hj : j < xs.length) (ht : t < 8) : (encS xs).getD (8 * j + t) 0 = (encI xs[j]).getD t 0 := by
  induction xs generalizing j with
  | nil => simp at hj
  | cons x xs ih =>
    have hl := encI_len x
    rw [encS_cons]
    simp only [List.getD_eq_getElem?_getD]
    cases j with
    | zero => rw [List.getElem?_append_left (by omega)]; simp
    | succ j =>
      rw [List.getElem?_append_right (by omega), hl, show 8 * (j + 1) + t - 8 = 8 * j + t by omega]
      have := ih j (by simpa using hj)
      simp only [List.getD_eq_getElem?_getD] at this
      rw [this]
      simp

theorem decAt_enc (xs : List In) (j : Nat) (hj : j < xs.length) : decAt (encS xs) j = xs[j] := by
  have g0 := encS_get xs j 0 hj (by omega)
  have g1 := encS_get xs j 1 hj (by omega)
  have g2 := encS_get xs j 2 hj (by omega)
  have g3 := encS_get xs j 3 hj (by omega)
  have g4 := encS_get xs j 4 hj (by omega)
  have g5 := encS_get xs j 5 hj (by omega)
  have g6 := encS_get xs j 6 hj (by omega)
  have g7 := encS_get xs j 7 hj (by omega)
  generalize xs[j] = x at *
  rw [encI_eq] at g0 g1 g2 g3 g4 g5 g6 g7
  simp only [List.getD_cons_zero, List.getD_cons_succ, Nat.add_zero] at g0 g1 g2 g3 g4 g5 g6 g7
  have hc := x.code.toNat_lt
  have hk := x.k.toNat_lt
  have n2 : numAt (encS xs) (8 * j) 2 = x.code.toNat := by
    simp only [numAt, Nat.add_zero, g0, g1]
    simp
    omega
  have n4 : numAt (encS xs) (8 * j + 4) 4 = x.k.toNat := by
    simp only [numAt, Nat.add_zero, Nat.add_assoc, Nat.reduceAdd, g4, g5, g6, g7]
    simp
    omega
  unfold decAt
  rw [n2, n4, g2, g3]
  simp

theorem decP_enc (xs : List In) (k : Nat) (hk : k ≤ xs.length) : decP (encS xs) k = xs.take k := by
  induction k with
  | zero => rfl
  | succ k ih => rw [decP, ih (by omega), decAt_enc xs k (by omega), List.take_succ_eq_append_getElem (by omega)]

theorem dec_enc (xs : List In) (h : xs.length ≤ 4096) : decV (encS xs) = xs ∧ decE (encS xs) = 0 := by
  have hl := encS_len xs
  have e : decE (encS xs) = 0 := by
    unfold decE
    rw [if_neg (by omega), if_neg (by omega)]
  refine ⟨?_, e⟩
  unfold decV
  rw [if_pos e, hl, show 8 * xs.length / 8 = xs.length by omega, decP_enc xs xs.length (Nat.le_refl _), List.take_length]

theorem encI_dec (bs : List UInt8) (k : Nat) (h : 8 * k + 8 ≤ bs.length) : encI (decAt bs k) = (bs.drop (8 * k)).take 8 := by
  have l0 : 8 * k < bs.length := by omega
  have e : (bs.drop (8 * k)).take 8 = [bs.getD (8 * k + 0) 0, bs.getD (8 * k + 1) 0, bs.getD (8 * k + 2) 0, bs.getD (8 * k + 3) 0, bs.getD (8 * k + 4) 0, bs.getD (8 * k + 5) 0, bs.getD (8 * k + 6) 0, bs.getD (8 * k + 7) 0] := by
    apply List.ext_getElem
    · simp; omega
    · intro i h1 h2
      simp only [List.length_cons, List.length_nil] at h2
      have hi : 8 * k + i < bs.length := by omega
      rw [List.getElem_take, List.getElem_drop]
      rcases (show i = 0 ∨ i = 1 ∨ i = 2 ∨ i = 3 ∨ i = 4 ∨ i = 5 ∨ i = 6 ∨ i = 7 by omega) with rfl | rfl | rfl | rfl | rfl | rfl | rfl | rfl
      · simp [l0]
      all_goals simp [hi]
  rw [encI_eq, e]
  have h2 := numAt_lt bs (8 * k) 2
  have h4 := numAt_lt bs (8 * k + 4) 4
  have e2 : (decAt bs k).code.toNat = numAt bs (8 * k) 2 := by simp only [decAt]; simp; omega
  have e4 : (decAt bs k).k.toNat = numAt bs (8 * k + 4) 4 := by simp only [decAt]; simp; omega
  have b0 := (bs.getD (8 * k + 0) 0).toNat_lt
  have b1 := (bs.getD (8 * k + 1) 0).toNat_lt
  have b4 := (bs.getD (8 * k + 4) 0).toNat_lt
  have b5 := (bs.getD (8 * k + 5) 0).toNat_lt
  have b6 := (bs.getD (8 * k + 6) 0).toNat_lt
  have b7 := (bs.getD (8 * k + 7) 0).toNat_lt
  rw [e2, e4]
  simp only [numAt, Nat.zero_mul, Nat.zero_add, Nat.add_assoc, Nat.reduceAdd] at *
  have byte : ∀ (n : Nat) (u : UInt8), n % 256 = u.toNat → UInt8.ofNat n = u := fun n u h => by
    apply UInt8.toNat_inj.1
    rw [← h]
    simp
  rw [byte _ (bs.getD (8 * k + 0) 0) (by omega), byte _ (bs.getD (8 * k + 1) 0) (by omega), byte _ (bs.getD (8 * k + 4) 0) (by omega), byte _ (bs.getD (8 * k + 5) 0) (by omega), byte _ (bs.getD (8 * k + 6) 0) (by omega), byte _ (bs.getD (8 * k + 7) 0) (by omega)]
  rfl

theorem enc_decP (bs : List UInt8) (k : Nat) (h : 8 * k ≤ bs.length) : encS (decP bs k) = bs.take (8 * k) := by
  induction k with
  | zero => rfl
  | succ k ih =>
    have ea : ∀ xs ys : List In, encS (xs ++ ys) = encS xs ++ encS ys := fun xs ys => by simp only [encS, List.flatMap_append]
    rw [decP, ea, ih (by omega), show encS [decAt bs k] = encI (decAt bs k) by simp [encS], encI_dec bs k (by omega), show 8 * (k + 1) = 8 * k + 8 by omega, List.take_add]

theorem enc_dec (bs : List UInt8) (h : decE bs = 0) : encV (decV bs) = bs ∧ encE (decV bs) = 0 := by
  have h' := h
  unfold decE at h'
  split at h'
  · simp at h'
  · split at h'
    · simp at h'
    · rename_i h1 h2
      have e : decV bs = decP bs (bs.length / 8) := by simp [decV, h]
      have hl := decP_len bs (bs.length / 8)
      have h3 : (decP bs (bs.length / 8)).length ≤ 4096 := by omega
      refine ⟨?_, by rw [e]; simp only [encE, if_pos h3]⟩
      rw [e]
      simp only [encV, if_pos h3]
      rw [enc_decP bs _ (by omega), show 8 * (bs.length / 8) = bs.length by omega, List.take_length]

theorem encS_append (xs ys : List In) : encS (xs ++ ys) = encS xs ++ encS ys := by simp only [encS, List.flatMap_append]

end Go.Proofs.Ytoimhggpblkcgaa
