/-
  What holds of every run through a graph that is taken: its steps; blocks that can't be come to. No Go text here.
-/
import Derived.Test.YtencoknpocipbaaGreatLotP36
import Derived.Test.YtencoknpocipbaaGreatLotP27
namespace Go.Proofs.YtencoknpocipbaaGreat
open Go.RowKit
set_option maxRecDepth 100000

theorem codeF_pos {pk : List UInt8} : ∀ (xs : List In) (M : Mc), (codeF pk xs M).2.1 ≠ 0 → 1 ≤ (codeF pk xs M).2.2
  | [], M, h => absurd rfl h
  | x :: r, M, h => by
    rw [codeF] at h ⊢
    split
    · simp
    · simp
theorem countG_drop (f : Bk → Nat) (g : List Bk) {i j : Nat} (h : i ≤ j) : countG f (g.drop j) ≤ countG f (g.drop i) := by
  obtain ⟨d, rfl⟩ : ∃ d, j = i + d := ⟨j - i, by omega⟩
  rw [← List.drop_drop]
  generalize g.drop i = l
  induction d generalizing l with
  | zero => simp
  | succ d ih =>
    cases l with
    | nil => simp
    | cons b r =>
      rw [List.drop_succ_cons, countG_cons]
      have := ih (by omega) r
      omega
theorem countG_at (f : Bk → Nat) {g : List Bk} {k : Nat} (hk : k < g.length) : countG f (g.drop k) = g[k].code.length + f g[k] + countG f (g.drop (k + 1)) := by
  rw [List.drop_eq_getElem_cons hk, countG_cons]
theorem size_meas (g : List Bk) : countG sizeE g ≤ countG measE g := by
  induction g with
  | nil => simp [countG]
  | cons b r ih =>
    rw [countG_cons, countG_cons]
    have : sizeE b ≤ measE b := by
      unfold sizeE measE
      split <;> split <;> omega
    omega

/-- How many steps a run takes; a fault gives the value 0. -/
theorem goG_steps {g : List Bk} (T : TakenG g) (pk : List UInt8) : ∀ (f k : Nat) (M : Mc), k < g.length → g.length ≤ f + k → 1 ≤ (goG g pk f k M).2.2 ∧ (goG g pk f k M).2.2 ≤ countG sizeE (g.drop k) ∧ ((goG g pk f k M).2.1 ≠ 0 → (goG g pk f k M).1 = 0)
  | 0, k, M, hk, hf => absurd hk (by omega)
  | f + 1, k, M, hk, hf => by
    obtain ⟨r, hr⟩ : ∃ r, codeF pk g[k].code M = r := ⟨_, rfl⟩
    have hl := codeF_le (pk := pk) g[k].code M
    have hp := codeF_pos (pk := pk) g[k].code M
    rw [hr] at hl hp
    rw [goG_eq hk r hr, countG_at sizeE hk]
    have hT := T.ok k hk
    have hnx := leads_next hT.2.1 hT.2.2
    by_cases h0 : r.2.1 ≠ 0
    · rw [if_pos h0]
      exact ⟨hp h0, by show r.2.2 ≤ _; omega, fun _ => rfl⟩
    · rw [if_neg h0]
      rcases ends_cases hT.2.1 with he | he | he
      · rw [if_pos he]
        have hs : sizeE g[k] = 1 := by rw [sizeE, if_neg (by omega)]
        refine ⟨by show 1 ≤ r.2.2 + 1; omega, by show r.2.2 + 1 ≤ _; omega, fun h => absurd rfl h⟩
      · rw [if_neg (by omega), if_pos he]
        have hy := hnx g[k].yes.toNat (by rw [nextL, if_neg (by omega), if_pos he]; simp)
        obtain ⟨i1, i2, i3⟩ := goG_steps T pk f g[k].yes.toNat r.1 hy.2 (by omega)
        have hd := countG_drop sizeE g (show k + 1 ≤ g[k].yes.toNat by omega)
        refine ⟨by show 1 ≤ r.2.2 + _; omega, by show r.2.2 + _ ≤ _; omega, i3⟩
      · rw [if_neg (by omega), if_neg (by omega)]
        have hs : sizeE g[k] = 1 := by rw [sizeE, if_neg (by omega)]
        have hj : (if asksV g[k].last r.1 = true then g[k].yes else g[k].no).toNat ∈ nextL g[k] := by
          rw [nextL, if_neg (by omega), if_neg (by omega)]
          split <;> simp
        have hy := hnx _ hj
        obtain ⟨i1, i2, i3⟩ := goG_steps T pk f _ r.1 hy.2 (by omega)
        have hd := countG_drop sizeE g (show k + 1 ≤ _ by exact hy.1)
        refine ⟨by show 1 ≤ r.2.2 + 1 + _; omega, by show r.2.2 + 1 + _ ≤ _; omega, i3⟩

theorem runG_steps {g : List Bk} {pk : List UInt8} (h : (gckG g).2 = 0) (hp : pk.length ≤ 65536) : runGE g pk = 0 ∧ 1 ≤ (runG g pk).2.2 ∧ (runG g pk).2.2 ≤ countG sizeE g ∧ ((runG g pk).2.1 ≠ 0 → (runG g pk).1 = 0) := by
  have T := taken_g h
  have e : runGE g pk = 0 := by rw [runGE, if_pos h, if_neg (by omega)]
  refine ⟨e, ?_⟩
  rw [runG, if_pos e]
  exact goG_steps T pk g.length 0 mc0 T.pos (by omega)

/-- A block that ends at once. -/
def deadB : Bk := ⟨[], 1, ⟨6, 0, 0, 12345⟩, 0, 0⟩
/-- The blocks that are not marked, of the first k, are taken away. -/
def prG (r : List Bool) (g : List Bk) : Nat → List Bk
  | 0 => g
  | k + 1 => if r.getD k false = true then prG r g k else (prG r g k).set k deadB
theorem prG_len (r : List Bool) (g : List Bk) (k : Nat) : (prG r g k).length = g.length := by
  induction k with
  | zero => rfl
  | succ k ih =>
    rw [prG]
    split
    · exact ih
    · rw [List.length_set]; exact ih
theorem prG_get (r : List Bool) (g : List Bk) (k : Nat) : ∀ i (hi : i < g.length), (prG r g k)[i]'(by rw [prG_len]; exact hi) = if i < k ∧ r.getD i false = false then deadB else g[i] := by
  induction k with
  | zero => intro i hi; simp [prG]
  | succ k ih =>
    intro i hi
    have e := ih i hi
    have hlt : i < k + 1 ↔ i < k ∨ i = k := by omega
    by_cases hr : r.getD k false = true
    · have e1 : prG r g (k + 1) = prG r g k := by rw [prG, if_pos hr]
      simp only [e1]
      rw [e]
      by_cases hik : i = k
      · subst hik
        rw [if_neg (by omega), if_neg (by rw [hr]; simp)]
      · congr 1
        simp [hlt, hik]
    · have e1 : prG r g (k + 1) = (prG r g k).set k deadB := by rw [prG, if_neg hr]
      simp only [e1]
      rw [List.getElem_set]
      by_cases hik : k = i
      · subst hik
        rw [if_pos rfl, if_pos ⟨by omega, by simpa using hr⟩]
      · rw [if_neg hik, e]
        congr 1
        simp [hlt, Ne.symm hik]

theorem codeLen_set_le (g : List Bk) : ∀ k, codeLen (g.set k deadB) ≤ codeLen g := by
  induction g with
  | nil => intro k; simp
  | cons b r ih =>
    intro k
    cases k with
    | zero => rw [List.set_cons_zero, codeLen_cons, codeLen_cons]; show 0 + _ ≤ _; omega
    | succ k => rw [List.set_cons_succ, codeLen_cons, codeLen_cons]; have := ih k; omega
theorem prG_codeLen (r : List Bool) (g : List Bk) (k : Nat) : codeLen (prG r g k) ≤ codeLen g := by
  induction k with
  | zero => exact Nat.le_refl _
  | succ k ih =>
    rw [prG]
    split
    · exact ih
    · exact Nat.le_trans (codeLen_set_le _ _) ih

theorem prG_taken {g : List Bk} (T : TakenG g) (r : List Bool) (k : Nat) : TakenG (prG r g k) := by
  refine ⟨by rw [prG_len]; exact T.pos, by rw [prG_len]; exact T.few, fun j hj => ?_, Nat.le_trans (prG_codeLen r g k) T.room⟩
  have hj' : j < g.length := by rwa [prG_len] at hj
  rw [prG_get r g k j hj', prG_len]
  split
  · exact ⟨rfl, by decide, by rw [leadsB, if_neg (by decide), if_neg (by decide)]⟩
  · exact T.ok j hj'

/-- A run comes to marked blocks alone. -/
theorem prG_go {g : List Bk} (T : TakenG g) {r : List Bool} (hr : ∀ i, r.getD i false = true ↔ Come g i) (m : Nat) (pk : List UInt8) : ∀ (f k : Nat) (M : Mc), Come g k → goG (prG r g m) pk f k M = goG g pk f k M
  | 0, _, _, _ => rfl
  | f + 1, k, M, hc => by
    have hk := come_lt T hc
    have hk' : k < (prG r g m).length := by rw [prG_len]; exact hk
    have e : (prG r g m)[k] = g[k] := by
      rw [prG_get r g m k hk, if_neg (fun h => by have := (hr k).2 hc; rw [h.2] at this; cases this)]
    rw [goG_eq hk' _ rfl, goG_eq hk _ rfl, e]
    have hnx : ∀ j ∈ nextL g[k], Come g j := fun j hj => .next hc hk hj
    rcases ends_cases (T.ok k hk).2.1 with he | he | he
    · simp only [he, if_true]
    · have h1 := prG_go T hr m pk f g[k].yes.toNat (codeF pk g[k].code M).1 (hnx _ (by rw [nextL, if_neg (by omega), if_pos he]; simp))
      rw [if_pos he, if_pos he, h1]
    · have h1 := prG_go T hr m pk f (if asksV g[k].last (codeF pk g[k].code M).1 = true then g[k].yes else g[k].no).toNat (codeF pk g[k].code M).1 (hnx _ (by rw [nextL, if_neg (by omega), if_neg (by omega)]; split <;> simp))
      rw [h1, if_neg (show ¬ g[k].en = 2 by omega), if_neg (show ¬ g[k].en = 2 by omega)]

theorem prG_run {g : List Bk} {pk : List UInt8} (h : (gckG g).2 = 0) (m : Nat) : runG (prG (reachGTo g g.length) g m) pk = runG g pk ∧ runGE (prG (reachGTo g g.length) g m) pk = runGE g pk := by
  have T := taken_g h
  have T' := prG_taken T (reachGTo g g.length) m
  have e : (gckG (prG (reachGTo g g.length) g m)).2 = 0 := by rw [check_of T']
  have e2 : runGE (prG (reachGTo g g.length) g m) pk = runGE g pk := by rw [runGE, runGE, if_pos e, if_pos h]
  refine ⟨?_, e2⟩
  rw [runG, runG, e2, prG_len]
  split
  · exact prG_go T (reachG_all T).2 m pk _ 0 mc0 .first
  · rfl

end Go.Proofs.YtencoknpocipbaaGreat
