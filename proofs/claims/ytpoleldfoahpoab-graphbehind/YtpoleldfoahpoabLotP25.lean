/-
  What holds of every run through a graph that is taken: its steps; blocks that can't be come to. No Go text here. One more block at a graph's end; two instructions ahead of its first block's. No Go text here.
-/
import Derived.Test.YtpoleldfoahpoabGrL
import Derived.Test.YtpoleldfoahpoabGrI
namespace Go.Proofs.Ytpoleldfoahpoab
open Go.RowKit
set_option maxRecDepth 100000

theorem codeF_pos {pk : List UInt8} : ∀ (xs : List In) (M : Mc), (codeF pk xs M).2.1 ≠ 0 → 1 ≤ (codeF pk xs M).2.2
  | [], M, h => absurd rfl h
  | x :: r, M, h => by
    rw [codeF] at h ⊢
    split
    · simp
    · simp
theorem countG_drop (f : Bk → Nat) (g : List Bk) {i j : Nat} (h : i ≤ j) : countG f (g.drop j) ≤ countG f (g.drop i) := by
  obtain ⟨d, rfl⟩ : ∃ d, j = i + d := ⟨j - i, by omega⟩
  rw [← List.drop_drop]
  generalize g.drop i = l
  induction d generalizing l with
  | zero => simp
  | succ d ih =>
    cases l with
    | nil => simp
    | cons b r =>
      rw [List.drop_succ_cons, countG_cons]
      have := ih (by omega) r
      omega
theorem countG_at (f : Bk → Nat) {g : List Bk} {k : Nat} (hk : k < g.length) : countG f (g.drop k) = g[k].code.length + f g[k] + countG f (g.drop (k + 1)) := by
  rw [List.drop_eq_getElem_cons hk, countG_cons]
theorem size_meas (g : List Bk) : countG sizeE g ≤ countG measE g := by
  induction g with
  | nil => simp [countG]
  | cons b r ih =>
    rw [countG_cons, countG_cons]
    have : sizeE b ≤ measE b := by
      unfold sizeE measE
      split <;> split <;> omega
    omega

/-- How many steps a run takes; a fault gives the value 0. -/
theorem goG_steps {g : List Bk} (T : TakenG g) (pk : List UInt8) : ∀ (f k : Nat) (M : Mc), k < g.length → g.length ≤ f + k → 1 ≤ (goG g pk f k M).2.2 ∧ (goG g pk f k M).2.2 ≤ countG sizeE (g.drop k) ∧ ((goG g pk f k M).2.1 ≠ 0 → (goG g pk f k M).1 = 0)
  | 0, k, M, hk, hf => absurd hk (by omega)
  | f + 1, k, M, hk, hf => by
    obtain ⟨r, hr⟩ : ∃ r, codeF pk g[k].code M = r := ⟨_, rfl⟩
    have hl := codeF_le (pk := pk) g[k].code M
    have hp := codeF_pos (pk := pk) g[k].code M
    rw [hr] at hl hp
    rw [goG_eq hk r hr, countG_at sizeE hk]
    have hT := T.ok k hk
    have hnx := leads_next hT.2.1 hT.2.2
    by_cases h0 : r.2.1 ≠ 0
    · rw [if_pos h0]
      exact ⟨hp h0, by show r.2.2 ≤ _; omega, fun _ => rfl⟩
    · rw [if_neg h0]
      rcases ends_cases hT.2.1 with he | he | he
      · rw [if_pos he]
        have hs : sizeE g[k] = 1 := by rw [sizeE, if_neg (by omega)]
        refine ⟨by show 1 ≤ r.2.2 + 1; omega, by show r.2.2 + 1 ≤ _; omega, fun h => absurd rfl h⟩
      · rw [if_neg (by omega), if_pos he]
        have hy := hnx g[k].yes.toNat (by rw [nextL, if_neg (by omega), if_pos he]; simp)
        obtain ⟨i1, i2, i3⟩ := goG_steps T pk f g[k].yes.toNat r.1 hy.2 (by omega)
        have hd := countG_drop sizeE g (show k + 1 ≤ g[k].yes.toNat by omega)
        refine ⟨by show 1 ≤ r.2.2 + _; omega, by show r.2.2 + _ ≤ _; omega, i3⟩
      · rw [if_neg (by omega), if_neg (by omega)]
        have hs : sizeE g[k] = 1 := by rw [sizeE, if_neg (by omega)]
        have hj : (if asksV g[k].last r.1 = true then g[k].yes else g[k].no).toNat ∈ nextL g[k] := by
          rw [nextL, if_neg (by omega), if_neg (by omega)]
          split <;> simp
        have hy := hnx _ hj
        obtain ⟨i1, i2, i3⟩ := goG_steps T pk f _ r.1 hy.2 (by omega)
        have hd := countG_drop sizeE g (show k + 1 ≤ _ by exact hy.1)
        refine ⟨by show 1 ≤ r.2.2 + 1 + _; omega, by show r.2.2 + 1 + _ ≤ _; omega, i3⟩

theorem runG_steps {g : List Bk} {pk : List UInt8} (h : (checkG g).2 = 0) (hp : pk.length ≤ 65536) : runGE g pk = 0 ∧ 1 ≤ (runG g pk).2.2 ∧ (runG g pk).2.2 ≤ countG sizeE g ∧ ((runG g pk).2.1 ≠ 0 → (runG g pk).1 = 0) := by
  have T := taken_g h
  have e : runGE g pk = 0 := by rw [runGE, if_pos h, if_neg (by omega)]
  refine ⟨e, ?_⟩
  rw [runG, if_pos e]
  exact goG_steps T pk g.length 0 mc0 T.pos (by omega)

/-- What makes a graph one that is taken. -/
theorem firstG_zero {n : Nat} : ∀ {i : Nat} {room : Int} {g : List Bk}, (∀ j (hj : j < g.length), straightB g[j].code = true ∧ endsB g[j] = true ∧ leadsB g[j] (i + j) n = true) → ((codeLen g : Nat) : Int) ≤ room → firstG n i room g = (0, 0)
  | _, _, [], _, _ => rfl
  | i, room, b :: r, h, hr => by
    rw [codeLen_cons] at hr
    obtain ⟨h1, h2, h3⟩ := h 0 (by simp)
    simp only [List.getElem_cons_zero, Nat.add_zero] at h1 h2 h3
    have hz : faultB b i n (room - b.code.length) = 0 := by
      rw [faultB, if_neg (by omega), if_neg (by rw [h1]; simp), if_neg (by rw [h2]; simp), if_neg (by rw [h3]; simp)]
    rw [firstG, if_pos hz]
    refine firstG_zero (fun j hj => ?_) (by omega)
    have := h (j + 1) (by simpa using hj)
    rw [show i + (j + 1) = i + 1 + j by omega] at this
    exact this
theorem check_of {g : List Bk} (T : TakenG g) : checkG g = (0, 0) := by
  have h0 := T.pos
  have h1 := T.few
  rw [checkG, if_neg (by omega), if_neg (by omega)]
  refine firstG_zero (fun j hj => ?_) (by have := T.room; omega)
  rw [Nat.zero_add]
  exact T.ok j hj

/-- A block that ends at once. -/
def deadB : Bk := ⟨[], 1, ⟨6, 0, 0, 12345⟩, 0, 0⟩
/-- The blocks that are not marked, of the first k, are taken away. -/
def prG (r : List Bool) (g : List Bk) : Nat → List Bk
  | 0 => g
  | k + 1 => if r.getD k false = true then prG r g k else (prG r g k).set k deadB
theorem prG_len (r : List Bool) (g : List Bk) (k : Nat) : (prG r g k).length = g.length := by
  induction k with
  | zero => rfl
  | succ k ih =>
    rw [prG]
    split
    · exact ih
    · rw [List.length_set]; exact ih
theorem prG_get (r : List Bool) (g : List Bk) (k : Nat) : ∀ i (hi : i < g.length), (prG r g k)[i]'(by rw [prG_len]; exact hi) = if i < k ∧ r.getD i false = false then deadB else g[i] := by
  induction k with
  | zero => intro i hi; simp [prG]
  | succ k ih =>
    intro i hi
    have e := ih i hi
    have hlt : i < k + 1 ↔ i < k ∨ i = k := by omega
    by_cases hr : r.getD k false = true
    · have e1 : prG r g (k + 1) = prG r g k := by rw [prG, if_pos hr]
      simp only [e1]
      rw [e]
      by_cases hik : i = k
      · subst hik
        rw [if_neg (by omega), if_neg (by rw [hr]; simp)]
      · congr 1
        simp [hlt, hik]
    · have e1 : prG r g (k + 1) = (prG r g k).set k deadB := by rw [prG, if_neg hr]
      simp only [e1]
      rw [List.getElem_set]
      by_cases hik : k = i
      · subst hik
        rw [if_pos rfl, if_pos ⟨by omega, by simpa using hr⟩]
      · rw [if_neg hik, e]
        congr 1
        simp [hlt, Ne.symm hik]

theorem codeLen_set_le (g : List Bk) : ∀ k, codeLen (g.set k deadB) ≤ codeLen g := by
  induction g with
  | nil => intro k; simp
  | cons b r ih =>
    intro k
    cases k with
    | zero => rw [List.set_cons_zero, codeLen_cons, codeLen_cons]; show 0 + _ ≤ _; omega
    | succ k => rw [List.set_cons_succ, codeLen_cons, codeLen_cons]; have := ih k; omega
theorem prG_codeLen (r : List Bool) (g : List Bk) (k : Nat) : codeLen (prG r g k) ≤ codeLen g := by
  induction k with
  | zero => exact Nat.le_refl _
  | succ k ih =>
    rw [prG]
    split
    · exact ih
    · exact Nat.le_trans (codeLen_set_le _ _) ih

theorem prG_taken {g : List Bk} (T : TakenG g) (r : List Bool) (k : Nat) : TakenG (prG r g k) := by
  refine ⟨by rw [prG_len]; exact T.pos, by rw [prG_len]; exact T.few, fun j hj => ?_, Nat.le_trans (prG_codeLen r g k) T.room⟩
  have hj' : j < g.length := by rwa [prG_len] at hj
  rw [prG_get r g k j hj', prG_len]
  split
  · exact ⟨rfl, by decide, by rw [leadsB, if_neg (by decide), if_neg (by decide)]⟩
  · exact T.ok j hj'

/-- A run comes to marked blocks alone. -/
theorem prG_go {g : List Bk} (T : TakenG g) {r : List Bool} (hr : ∀ i, r.getD i false = true ↔ Come g i) (m : Nat) (pk : List UInt8) : ∀ (f k : Nat) (M : Mc), Come g k → goG (prG r g m) pk f k M = goG g pk f k M
  | 0, _, _, _ => rfl
  | f + 1, k, M, hc => by
    have hk := come_lt T hc
    have hk' : k < (prG r g m).length := by rw [prG_len]; exact hk
    have e : (prG r g m)[k] = g[k] := by
      rw [prG_get r g m k hk, if_neg (fun h => by have := (hr k).2 hc; rw [h.2] at this; cases this)]
    rw [goG_eq hk' _ rfl, goG_eq hk _ rfl, e]
    have hnx : ∀ j ∈ nextL g[k], Come g j := fun j hj => .next hc hk hj
    rcases ends_cases (T.ok k hk).2.1 with he | he | he
    · simp only [he, if_true]
    · have h1 := prG_go T hr m pk f g[k].yes.toNat (codeF pk g[k].code M).1 (hnx _ (by rw [nextL, if_neg (by omega), if_pos he]; simp))
      rw [if_pos he, if_pos he, h1]
    · have h1 := prG_go T hr m pk f (if asksV g[k].last (codeF pk g[k].code M).1 = true then g[k].yes else g[k].no).toNat (codeF pk g[k].code M).1 (hnx _ (by rw [nextL, if_neg (by omega), if_neg (by omega)]; split <;> simp))
      rw [h1, if_neg (show ¬ g[k].en = 2 by omega), if_neg (show ¬ g[k].en = 2 by omega)]

theorem prG_run {g : List Bk} {pk : List UInt8} (h : (checkG g).2 = 0) (m : Nat) : runG (prG (reachGTo g g.length) g m) pk = runG g pk ∧ runGE (prG (reachGTo g g.length) g m) pk = runGE g pk := by
  have T := taken_g h
  have T' := prG_taken T (reachGTo g g.length) m
  have e : (checkG (prG (reachGTo g g.length) g m)).2 = 0 := by rw [check_of T']
  have e2 : runGE (prG (reachGTo g g.length) g m) pk = runGE g pk := by rw [runGE, runGE, if_pos e, if_pos h]
  refine ⟨?_, e2⟩
  rw [runG, runG, e2, prG_len]
  split
  · exact prG_go T (reachG_all T).2 m pk _ 0 mc0 .first
  · rfl

end Go.Proofs.Ytpoleldfoahpoab

namespace Go.Proofs.Ytpoleldfoahpoab
open Go.RowKit
set_option maxRecDepth 100000

/-- Graphs whose blocks agree from m on: a run from there is the same, however much fuel. -/
theorem goG_agree {g g' : List Bk} (T : TakenG g) (m : Nat) (hl : g.length ≤ g'.length) (hag : ∀ k (hk : k < g.length), m ≤ k → g'[k]'(by omega) = g[k]) (pk : List UInt8) : ∀ (f f' k : Nat) (M : Mc), m ≤ k → k < g.length → g.length ≤ f + k → g.length ≤ f' + k → goG g' pk f' k M = goG g pk f k M
  | 0, _, _, _, _, hk, hf, _ => absurd hk (by omega)
  | _ + 1, 0, _, _, _, hk, _, hf' => absurd hk (by omega)
  | f + 1, f' + 1, k, M, hm, hk, hf, hf' => by
    have hk' : k < g'.length := by omega
    rw [goG_eq hk' _ rfl, goG_eq hk _ rfl, hag k hk hm]
    have hT := T.ok k hk
    have hnx := leads_next hT.2.1 hT.2.2
    rcases ends_cases hT.2.1 with he | he | he
    · simp only [he, if_true]
    · have hy := hnx g[k].yes.toNat (by rw [nextL, if_neg (by omega), if_pos he]; simp)
      have h1 := goG_agree T m hl hag pk f f' g[k].yes.toNat (codeF pk g[k].code M).1 (by omega) hy.2 (by omega) (by omega)
      rw [if_pos he, if_pos he, h1]
    · have hy := hnx (if asksV g[k].last (codeF pk g[k].code M).1 = true then g[k].yes else g[k].no).toNat (by rw [nextL, if_neg (by omega), if_neg (by omega)]; split <;> simp)
      have h1 := goG_agree T m hl hag pk f f' (if asksV g[k].last (codeF pk g[k].code M).1 = true then g[k].yes else g[k].no).toNat (codeF pk g[k].code M).1 (by omega) hy.2 (by omega) (by omega)
      rw [h1, if_neg (show ¬ g[k].en = 2 by omega), if_neg (show ¬ g[k].en = 2 by omega)]

theorem ahead_more {i n : Nat} {y : Int} (h : aheadB i n y = true) : aheadB i (n + 1) y = true := by
  simp only [aheadB, Bool.and_eq_true, decide_eq_true_eq] at h ⊢
  omega
theorem leads_more {b : Bk} {i n : Nat} (h : leadsB b i n = true) : leadsB b i (n + 1) = true := by
  unfold leadsB at h ⊢
  split
  · rename_i h2
    rw [if_pos h2] at h
    exact ahead_more h
  · rename_i h2
    rw [if_neg h2] at h
    split
    · rename_i h3
      rw [if_pos h3, Bool.and_eq_true] at h
      rw [ahead_more h.1, ahead_more h.2]
      rfl
    · rfl

/-- A block that ends at once, by a value. -/
def endB (k : UInt32) : Bk := ⟨[], 1, ⟨6, 0, 0, k⟩, 0, 0⟩
theorem endB_ends (k : UInt32) : endsB (endB k) = true := by
  have h : inEq (endB k).last (bareV (endB k).last) = true := by
    have e : usesK ((6 : UInt16).toNat : Int) = true := by decide
    simp only [endB, bareV, inEq, e, if_true, beq_self_eq_true, Bool.and_self]
  rw [endsB, if_pos (show (endB k).en = 1 from rfl), h]
  rfl
theorem more_taken {g : List Bk} (T : TakenG g) (hl : g.length < 4096) (k : UInt32) : TakenG (g ++ [endB k]) := by
  refine ⟨by simp, by rw [List.length_append, List.length_singleton]; omega, fun j hj => ?_, ?_⟩
  · rw [List.length_append, List.length_singleton] at hj ⊢
    by_cases h : j < g.length
    · rw [List.getElem_append_left h]
      have := T.ok j h
      exact ⟨this.1, this.2.1, leads_more this.2.2⟩
    · rw [List.getElem_append_right (by omega)]
      simp only [List.getElem_singleton]
      exact ⟨rfl, endB_ends k, by rw [leadsB, if_neg (by simp [endB]), if_neg (by simp [endB])]⟩
  · have := T.room
    rw [codeLen, List.map_append, List.sum_append]
    show codeLen g + (0 + 0) ≤ 4096
    omega
theorem more_run {g : List Bk} {pk : List UInt8} (h : (checkG g).2 = 0) (hl : g.length < 4096) (k : UInt32) : runG (g ++ [endB k]) pk = runG g pk ∧ runGE (g ++ [endB k]) pk = runGE g pk := by
  have T := taken_g h
  have T' := more_taken T hl k
  have e : (checkG (g ++ [endB k])).2 = 0 := by rw [check_of T']
  have e2 : runGE (g ++ [endB k]) pk = runGE g pk := by rw [runGE, runGE, if_pos e, if_pos h]
  refine ⟨?_, e2⟩
  rw [runG, runG, e2]
  split
  · exact goG_agree T 0 (by simp) (fun j hj _ => List.getElem_append_left hj) pk _ _ 0 mc0 (Nat.le_refl _) T.pos (by omega) (by simp)
  · rfl

def ldI (k : UInt32) : In := ⟨0, 0, 0, k⟩
/-- A block with two loads ahead. -/
def twoB (k : UInt32) (b : Bk) : Bk := { b with code := ldI k :: ldI 0 :: b.code }
theorem ldI_plain (k : UInt32) : plainI (ldI k) = true := by
  have h1 : leavesB (ldI k) = false := by
    show (classV 0 == 5 || classV 0 == 6) = false
    decide
  have h2 : faultV ((0 : UInt16).toNat : Int) k.toNat = 0 := by
    have e1 : knownB ((0 : UInt16).toNat : Int) = true := by decide
    have e2 : memB ((0 : UInt16).toNat : Int) = false := by decide
    have e3 : divB ((0 : UInt16).toNat : Int) = false := by decide
    have e4 : shfB ((0 : UInt16).toNat : Int) = false := by decide
    rw [faultV, if_neg (by rw [e1]; simp), if_neg (by rw [e2]; simp), if_neg (by rw [e3]; simp), if_neg (by rw [e4]; simp)]
  simp only [plainI, h1]
  show (true && (faultV ((0 : UInt16).toNat : Int) k.toNat == 0)) = true
  rw [h2]
  rfl
theorem two_code (pk : List UInt8) (k : UInt32) (cs : List In) : codeF pk (ldI k :: ldI 0 :: cs) mc0 = ((codeF pk cs mc0).1, (codeF pk cs mc0).2.1, (codeF pk cs mc0).2.2 + 2) := by
  have s1 : ∀ (j : UInt32) (M : Mc), stepV ((ldI j).code.toNat : Int) (ldI j).k.toNat pk M = (⟨j.toNat, M.x, M.m⟩, 0) := fun j M => rfl
  rw [codeF, s1, if_pos rfl, codeF, s1, if_pos rfl]
  rfl
theorem two_taken {g : List Bk} (T : TakenG g) (hc : codeLen g ≤ 4094) (k : UInt32) (b : Bk) (r : List Bk) (hg : g = b :: r) : TakenG (twoB k b :: r) := by
  subst hg
  refine ⟨by simp, by have := T.few; simpa using this, fun j hj => ?_, ?_⟩
  · have hj' : j < (b :: r).length := by simpa using hj
    have h := T.ok j hj'
    cases j with
    | zero =>
      simp only [List.getElem_cons_zero, List.length_cons] at h ⊢
      refine ⟨?_, h.2.1, h.2.2⟩
      show (plainI (ldI k) && (plainI (ldI 0) && straightB b.code)) = true
      rw [ldI_plain, ldI_plain, h.1]
      rfl
    | succ j => exact h
  · rw [codeLen_cons] at hc ⊢
    show b.code.length + 1 + 1 + _ ≤ 4096
    omega
theorem two_run {b : Bk} {r : List Bk} {pk : List UInt8} (h : (checkG (b :: r)).2 = 0) (hc : codeLen (b :: r) ≤ 4094) (k : UInt32) (he : runGE (b :: r) pk = 0) : runG (twoB k b :: r) pk = addS 2 (runG (b :: r) pk) ∧ runGE (twoB k b :: r) pk = 0 := by
  have T := taken_g h
  have T' := two_taken T hc k b r rfl
  have e : (checkG (twoB k b :: r)).2 = 0 := by rw [check_of T']
  have e2 : runGE (twoB k b :: r) pk = 0 := by
    rw [← he, runGE, runGE, if_pos e, if_pos h]
  refine ⟨?_, e2⟩
  rw [runG, runG, if_pos e2, if_pos he]
  have hag : ∀ j (hj : j < (b :: r).length), 1 ≤ j → (twoB k b :: r)[j]'(by simpa using hj) = (b :: r)[j] := fun j hj h1 => by
    cases j with
    | zero => omega
    | succ j => rfl
  have AG := fun f k' M hm hk hf => goG_agree T 1 (g' := twoB k b :: r) (by simp) hag pk f f k' M hm hk hf hf
  simp only [List.length_cons]
  rw [goG_eq (g := twoB k b :: r) (by simp) _ rfl, goG_eq (g := b :: r) (by simp) _ rfl]
  simp only [List.getElem_cons_zero]
  have hT := T.ok 0 (by simp)
  have hnx := leads_next hT.2.1 hT.2.2
  simp only [List.getElem_cons_zero, List.length_cons] at hT hnx
  rw [show (twoB k b).code = ldI k :: ldI 0 :: b.code from rfl, two_code]
  simp only [show (twoB k b).en = b.en from rfl, show (twoB k b).last = b.last from rfl, show (twoB k b).yes = b.yes from rfl, show (twoB k b).no = b.no from rfl]
  by_cases h0 : (codeF pk b.code mc0).2.1 ≠ 0
  · rw [if_pos h0, if_pos h0]
    simp only [addS, Nat.add_comm]
  · rw [if_neg h0, if_neg h0]
    rcases ends_cases hT.2.1 with he | he | he
    · rw [if_pos he, if_pos he]
      simp only [addS]
      congr 2
      omega
    · rw [if_neg (show ¬ b.en = 1 by omega), if_neg (show ¬ b.en = 1 by omega), if_pos he, if_pos he]
      have hy := hnx b.yes.toNat (by rw [nextL, if_neg (by omega), if_pos he]; simp)
      rw [AG r.length b.yes.toNat _ (by omega) (by simpa using hy.2) (by simp; omega), addS_addS, Nat.add_comm]
    · rw [if_neg (show ¬ b.en = 1 by omega), if_neg (show ¬ b.en = 1 by omega), if_neg (show ¬ b.en = 2 by omega), if_neg (show ¬ b.en = 2 by omega)]
      have hy := hnx (if asksV b.last (codeF pk b.code mc0).1 = true then b.yes else b.no).toNat (by rw [nextL, if_neg (by omega), if_neg (by omega)]; split <;> simp)
      rw [AG r.length _ _ (by omega) (by simpa using hy.2) (by simp; omega), addS_addS]
      congr 1
      omega

end Go.Proofs.Ytpoleldfoahpoab
