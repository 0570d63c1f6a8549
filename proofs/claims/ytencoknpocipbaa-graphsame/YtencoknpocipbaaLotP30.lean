/-
  Which blocks can be come to. No Go text here. What holds of every run through a graph that is taken: its steps; blocks that can't be come to. No Go text here.
-/
import Derived.Test.YtencoknpocipbaaLotP5
import Derived.Test.YtencoknpocipbaaGrL
namespace Go.Proofs.Ytencoknpocipbaa
open Go.RowKit
set_option maxRecDepth 100000

theorem getD_set_b (bs : List Bool) (i j : Nat) (v : Bool) : (bs.set i v).getD j false = if i = j ∧ j < bs.length then v else bs.getD j false := by
  rw [List.getD_eq_getElem?_getD, List.getElem?_set, List.getD_eq_getElem?_getD]
  by_cases h : i = j
  · subst h
    by_cases hl : i < bs.length
    · simp [hl]
    · simp [hl]
  · simp [h]
/-- What holds while blocks are marked: the marks, those that are left to look at, the one that is looked at. -/
structure CmI (g : List Bk) (bs : List Bool) (ls : List Nat) (cur : Option Nat) : Prop where
  len : bs.length = g.length
  good : ∀ i, bs.getD i false = true → Come g i
  lst : ∀ i ∈ ls, Come g i
  now : ∀ c, cur = some c → Come g c
  zero : bs.getD 0 false = true ∨ 0 ∈ ls ∨ cur = some 0
  clos : ∀ i (hi : i < g.length), bs.getD i false = true → ∀ j ∈ nextL g[i], bs.getD j false = true ∨ j ∈ ls ∨ cur = some j

theorem CmI.first {g : List Bk} : CmI g (List.replicate g.length false) [0] none := by
  have hf : ∀ i, (List.replicate g.length false).getD i false = false := fun i => by
    rw [List.getD_eq_getElem?_getD, List.getElem?_replicate]
    split <;> rfl
  exact ⟨by simp, fun i h => (by rw [hf] at h; cases h), fun i hi => (by simp at hi; rw [hi]; exact .first), fun c h => (by cases h), .inr (.inl (by simp)), fun i _ h => (by rw [hf] at h; cases h)⟩
theorem CmI.pop {g : List Bk} {bs : List Bool} {ls : List Nat} {c : Nat} (h : CmI g bs (ls ++ [c]) none) : CmI g bs ls (some c) := by
  refine ⟨h.len, h.good, fun i hi => h.lst i (by simp [hi]), fun d hd => ?_, ?_, fun i hi hb j hj => ?_⟩
  · cases hd
    exact h.lst c (by simp)
  · rcases h.zero with e | e | e
    · exact .inl e
    · rcases List.mem_append.1 e with e | e
      · exact .inr (.inl e)
      · exact .inr (.inr (by simp at e; rw [e]))
    · cases e
  · rcases h.clos i hi hb j hj with e | e | e
    · exact .inl e
    · rcases List.mem_append.1 e with e | e
      · exact .inr (.inl e)
      · exact .inr (.inr (by simp at e; rw [e]))
    · cases e
theorem CmI.drop {g : List Bk} {bs : List Bool} {ls : List Nat} {c : Nat} (h : CmI g bs ls (some c)) (hc : bs.getD c false = true) : CmI g bs ls none := by
  refine ⟨h.len, h.good, h.lst, fun d hd => (by cases hd), ?_, fun i hi hb j hj => ?_⟩
  · rcases h.zero with e | e | e
    · exact .inl e
    · exact .inr (.inl e)
    · cases e
      exact .inl hc
  · rcases h.clos i hi hb j hj with e | e | e
    · exact .inl e
    · exact .inr (.inl e)
    · cases e
      exact .inl hc
/-- A block is marked; what follows on it is left to look at. -/
theorem CmI.mark {g : List Bk} {bs : List Bool} {ls ls' : List Nat} {cur' : Option Nat} {c : Nat} (h : CmI g bs ls (some c)) (hc : c < g.length) (hl : ∀ i, i ∈ ls' ↔ (i ∈ ls ∨ (i ∈ ls' ∧ i ∈ nextL g[c]))) (hsub : ∀ i ∈ ls, i ∈ ls') (hcur : ∀ d, cur' = some d → d ∈ nextL g[c])
    (hall : ∀ j ∈ nextL g[c], j ∈ ls' ∨ cur' = some j) : CmI g (bs.set c true) ls' cur' := by
  have hcc := h.now c rfl
  have hnx : ∀ j ∈ nextL g[c], Come g j := fun j hj => .next hcc hc hj
  have hlen := h.len
  have hm : ∀ j, bs.getD j false = true → (bs.set c true).getD j false = true := fun j hj => by
    rw [getD_set_b]
    split
    · rfl
    · exact hj
  have hself : (bs.set c true).getD c false = true := by
    rw [getD_set_b, if_pos ⟨rfl, by omega⟩]
  refine ⟨by rw [List.length_set]; exact hlen, fun i hi => ?_, fun i hi => ?_, fun d hd => hnx d (hcur d hd), ?_, fun i hi hb j hj => ?_⟩
  · rw [getD_set_b] at hi
    split at hi
    · rename_i hh
      rw [← hh.1]
      exact hcc
    · exact h.good i hi
  · rcases (hl i).1 hi with e | ⟨-, e⟩
    · exact h.lst i e
    · exact hnx i e
  · rcases h.zero with e | e | e
    · exact .inl (hm 0 e)
    · exact .inr (.inl (hsub 0 e))
    · cases e
      exact .inl hself
  · by_cases hic : i = c
    · subst hic
      rcases hall j hj with e | e
      · exact .inr (.inl e)
      · exact .inr (.inr e)
    · rw [getD_set_b, if_neg (fun hh => hic hh.1.symm)] at hb
      rcases h.clos i hi hb j hj with e | e | e
      · exact .inl (hm j e)
      · exact .inr (.inl (hsub j e))
      · cases e
        exact .inl hself
theorem CmI.over {g : List Bk} {bs : List Bool} (h : CmI g bs [] none) : bs.length = g.length ∧ ∀ i, bs.getD i false = true ↔ Come g i := by
  refine ⟨h.len, fun i => ⟨h.good i, fun hc => ?_⟩⟩
  induction hc with
  | first =>
    rcases h.zero with e | e | e
    · exact e
    · cases e
    · cases e
  | next _ hi hj ih =>
    rcases h.clos _ hi ih _ hj with e | e | e
    · exact e
    · cases e
    · cases e

/-- Two rows of marks that say the same are one. -/
theorem marks_eq {g : List Bk} {bs cs : List Bool} (h1 : bs.length = g.length ∧ ∀ i, bs.getD i false = true ↔ Come g i) (h2 : cs.length = g.length ∧ ∀ i, cs.getD i false = true ↔ Come g i) : bs = cs := by
  apply List.ext_getElem
  · rw [h1.1, h2.1]
  · intro i hi hj
    have e := (h1.2 i).trans (h2.2 i).symm
    rw [List.getD_eq_getElem?_getD, List.getD_eq_getElem?_getD, List.getElem?_eq_getElem hi, List.getElem?_eq_getElem hj] at e
    simp only [Option.getD_some] at e
    exact Bool.eq_iff_iff.2 e

/-- How many are not marked yet. -/
def unm (bs : List Bool) : Nat → Nat
  | 0 => 0
  | n + 1 => unm bs n + (if bs.getD n false = true then 0 else 1)
theorem unm_set_ge {bs : List Bool} {c : Nat} : ∀ {n : Nat}, n ≤ c → unm (bs.set c true) n = unm bs n
  | 0, _ => rfl
  | n + 1, h => by 
    have e : ¬ (c = n ∧ n < bs.length) := by omega
    rw [unm, unm, unm_set_ge (by omega), getD_set_b, if_neg e]
theorem unm_set {bs : List Bool} {c : Nat} (hc : bs.getD c false = false) (hl : c < bs.length) : ∀ {n : Nat}, c < n → unm (bs.set c true) n + 1 = unm bs n
  | 0, h => absurd h (by omega)
  | n + 1, h => by
    rw [unm, unm]
    by_cases hcn : c = n
    · subst hcn
      have e : (bs.set c true).getD c false = true := by rw [getD_set_b, if_pos (show c = c ∧ c < bs.length from ⟨rfl, hl⟩)]
      rw [unm_set_ge (Nat.le_refl _), e, hc]
      simp
    · have := unm_set hc hl (n := n) (by omega)
      have e : (bs.set c true).getD n false = bs.getD n false := by rw [getD_set_b, if_neg (show ¬ (c = n ∧ n < bs.length) by omega)]
      rw [e]
      omega
theorem unm_le (bs : List Bool) (n : Nat) : unm bs n ≤ n := by
  induction n with
  | zero => exact Nat.le_refl _
  | succ n ih =>
    rw [unm]
    split <;> omega
def unmW (gb : Nat) (w : World) : Nat → Nat
  | 0 => 0
  | n + 1 => unmW gb w n + (match w.cell? ⟨gb, n, none⟩ with
    | some (.bool false) => 1
    | _ => 0)
theorem unmW_eq {gb : Nat} {w : World} {bs : List Bool} : ∀ {n : Nat}, (∀ i, i < n → w.cell? ⟨gb, i, none⟩ = some (.bool (bs.getD i false))) → unmW gb w n = unm bs n
  | 0, _ => rfl
  | n + 1, h => by
    rw [unmW, unm, unmW_eq (fun i hi => h i (by omega)), h n (by omega)]
    cases bs.getD n false <;> rfl

/-- The document's own way: from the first on. -/
def reachGTo (g : List Bk) : Nat → List Bool
  | 0 => (List.replicate g.length false).set 0 true
  | k + 1 => if (reachGTo g k).getD k false = true then (nextL (g.getD k bk0)).foldl (fun bs j => bs.set j true) (reachGTo g k) else reachGTo g k
theorem fold_len (ls : List Nat) : ∀ bs : List Bool, (ls.foldl (fun bs j => bs.set j true) bs).length = bs.length := by
  induction ls with
  | nil => intro bs; rfl
  | cons j r ih => intro bs; rw [List.foldl_cons, ih, List.length_set]
theorem fold_get (ls : List Nat) : ∀ (bs : List Bool) (i : Nat), (ls.foldl (fun bs j => bs.set j true) bs).getD i false = true ↔ (bs.getD i false = true ∨ (i ∈ ls ∧ i < bs.length)) := by
  induction ls with
  | nil => intro bs i; simp
  | cons j r ih =>
    intro bs i
    rw [List.foldl_cons, ih, getD_set_b, List.length_set]
    by_cases h : j = i
    · subst h
      by_cases hl : j < bs.length
      · simp [hl]
      · simp [hl]
    · simp [h, Ne.symm h]
theorem reachG_len (g : List Bk) (k : Nat) : (reachGTo g k).length = g.length := by
  induction k with
  | zero => simp [reachGTo]
  | succ k ih =>
    rw [reachGTo]
    split
    · rw [fold_len, ih]
    · exact ih
theorem reachG_mono (g : List Bk) {k m : Nat} (h : k ≤ m) : ∀ i, (reachGTo g k).getD i false = true → (reachGTo g m).getD i false = true := by
  induction m with
  | zero => intro i hi; have : k = 0 := by omega
            subst this; exact hi
  | succ m ih =>
    intro i hi
    by_cases hk : k = m + 1
    · subst hk; exact hi
    · have := ih (by omega) i hi
      rw [reachGTo]
      split
      · rw [fold_get]; exact .inl this
      · exact this
theorem reachG_at {g : List Bk} {k : Nat} (hk : k < g.length) : g.getD k bk0 = g[k] := by rw [List.getD_eq_getElem?_getD, List.getElem?_eq_getElem hk]; rfl
theorem reachG_good {g : List Bk} : ∀ {k : Nat}, k ≤ g.length → ∀ i, (reachGTo g k).getD i false = true → Come g i
  | 0, _, i, h => by
    rw [reachGTo, getD_set_b] at h
    split at h
    · rename_i hh
      rw [← hh.1]
      exact .first
    · rw [List.getD_eq_getElem?_getD, List.getElem?_replicate] at h
      split at h <;> cases h
  | k + 1, hk, i, h => by
    rw [reachGTo] at h
    split at h
    · rename_i hb
      rw [fold_get] at h
      rcases h with h | ⟨h, -⟩
      · exact reachG_good (by omega) i h
      · rw [reachG_at (by omega)] at h
        exact .next (reachG_good (by omega) k hb) (by omega) h
    · exact reachG_good (by omega) i h
/-- Marks below the place that is looked at stay as they are. -/
theorem reachG_low {g : List Bk} (T : TakenG g) {k : Nat} (hk : k < g.length) {m : Nat} (hm : k ≤ m) (hmn : m ≤ g.length) : ∀ i, i ≤ k → (reachGTo g m).getD i false = true → (reachGTo g k).getD i false = true := by
  induction m with
  | zero => intro i _ h; have : k = 0 := by omega
            subst this; exact h
  | succ m ih =>
    intro i hi h
    by_cases hkm : k = m + 1
    · subst hkm; exact h
    · refine ih (by omega) (by omega) i hi ?_
      rw [reachGTo] at h
      split at h
      · rw [fold_get] at h
        rcases h with h | ⟨h, -⟩
        · exact h
        · rw [reachG_at (by omega)] at h
          have := (leads_next (T.ok m (by omega)).2.1 (T.ok m (by omega)).2.2 i h).1
          omega
      · exact h
theorem reachG_all {g : List Bk} (T : TakenG g) : (reachGTo g g.length).length = g.length ∧ ∀ i, (reachGTo g g.length).getD i false = true ↔ Come g i := by
  refine ⟨reachG_len _ _, fun i => ⟨reachG_good (Nat.le_refl _) i, fun hc => ?_⟩⟩
  induction hc with
  | first =>
    refine reachG_mono g (Nat.zero_le _) 0 ?_
    rw [reachGTo, getD_set_b, if_pos ⟨rfl, by simp; exact T.pos⟩]
  | @next i j _ hi hj ih =>
    have h1 := reachG_low T hi (Nat.le_of_lt hi) (Nat.le_refl _) i (Nat.le_refl _) ih
    refine reachG_mono g (show i + 1 ≤ g.length by omega) j ?_
    rw [reachGTo, if_pos h1, fold_get]
    refine .inr ⟨by rw [reachG_at hi]; exact hj, ?_⟩
    rw [reachG_len]
    exact (leads_next (T.ok i hi).2.1 (T.ok i hi).2.2 j hj).2
/-- P15.3. -/
def reachG (g : List Bk) : List Bool := if (gckG g).2 = 0 then reachGTo g g.length else []

end Go.Proofs.Ytencoknpocipbaa

namespace Go.Proofs.Ytencoknpocipbaa
open Go.RowKit
set_option maxRecDepth 100000

theorem codeF_pos {pk : List UInt8} : ∀ (xs : List In) (M : Mc), (codeF pk xs M).2.1 ≠ 0 → 1 ≤ (codeF pk xs M).2.2
  | [], M, h => absurd rfl h
  | x :: r, M, h => by
    rw [codeF] at h ⊢
    split
    · simp
    · simp
theorem countG_drop (f : Bk → Nat) (g : List Bk) {i j : Nat} (h : i ≤ j) : countG f (g.drop j) ≤ countG f (g.drop i) := by
  obtain ⟨d, rfl⟩ : ∃ d, j = i + d := ⟨j - i, by omega⟩
  rw [← List.drop_drop]
  generalize g.drop i = l
  induction d generalizing l with
  | zero => simp
  | succ d ih =>
    cases l with
    | nil => simp
    | cons b r =>
      rw [List.drop_succ_cons, countG_cons]
      have := ih (by omega) r
      omega
theorem countG_at (f : Bk → Nat) {g : List Bk} {k : Nat} (hk : k < g.length) : countG f (g.drop k) = g[k].code.length + f g[k] + countG f (g.drop (k + 1)) := by
  rw [List.drop_eq_getElem_cons hk, countG_cons]
theorem size_meas (g : List Bk) : countG sizeE g ≤ countG measE g := by
  induction g with
  | nil => simp [countG]
  | cons b r ih =>
    rw [countG_cons, countG_cons]
    have : sizeE b ≤ measE b := by
      unfold sizeE measE
      split <;> split <;> omega
    omega

/-- How many steps a run takes; a fault gives the value 0. -/
theorem goG_steps {g : List Bk} (T : TakenG g) (pk : List UInt8) : ∀ (f k : Nat) (M : Mc), k < g.length → g.length ≤ f + k → 1 ≤ (goG g pk f k M).2.2 ∧ (goG g pk f k M).2.2 ≤ countG sizeE (g.drop k) ∧ ((goG g pk f k M).2.1 ≠ 0 → (goG g pk f k M).1 = 0)
  | 0, k, M, hk, hf => absurd hk (by omega)
  | f + 1, k, M, hk, hf => by
    obtain ⟨r, hr⟩ : ∃ r, codeF pk g[k].code M = r := ⟨_, rfl⟩
    have hl := codeF_le (pk := pk) g[k].code M
    have hp := codeF_pos (pk := pk) g[k].code M
    rw [hr] at hl hp
    rw [goG_eq hk r hr, countG_at sizeE hk]
    have hT := T.ok k hk
    have hnx := leads_next hT.2.1 hT.2.2
    by_cases h0 : r.2.1 ≠ 0
    · rw [if_pos h0]
      exact ⟨hp h0, by show r.2.2 ≤ _; omega, fun _ => rfl⟩
    · rw [if_neg h0]
      rcases ends_cases hT.2.1 with he | he | he
      · rw [if_pos he]
        have hs : sizeE g[k] = 1 := by rw [sizeE, if_neg (by omega)]
        refine ⟨by show 1 ≤ r.2.2 + 1; omega, by show r.2.2 + 1 ≤ _; omega, fun h => absurd rfl h⟩
      · rw [if_neg (by omega), if_pos he]
        have hy := hnx g[k].yes.toNat (by rw [nextL, if_neg (by omega), if_pos he]; simp)
        obtain ⟨i1, i2, i3⟩ := goG_steps T pk f g[k].yes.toNat r.1 hy.2 (by omega)
        have hd := countG_drop sizeE g (show k + 1 ≤ g[k].yes.toNat by omega)
        refine ⟨by show 1 ≤ r.2.2 + _; omega, by show r.2.2 + _ ≤ _; omega, i3⟩
      · rw [if_neg (by omega), if_neg (by omega)]
        have hs : sizeE g[k] = 1 := by rw [sizeE, if_neg (by omega)]
        have hj : (if asksV g[k].last r.1 = true then g[k].yes else g[k].no).toNat ∈ nextL g[k] := by
          rw [nextL, if_neg (by omega), if_neg (by omega)]
          split <;> simp
        have hy := hnx _ hj
        obtain ⟨i1, i2, i3⟩ := goG_steps T pk f _ r.1 hy.2 (by omega)
        have hd := countG_drop sizeE g (show k + 1 ≤ _ by exact hy.1)
        refine ⟨by show 1 ≤ r.2.2 + 1 + _; omega, by show r.2.2 + 1 + _ ≤ _; omega, i3⟩

theorem runG_steps {g : List Bk} {pk : List UInt8} (h : (gckG g).2 = 0) (hp : pk.length ≤ 65536) : runGE g pk = 0 ∧ 1 ≤ (runG g pk).2.2 ∧ (runG g pk).2.2 ≤ countG sizeE g ∧ ((runG g pk).2.1 ≠ 0 → (runG g pk).1 = 0) := by
  have T := taken_g h
  have e : runGE g pk = 0 := by rw [runGE, if_pos h, if_neg (by omega)]
  refine ⟨e, ?_⟩
  rw [runG, if_pos e]
  exact goG_steps T pk g.length 0 mc0 T.pos (by omega)

/-- A block that ends at once. -/
def deadB : Bk := ⟨[], 1, ⟨6, 0, 0, 12345⟩, 0, 0⟩
/-- The blocks that are not marked, of the first k, are taken away. -/
def prG (r : List Bool) (g : List Bk) : Nat → List Bk
  | 0 => g
  | k + 1 => if r.getD k false = true then prG r g k else (prG r g k).set k deadB
theorem prG_len (r : List Bool) (g : List Bk) (k : Nat) : (prG r g k).length = g.length := by
  induction k with
  | zero => rfl
  | succ k ih =>
    rw [prG]
    split
    · exact ih
    · rw [List.length_set]; exact ih
theorem prG_get (r : List Bool) (g : List Bk) (k : Nat) : ∀ i (hi : i < g.length), (prG r g k)[i]'(by rw [prG_len]; exact hi) = if i < k ∧ r.getD i false = false then deadB else g[i] := by
  induction k with
  | zero => intro i hi; simp [prG]
  | succ k ih =>
    intro i hi
    have e := ih i hi
    have hlt : i < k + 1 ↔ i < k ∨ i = k := by omega
    by_cases hr : r.getD k false = true
    · have e1 : prG r g (k + 1) = prG r g k := by rw [prG, if_pos hr]
      simp only [e1]
      rw [e]
      by_cases hik : i = k
      · subst hik
        rw [if_neg (by omega), if_neg (by rw [hr]; simp)]
      · congr 1
        simp [hlt, hik]
    · have e1 : prG r g (k + 1) = (prG r g k).set k deadB := by rw [prG, if_neg hr]
      simp only [e1]
      rw [List.getElem_set]
      by_cases hik : k = i
      · subst hik
        rw [if_pos rfl, if_pos ⟨by omega, by simpa using hr⟩]
      · rw [if_neg hik, e]
        congr 1
        simp [hlt, Ne.symm hik]

theorem codeLen_set_le (g : List Bk) : ∀ k, codeLen (g.set k deadB) ≤ codeLen g := by
  induction g with
  | nil => intro k; simp
  | cons b r ih =>
    intro k
    cases k with
    | zero => rw [List.set_cons_zero, codeLen_cons, codeLen_cons]; show 0 + _ ≤ _; omega
    | succ k => rw [List.set_cons_succ, codeLen_cons, codeLen_cons]; have := ih k; omega
theorem prG_codeLen (r : List Bool) (g : List Bk) (k : Nat) : codeLen (prG r g k) ≤ codeLen g := by
  induction k with
  | zero => exact Nat.le_refl _
  | succ k ih =>
    rw [prG]
    split
    · exact ih
    · exact Nat.le_trans (codeLen_set_le _ _) ih

theorem prG_taken {g : List Bk} (T : TakenG g) (r : List Bool) (k : Nat) : TakenG (prG r g k) := by
  refine ⟨by rw [prG_len]; exact T.pos, by rw [prG_len]; exact T.few, fun j hj => ?_, Nat.le_trans (prG_codeLen r g k) T.room⟩
  have hj' : j < g.length := by rwa [prG_len] at hj
  rw [prG_get r g k j hj', prG_len]
  split
  · exact ⟨rfl, by decide, by rw [leadsB, if_neg (by decide), if_neg (by decide)]⟩
  · exact T.ok j hj'

/-- A run comes to marked blocks alone. -/
theorem prG_go {g : List Bk} (T : TakenG g) {r : List Bool} (hr : ∀ i, r.getD i false = true ↔ Come g i) (m : Nat) (pk : List UInt8) : ∀ (f k : Nat) (M : Mc), Come g k → goG (prG r g m) pk f k M = goG g pk f k M
  | 0, _, _, _ => rfl
  | f + 1, k, M, hc => by
    have hk := come_lt T hc
    have hk' : k < (prG r g m).length := by rw [prG_len]; exact hk
    have e : (prG r g m)[k] = g[k] := by
      rw [prG_get r g m k hk, if_neg (fun h => by have := (hr k).2 hc; rw [h.2] at this; cases this)]
    rw [goG_eq hk' _ rfl, goG_eq hk _ rfl, e]
    have hnx : ∀ j ∈ nextL g[k], Come g j := fun j hj => .next hc hk hj
    rcases ends_cases (T.ok k hk).2.1 with he | he | he
    · simp only [he, if_true]
    · have h1 := prG_go T hr m pk f g[k].yes.toNat (codeF pk g[k].code M).1 (hnx _ (by rw [nextL, if_neg (by omega), if_pos he]; simp))
      rw [if_pos he, if_pos he, h1]
    · have h1 := prG_go T hr m pk f (if asksV g[k].last (codeF pk g[k].code M).1 = true then g[k].yes else g[k].no).toNat (codeF pk g[k].code M).1 (hnx _ (by rw [nextL, if_neg (by omega), if_neg (by omega)]; split <;> simp))
      rw [h1, if_neg (show ¬ g[k].en = 2 by omega), if_neg (show ¬ g[k].en = 2 by omega)]

theorem prG_run {g : List Bk} {pk : List UInt8} (h : (gckG g).2 = 0) (m : Nat) : runG (prG (reachGTo g g.length) g m) pk = runG g pk ∧ runGE (prG (reachGTo g g.length) g m) pk = runGE g pk := by
  have T := taken_g h
  have T' := prG_taken T (reachGTo g g.length) m
  have e : (gckG (prG (reachGTo g g.length) g m)).2 = 0 := by rw [check_of T']
  have e2 : runGE (prG (reachGTo g g.length) g m) pk = runGE g pk := by rw [runGE, runGE, if_pos e, if_pos h]
  refine ⟨?_, e2⟩
  rw [runG, runG, e2, prG_len]
  split
  · exact prG_go T (reachG_all T).2 m pk _ 0 mc0 .first
  · rfl

end Go.Proofs.Ytencoknpocipbaa
