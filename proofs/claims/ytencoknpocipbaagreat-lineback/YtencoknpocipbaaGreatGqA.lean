/-
  A program and its blocks: each block's place, the graph is taken, a run of the one is a run of the other. No Go text here.
-/
import Derived.Test.YtencoknpocipbaaGreatLotP19
import Derived.Test.YtencoknpocipbaaGreatLotP31
import Derived.Test.YtencoknpocipbaaGreatGbA
import Derived.Test.YtencoknpocipbaaGreatLotP20
namespace Go.Proofs.YtencoknpocipbaaGreat
open Go.RowKit
set_option maxRecDepth 100000

/-- Where blocks begin; their numbers. -/
def bsV (xs : List In) : List Bool := begTo xs xs.length
def nmV (xs : List In) : Nat → Nat := numN (bsV xs)
def Bg (xs : List In) (s : Nat) : Prop := s = 0 ∨ (bsV xs).getD s false = true

theorem num_mono (bs : List Bool) {i j : Nat} (h : i ≤ j) : numN bs i ≤ numN bs j := by
  induction j with
  | zero => rw [show i = 0 by omega]; exact Nat.le_refl _
  | succ j ih =>
    by_cases hi : i = j + 1
    · subst hi; exact Nat.le_refl _
    · have := ih (by omega)
      rw [numN]
      omega

theorem of_len (xs : List In) (bs : List Bool) (k : Nat) : (ofTo xs (numN bs) k).2.length = numN bs k := by
  induction k with
  | zero => rfl
  | succ k ih =>
    rw [ofTo]
    by_cases h : numN bs (k + 1) = numN bs k
    · rw [if_pos h, ih, h]
    · rw [if_neg h]
      simp only [List.length_append, List.length_singleton, ih]
      rw [numN] at h ⊢
      split at h
      · rename_i hb
        rw [if_pos hb]
      · omega

theorem of_pre (xs : List In) (bs : List Bool) {k m : Nat} (h : k ≤ m) : ∃ r, (ofTo xs (numN bs) m).2 = (ofTo xs (numN bs) k).2 ++ r := by
  induction m with
  | zero => exact ⟨[], by rw [show k = 0 by omega, List.append_nil]⟩
  | succ m ih =>
    by_cases hk : k = m + 1
    · exact ⟨[], by rw [hk, List.append_nil]⟩
    · obtain ⟨r, hr⟩ := ih (by omega)
      rw [ofTo]
      split
      · exact ⟨r, hr⟩
      · exact ⟨r ++ [blkV xs (numN bs) (ofTo xs (numN bs) m).1 m (xs.getD m zIn)], by simp only [hr, List.append_assoc]⟩

theorem of_get {xs : List In} {bs : List Bool} {i : Nat} (hi : i < xs.length) (hb : bs.getD (i + 1) false = true) : (ofTo xs (numN bs) xs.length).2[numN bs i]? = some (blkV xs (numN bs) (ofTo xs (numN bs) i).1 i xs[i]) := by
  obtain ⟨r, hr⟩ := of_pre xs bs (show i + 1 ≤ xs.length by omega)
  rw [hr, of_more hb hi]
  simp only
  have hl := of_len xs bs i
  rw [List.append_assoc, List.getElem?_append_right (by omega), hl, Nat.sub_self]
  rfl

/-- Goals are beginnings. -/
theorem beg_goals {xs : List In} (h : (checkV xs).2 = 0) {i : Nat} (hi : i < xs.length) (hc : classV xs[i].code.toNat = 5) : (bsV xs).getD (yesG i xs[i]) false = true ∧ (bsV xs).getD (noG i xs[i]) false = true := by
  obtain ⟨h1, h2, h3⟩ := goals_in h hi hc
  have hl : leavesB xs[i] = true := by rw [leavesB, hc]; rfl
  have key : ∀ j, (begTo xs (i + 1)).getD j false = true → (bsV xs).getD j false = true := fun j hj => begTo_mono xs (by omega) j hj
  have hlen := begTo_len xs i
  constructor
  · refine key _ ?_
    rw [begTo_succ hi, begStep, if_neg (by rw [hl]; simp), if_pos (by rw [hc]; rfl)]
    exact getD_setT _ _ _ (getD_setS _ _ (by simp only [List.length_set, hlen]; omega))
  · refine key _ ?_
    rw [begTo_succ hi, begStep, if_neg (by rw [hl]; simp), if_pos (by rw [hc]; rfl)]
    exact getD_setS _ _ (by simp only [List.length_set, hlen]; omega)

/-- The instructions of one block: from one beginning up to the next. -/
structure BlkS (xs : List In) (s e : Nat) : Prop where
  le : s ≤ e
  lt : e < xs.length
  bg : Bg xs s
  nx : (bsV xs).getD (e + 1) false = true
  no : ∀ i, s < i → i ≤ e → (bsV xs).getD i false = false

theorem last_leaves {xs : List In} (h : (checkV xs).2 = 0) {j : Nat} (hj : j < xs.length) (hn : ¬ j + 1 < xs.length) : leavesB xs[j] = true := by
  cases hl : leavesB xs[j] with
  | true => rfl
  | false => exact absurd (plain_next h hj hl) hn

theorem blk_end {xs : List In} (h : (checkV xs).2 = 0) (d : Nat) : ∀ s j, xs.length = j + d → s ≤ j → j < xs.length → Bg xs s → (∀ i, s < i → i ≤ j → (bsV xs).getD i false = false) → ∃ e, j ≤ e ∧ BlkS xs s e := by
  induction d with
  | zero => intro s j h1 h2 h3 _ _; omega
  | succ d ih =>
    intro s j h1 h2 h3 hb hn
    cases hx : (bsV xs).getD (j + 1) false with
    | true => exact ⟨j, Nat.le_refl _, h2, h3, hb, hx, hn⟩
    | false =>
      have hj : j + 1 < xs.length := by
        apply Classical.byContradiction
        intro hc
        have := beg_behind h3 (last_leaves h h3 hc)
        rw [bsV] at hx
        rw [hx] at this
        cases this
      obtain ⟨e, he, B⟩ := ih s (j + 1) (by omega) (by omega) hj hb (fun i hi hi2 => by
        by_cases hij : i = j + 1
        · subst hij; exact hx
        · exact hn i hi (by omega))
      exact ⟨e, by omega, B⟩
theorem blk_from {xs : List In} (h : (checkV xs).2 = 0) {s : Nat} (hs : s < xs.length) (hb : Bg xs s) : ∃ e, BlkS xs s e := by
  obtain ⟨e, -, B⟩ := blk_end h (xs.length - s) s s (by omega) (Nat.le_refl _) hs hb (fun i h1 h2 => by omega)
  exact ⟨e, B⟩

theorem BlkS.same {xs : List In} {s e : Nat} (B : BlkS xs s e) (k : Nat) (hk : s + k ≤ e) : ofTo xs (nmV xs) (s + k) = ofTo xs (nmV xs) s ∧ nmV xs (s + k) = nmV xs s := by
  induction k with
  | zero => exact ⟨rfl, rfl⟩
  | succ k ih =>
    obtain ⟨h1, h2⟩ := ih (by omega)
    have := B.no (s + (k + 1)) (by omega) hk
    rw [show s + (k + 1) = (s + k) + 1 by omega] at this ⊢
    exact ⟨(of_same this).trans h1, (num_same this).trans h2⟩
theorem beg_start {xs : List In} {s : Nat} (hb : Bg xs s) (hs : s ≤ xs.length) : (ofTo xs (nmV xs) s).1 = s := by
  rcases hb with rfl | hb
  · rfl
  · cases s with
    | zero => rfl
    | succ s => rw [nmV, of_more hb (by omega)]

theorem ofG_eq {xs : List In} (h : (checkV xs).2 = 0) : ofG xs = (ofTo xs (nmV xs) xs.length).2 := by rw [ofG, if_pos h]; rfl
theorem ofG_len {xs : List In} (h : (checkV xs).2 = 0) : (ofG xs).length = nmV xs xs.length := by rw [ofG_eq h]; exact of_len _ _ _
/-- The block of these instructions, by its number. -/
theorem BlkS.get {xs : List In} (h : (checkV xs).2 = 0) {s e : Nat} (B : BlkS xs s e) : (ofG xs)[nmV xs s]? = some (blkV xs (nmV xs) s e (xs[e]'B.lt)) := by
  have hg := of_get B.lt B.nx
  obtain ⟨h1, h2⟩ := B.same (e - s) (by have := B.le; omega)
  have hse : s + (e - s) = e := by have := B.le; omega
  rw [hse] at h1 h2
  have hst := beg_start B.bg (by have := B.le; have := B.lt; omega)
  have hg' : (ofTo xs (nmV xs) xs.length).2[nmV xs e]? = some (blkV xs (nmV xs) (ofTo xs (nmV xs) e).1 e (xs[e]'B.lt)) := hg
  rw [h1, hst, h2] at hg'
  rw [ofG_eq h]
  exact hg'
theorem BlkS.lt_len {xs : List In} (h : (checkV xs).2 = 0) {s e : Nat} (B : BlkS xs s e) : nmV xs s < (ofG xs).length := by
  have := B.get h
  exact (List.getElem?_eq_some_iff.1 this).1
theorem BlkS.getD {xs : List In} (h : (checkV xs).2 = 0) {s e : Nat} (B : BlkS xs s e) : (ofG xs).getD (nmV xs s) bk0 = blkV xs (nmV xs) s e (xs[e]'B.lt) := by
  rw [List.getD_eq_getElem?_getD, B.get h]
  rfl
theorem BlkS.next {xs : List In} {s e : Nat} (B : BlkS xs s e) : Bg xs (e + 1) ∧ nmV xs (e + 1) = nmV xs s + 1 := by
  obtain ⟨-, h2⟩ := B.same (e - s) (by have := B.le; omega)
  rw [show s + (e - s) = e by have := B.le; omega] at h2
  refine ⟨.inr B.nx, ?_⟩
  rw [← h2]
  exact num_more B.nx
theorem BlkS.inner {xs : List In} {s e : Nat} (B : BlkS xs s e) {i : Nat} (h1 : s ≤ i) (h2 : i < e) : leavesB (xs[i]'(by have := B.lt; omega)) = false := by
  cases hl : leavesB (xs[i]'(by have := B.lt; omega)) with
  | false => rfl
  | true =>
    have := beg_behind (xs := xs) (i := i) (by have := B.lt; omega) hl
    have hn := B.no (i + 1) (by omega) (by omega)
    rw [bsV] at hn
    rw [hn] at this
    cases this

/-- The rest of a block's Code. -/
def cdX (xs : List In) (j e : Nat) (x : In) : List In := (xs.drop j).take (if leavesB x = false then e + 1 - j else e - j)
theorem blk_code (xs : List In) (nm : Nat → Nat) (s e : Nat) (x : In) : (blkV xs nm s e x).code = cdX xs s e x := by
  unfold cdX
  by_cases h : leavesB x = false
  · rw [blkV, if_pos h, if_pos h]
  · rw [blkV, if_neg h, if_neg h]
    split
    · rfl
    · split <;> rfl
theorem cd_cons {xs : List In} {j e : Nat} (he : e < xs.length) (hj : j ≤ e) (h : j < e ∨ leavesB xs[e] = false) : cdX xs j e xs[e] = xs[j] :: cdX xs (j + 1) e xs[e] := by
  unfold cdX
  rw [List.drop_eq_getElem_cons (show j < xs.length by omega)]
  by_cases hl : leavesB xs[e] = false
  · rw [if_pos hl, if_pos hl, show e + 1 - j = (e + 1 - (j + 1)) + 1 by omega, List.take_succ_cons]
  · rw [if_neg hl, if_neg hl]
    rcases h with h | h
    · rw [show e - j = (e - (j + 1)) + 1 by omega, List.take_succ_cons]
    · exact absurd h hl
theorem cd_nil {xs : List In} {j e : Nat} (x : In) (h : e < j ∨ (j = e ∧ leavesB x = true)) : cdX xs j e x = [] := by
  unfold cdX
  rcases h with h | ⟨h, hl⟩
  · have : (if leavesB x = false then e + 1 - j else e - j) = 0 := by split <;> omega
    rw [this, List.take_zero]
  · rw [if_neg (by rw [hl]; simp), h, Nat.sub_self, List.take_zero]
theorem cd_len {xs : List In} {j e : Nat} (he : e < xs.length) (hj : j ≤ e) : (cdX xs j e xs[e]).length = if leavesB xs[e] = false then e + 1 - j else e - j := by
  unfold cdX
  rw [List.length_take, List.length_drop]
  split <;> omega
theorem cd_get {xs : List In} {j e : Nat} (x : In) {i : Nat} (hi : i < (cdX xs j e x).length) : ∃ h : j + i < xs.length, (cdX xs j e x)[i] = xs[j + i] := by
  have hl : j + i < xs.length := by
    unfold cdX at hi
    rw [List.length_take, List.length_drop] at hi
    omega
  refine ⟨hl, ?_⟩
  simp only [cdX, List.getElem_take, List.getElem_drop]

theorem jump_K {c : Int} (h : jumpB c = true) (hb : byxB c = false) : usesK c = true := by
  simp only [jumpB, Bool.or_eq_true, beq_iff_eq] at h
  rcases h with ((((((e | e) | e) | e) | e) | e) | e) | e <;> (subst e; revert hb; decide)
theorem asks_bare {x : In} (M : Mc) (h : jumpB (x.code.toNat : Int) = true) : asksV (bareV x) M = asksV x M := by
  have : sideV (bareV x).code.toNat (bareV x).k.toNat M.x = sideV x.code.toNat x.k.toNat M.x := by
    show sideV x.code.toNat (bareV x).k.toNat M.x = sideV x.code.toNat x.k.toNat M.x
    unfold sideV
    cases hb : byxB (x.code.toNat : Int) with
    | true => rfl
    | false =>
      have hu := jump_K h hb
      simp only [bareV, if_pos hu]
  unfold asksV
  rw [this]
  rfl
theorem give_bare (x : In) (M : Mc) : giveV (bareV x) M = giveV x M := by
  show (if usesK (x.code.toNat : Int) = true then (bareV x).k.toNat else M.a) = if usesK (x.code.toNat : Int) = true then x.k.toNat else M.a
  by_cases hu : usesK (x.code.toNat : Int) = true
  · rw [if_pos hu, if_pos hu]
    simp only [bareV, if_pos hu]
  · rw [if_neg hu, if_neg hu]

/-- What is left of a block, and what comes behind it. -/
def goR (g : List Bk) (pk : List UInt8) (f : Nat) (c : List In) (B : Bk) (M : Mc) : Nat × Int × Nat :=
  if (codeF pk c M).2.1 ≠ 0 then (0, (codeF pk c M).2.1, (codeF pk c M).2.2)
  else if B.en = 1 then (giveV B.last (codeF pk c M).1, 0, (codeF pk c M).2.2 + 1)
  else if B.en = 2 then addS (codeF pk c M).2.2 (goG g pk f B.yes.toNat (codeF pk c M).1)
  else addS ((codeF pk c M).2.2 + 1) (goG g pk f (if asksV B.last (codeF pk c M).1 = true then B.yes else B.no).toNat (codeF pk c M).1)
theorem goG_goR (g : List Bk) (pk : List UInt8) (f j : Nat) (M : Mc) : goG g pk (f + 1) j M = goR g pk f (g.getD j bk0).code (g.getD j bk0) M := by
  rw [goG, goR]
theorem goR_fault {g : List Bk} {pk : List UInt8} {f : Nat} {x : In} {r : List In} {B : Bk} {M : Mc} (h : (stepV x.code.toNat x.k.toNat pk M).2 ≠ 0) : goR g pk f (x :: r) B M = (0, (stepV x.code.toNat x.k.toNat pk M).2, 1) := by
  have e : codeF pk (x :: r) M = ((stepV x.code.toNat x.k.toNat pk M).1, (stepV x.code.toNat x.k.toNat pk M).2, 1) := by rw [codeF, if_neg h]
  rw [goR, e, if_pos h]
theorem goR_cons {g : List Bk} {pk : List UInt8} {f : Nat} {x : In} {r : List In} {B : Bk} {M : Mc} (h : (stepV x.code.toNat x.k.toNat pk M).2 = 0) : goR g pk f (x :: r) B M = addS 1 (goR g pk f r B (stepV x.code.toNat x.k.toNat pk M).1) := by
  have e : codeF pk (x :: r) M = ((codeF pk r (stepV x.code.toNat x.k.toNat pk M).1).1, (codeF pk r (stepV x.code.toNat x.k.toNat pk M).1).2.1, (codeF pk r (stepV x.code.toNat x.k.toNat pk M).1).2.2 + 1) := by rw [codeF, if_pos h]
  rw [goR, goR, e]
  generalize codeF pk r (stepV x.code.toNat x.k.toNat pk M).1 = q
  simp only
  split
  · simp only [addS]; rw [Nat.add_comm]
  · split
    · simp only [addS]; rw [show q.2.2 + 1 + 1 = 1 + (q.2.2 + 1) by omega]
    · split
      · rw [addS_addS, Nat.add_comm]
      · rw [addS_addS, show q.2.2 + 1 + 1 = 1 + (q.2.2 + 1) by omega]
theorem goR_nil (g : List Bk) (pk : List UInt8) (f : Nat) (B : Bk) (M : Mc) : goR g pk f [] B M = if B.en = 1 then (giveV B.last M, 0, 1) else if B.en = 2 then addS 0 (goG g pk f B.yes.toNat M) else addS 1 (goG g pk f (if asksV B.last M = true then B.yes else B.no).toNat M) := by
  have e : codeF pk [] M = (M, 0, 0) := rfl
  rw [goR, e]
  rw [if_neg (by simp)]

/-- How many of the instructions at these places are Ja. -/
def jaC (xs : List In) (ts : List Nat) : Nat := (ts.filter fun t => ((xs.getD t zIn).code.toNat : Int) == 5).length
/-- The same Value, the same fault, the steps less the Ja. -/
def RelG (xs : List In) (r : Nat × Int × Nat) (q : Nat × Int × List Nat) : Prop := r.1 = q.1 ∧ r.2.1 = q.2.1 ∧ r.2.2 + jaC xs q.2.2 = q.2.2.length
theorem RelG.one {xs : List In} {j : Nat} (hj : j < xs.length) (h : ((xs[j].code.toNat : Int) == 5) = false) (v : Nat) (f : Int) : RelG xs (v, f, 1) (v, f, [j]) := by
  refine ⟨rfl, rfl, ?_⟩
  simp only [jaC, List.filter_cons, getD_at hj, h, Bool.false_eq_true, if_false, List.filter_nil, List.length_nil, List.length_singleton]
theorem RelG.hd {xs : List In} {j : Nat} (hj : j < xs.length) (h : ((xs[j].code.toNat : Int) == 5) = false) {r : Nat × Int × Nat} {q : Nat × Int × List Nat} (R : RelG xs r q) : RelG xs (addS 1 r) (hdV j q) := by
  refine ⟨R.1, R.2.1, ?_⟩
  have := R.2.2
  have e : jaC xs (j :: q.2.2) = jaC xs q.2.2 := by simp only [jaC, List.filter_cons, getD_at hj, h, Bool.false_eq_true, if_false]
  show 1 + r.2.2 + jaC xs (j :: q.2.2) = (j :: q.2.2).length
  rw [e, List.length_cons]
  omega
theorem RelG.ja {xs : List In} {j : Nat} (hj : j < xs.length) (h : ((xs[j].code.toNat : Int) == 5) = true) {r : Nat × Int × Nat} {q : Nat × Int × List Nat} (R : RelG xs r q) : RelG xs (addS 0 r) (hdV j q) := by
  refine ⟨R.1, R.2.1, ?_⟩
  have := R.2.2
  have e : jaC xs (j :: q.2.2) = jaC xs q.2.2 + 1 := by simp only [jaC, List.filter_cons, getD_at hj, h, if_true, List.length_cons]
  show 0 + r.2.2 + jaC xs (j :: q.2.2) = (j :: q.2.2).length
  rw [e, List.length_cons]
  omega

/-- The end of a block, by kinds. -/
theorem blkV_go {xs : List In} {nm : Nat → Nat} {s e : Nat} {x : In} (h : leavesB x = false) : blkV xs nm s e x = ⟨(xs.drop s).take (e + 1 - s), 2, in0, (nm (e + 1) : Int), 0⟩ := by rw [blkV, if_pos h]
theorem blkV_ret {xs : List In} {nm : Nat → Nat} {s e : Nat} {x : In} (h : leavesB x = true) (h6 : (classV x.code.toNat == 6) = true) : blkV xs nm s e x = ⟨(xs.drop s).take (e - s), 1, bareV x, 0, 0⟩ := by rw [blkV, if_neg (by rw [h]; simp), if_pos h6]
theorem blkV_ja {xs : List In} {nm : Nat → Nat} {s e : Nat} {x : In} (h : leavesB x = true) (h6 : (classV x.code.toNat == 6) = false) (h5 : ((x.code.toNat : Int) == 5) = true) : blkV xs nm s e x = ⟨(xs.drop s).take (e - s), 2, in0, (nm (yesG e x) : Int), 0⟩ := by rw [blkV, if_neg (by rw [h]; simp), if_neg (by rw [h6]; simp), if_pos h5]
theorem blkV_test {xs : List In} {nm : Nat → Nat} {s e : Nat} {x : In} (h : leavesB x = true) (h6 : (classV x.code.toNat == 6) = false) (h5 : ((x.code.toNat : Int) == 5) = false) : blkV xs nm s e x = ⟨(xs.drop s).take (e - s), 3, bareV x, (nm (yesG e x) : Int), (nm (noG e x) : Int)⟩ := by rw [blkV, if_neg (by rw [h]; simp), if_neg (by rw [h6]; simp), if_neg (by rw [h5]; simp)]

/-- A run from a place within a block on, and what is left of the block. -/
theorem run_same {xs : List In} (h : (checkV xs).2 = 0) (pk : List UInt8) : ∀ (n j : Nat) (M : Mc) (f s e : Nat) (B : BlkS xs s e), s ≤ j → j ≤ e → xs.length ≤ j + n → (ofG xs).length ≤ f + 1 + nmV xs s →
    RelG xs (goR (ofG xs) pk f (cdX xs j e (xs[e]'B.lt)) (blkV xs (nmV xs) s e (xs[e]'B.lt)) M) (runF xs pk n j M) := by
  intro n
  induction n with
  | zero => intro j M f s e B h1 h2 h3 _; have := B.lt; omega
  | succ n ih =>
    intro j M f s e B h1 h2 h3 h4
    have he := B.lt
    have hj : j < xs.length := by omega
    -- what comes behind the block
    have beg : ∀ (t : Nat) (M' : Mc), e < t → t < xs.length → Bg xs t → RelG xs (goG (ofG xs) pk f (nmV xs t) M') (runF xs pk n t M') := by
      intro t M' ht htl hb
      obtain ⟨e', B'⟩ := blk_from h htl hb
      have hlt := B'.lt_len h
      have hmono : nmV xs (e + 1) ≤ nmV xs t := num_mono _ ht
      rw [B.next.2] at hmono
      obtain ⟨f', rfl⟩ : ∃ f', f = f' + 1 := ⟨f - 1, by omega⟩
      rw [goG_goR, B'.getD h, blk_code]
      exact ih t M' f' t e' B' (Nat.le_refl _) B'.le (by omega) (by omega)
    cases hl : leavesB xs[j] with
    | false =>
      obtain ⟨c6, c22, c5, cj⟩ := plain_codes hl
      have hnx := plain_next h hj hl
      have hcd : cdX xs j e xs[e] = xs[j] :: cdX xs (j + 1) e xs[e] := by
        refine cd_cons he h2 ?_
        by_cases hje : j = e
        · subst hje; exact .inr hl
        · exact .inl (by omega)
      rw [hcd, runF_step hj c6 c22 c5 cj]
      by_cases hz : (stepV xs[j].code.toNat xs[j].k.toNat pk M).2 = 0
      · rw [if_pos hz, goR_cons hz]
        refine RelG.hd hj c5 ?_
        by_cases hje : j = e
        · subst hje
          rw [cd_nil _ (.inl (by omega)), goR_nil, blkV_go hl]
          have := beg (j + 1) (stepV xs[j].code.toNat xs[j].k.toNat pk M).1 (by omega) hnx B.next.1
          rw [if_neg (by simp), if_pos rfl]
          simp only [Int.toNat_natCast]
          obtain ⟨r1, r2, r3⟩ := this
          exact ⟨r1, r2, by simp only [addS, Nat.zero_add]; exact r3⟩
        · exact ih (j + 1) _ f s e B (by omega) (by omega) (by omega) h4
      · rw [if_neg hz, goR_fault hz]
        exact RelG.one hj c5 _ _
    | true =>
      have hje : j = e := by
        apply Classical.byContradiction
        intro hne
        have := B.inner h1 (show j < e by omega)
        rw [this] at hl
        cases hl
      subst hje
      rw [cd_nil _ (.inr ⟨rfl, hl⟩), goR_nil]
      cases h6 : (classV xs[j].code.toNat == 6) with
      | true =>
        rw [blkV_ret hl h6, if_pos rfl]
        simp only
        rw [give_bare]
        rcases ret_codes h6 with c6 | ⟨c6, c22⟩
        · rw [runF_retK hj c6]
          have hu : usesK (xs[j].code.toNat : Int) = true := by rw [beq_iff_eq.1 c6]; decide
          rw [giveV, if_pos hu]
          exact RelG.one hj (by rw [beq_iff_eq.1 c6]; decide) _ _
        · rw [runF_retA hj c6 c22]
          have hu : ¬ usesK (xs[j].code.toNat : Int) = true := by rw [beq_iff_eq.1 c22]; decide
          rw [giveV, if_neg hu]
          exact RelG.one hj (by rw [beq_iff_eq.1 c22]; decide) _ _
      | false =>
        have k5 := leaves5 hl h6
        obtain ⟨c6, c22⟩ := not_ret h6
        obtain ⟨g1, g2, -⟩ := goals_in h hj k5
        obtain ⟨b1, b2⟩ := beg_goals h hj k5
        cases c5 : ((xs[j].code.toNat : Int) == 5) with
        | true =>
          rw [blkV_ja hl h6 c5, runF_ja hj c6 c22 c5, if_neg (by simp), if_pos rfl]
          simp only [Int.toNat_natCast]
          have hy : yesG j xs[j] = j + 1 + xs[j].k.toNat := by rw [yesG, if_pos c5]
          rw [← hy]
          exact RelG.ja hj c5 (beg _ M (by omega) g1 (.inr b1))
        | false =>
          have hjb : jumpB (xs[j].code.toNat : Int) = true := by
            rcases class5 k5 with e | e
            · rw [e] at c5; exact absurd c5 (by decide)
            · exact e
          rw [blkV_test hl h6 c5, runF_jump hj c6 c22 c5 hjb, if_neg (by simp), if_neg (by simp)]
          simp only
          rw [asks_bare M hjb]
          refine RelG.hd hj c5 ?_
          have hy : yesG j xs[j] = j + 1 + xs[j].jt.toNat := by rw [yesG, if_neg (by rw [c5]; simp)]
          have hn : noG j xs[j] = j + 1 + xs[j].jf.toNat := by rw [noG, if_neg (by rw [c5]; simp)]
          unfold goalV
          by_cases ha : asksV xs[j] M = true
          · rw [if_pos ha, if_pos ha, Int.toNat_natCast, ← hy]
            exact beg _ M (by omega) g1 (.inr b1)
          · rw [if_neg ha, if_neg ha, Int.toNat_natCast, ← hn]
            exact beg _ M (by omega) g2 (.inr b2)

/-- Where the block of a number begins; behind the last one: the program's end. -/
def StartB (xs : List In) (b s : Nat) : Prop := Bg xs s ∧ s ≤ xs.length ∧ nmV xs s = b
theorem StartB.zero (xs : List In) : StartB xs 0 0 := ⟨.inl rfl, Nat.zero_le _, rfl⟩
theorem StartB.lt {xs : List In} (h : (checkV xs).2 = 0) {b s : Nat} (S : StartB xs b s) (hb : b < (ofG xs).length) : s < xs.length := by
  have := S.2.1
  apply Classical.byContradiction
  intro hn
  have e : s = xs.length := by omega
  rw [ofG_len h, ← e, S.2.2] at hb
  omega
theorem StartB.over {xs : List In} (h : (checkV xs).2 = 0) {s : Nat} (S : StartB xs (ofG xs).length s) : s = xs.length := by
  have h1 := S.2.1
  apply Classical.byContradiction
  intro hn
  obtain ⟨e, B⟩ := blk_from h (show s < xs.length by omega) S.1
  have := B.lt_len h
  rw [S.2.2] at this
  omega
theorem StartB.next {xs : List In} {b s e : Nat} (S : StartB xs b s) (B : BlkS xs s e) : StartB xs (b + 1) (e + 1) := ⟨B.next.1, by have := B.lt; omega, by rw [B.next.2, S.2.2]⟩
theorem start_ex {xs : List In} (h : (checkV xs).2 = 0) (b : Nat) (hb : b ≤ (ofG xs).length) : ∃ s, StartB xs b s := by
  induction b with
  | zero => exact ⟨0, StartB.zero xs⟩
  | succ b ih =>
    obtain ⟨s, S⟩ := ih (by omega)
    obtain ⟨e, B⟩ := blk_from h (S.lt h (by omega)) S.1
    exact ⟨e + 1, S.next B⟩
theorem blk_at {xs : List In} (h : (checkV xs).2 = 0) {b : Nat} (hb : b < (ofG xs).length) : ∃ s e, ∃ B : BlkS xs s e, nmV xs s = b ∧ (ofG xs)[b] = blkV xs (nmV xs) s e (xs[e]'B.lt) := by
  obtain ⟨s, S⟩ := start_ex h b (by omega)
  obtain ⟨e, B⟩ := blk_from h (S.lt h hb) S.1
  refine ⟨s, e, B, S.2.2, ?_⟩
  have := B.get h
  rw [S.2.2, List.getElem?_eq_getElem hb] at this
  exact Option.some.inj this

theorem bare_bare (x : In) : bareV (bareV x) = bareV x := by
  unfold bareV
  simp only
  by_cases hu : usesK (x.code.toNat : Int) = true
  · rw [if_pos hu, if_pos hu]
  · rw [if_neg hu, if_neg hu]
theorem inEq_refl (x : In) : inEq x x = true := by simp [inEq]

theorem codeLen_snoc (g : List Bk) (b : Bk) : codeLen (g ++ [b]) = codeLen g + b.code.length := by simp [codeLen]
theorem of_codes (xs : List In) (nm : Nat → Nat) (k : Nat) : codeLen (ofTo xs nm k).2 ≤ (ofTo xs nm k).1 := by
  induction k with
  | zero => exact Nat.le_refl _
  | succ k ih =>
    rw [ofTo]
    split
    · exact ih
    · simp only [codeLen_snoc, blk_code]
      have hf := ofTo_from xs nm k
      have : (cdX xs (ofTo xs nm k).1 k (xs.getD k zIn)).length ≤ k + 1 - (ofTo xs nm k).1 := by
        unfold cdX
        rw [List.length_take]
        split <;> omega
      omega

/-- A program's graph is taken. -/
theorem of_taken {xs : List In} (h : (checkV xs).2 = 0) : TakenG (ofG xs) := by
  obtain ⟨t1, t2, t3, t4⟩ := taken h
  obtain ⟨e0, B0⟩ := blk_from h t1 (.inl rfl)
  have hp := B0.lt_len h
  refine ⟨by omega, ?_, fun b hb => ?_, ?_⟩
  · rw [ofG_eq h]
    have := ofTo_len xs (nmV xs) xs.length
    omega
  · obtain ⟨s, e, B, hnum, hg⟩ := blk_at h hb
    rw [hg]
    have he := B.lt
    have ahead : ∀ t, e < t → t < xs.length → Bg xs t → aheadB b (ofG xs).length (nmV xs t : Int) = true := by
      intro t ht htl hbg
      obtain ⟨e', B'⟩ := blk_from h htl hbg
      have h1 := B'.lt_len h
      have h2 : nmV xs (e + 1) ≤ nmV xs t := num_mono _ ht
      rw [B.next.2, hnum] at h2
      simp only [aheadB, Bool.and_eq_true, decide_eq_true_eq]
      omega
    refine ⟨?_, ?_⟩
    · rw [blk_code, straightB, List.all_eq_true]
      intro x hx
      obtain ⟨i, hi, rfl⟩ := List.mem_iff_getElem.1 hx
      obtain ⟨hl, hgt⟩ := cd_get xs[e] hi
      rw [hgt]
      have hlen := cd_len he B.le
      have hpl : leavesB xs[s + i] = false := by
        by_cases hlv : leavesB xs[e] = false
        · rw [if_pos hlv] at hlen
          by_cases hse : s + i = e
          · rw [show xs[s + i] = xs[e] from by congr 1]; exact hlv
          · exact B.inner (by omega) (by omega)
        · rw [if_neg hlv] at hlen
          exact B.inner (by omega) (by omega)
      have hf := (bad_zero (t3 (s + i) hl)).1
      simp only [plainI, hpl, Bool.not_false, Bool.true_and, beq_iff_eq]
      exact hf
    · cases hl : leavesB xs[e] with
      | false =>
        rw [blkV_go hl]
        refine ⟨rfl, ?_⟩
        rw [leadsB, if_pos rfl]
        exact ahead (e + 1) (by omega) (plain_next h he hl) B.next.1
      | true =>
        cases h6 : (classV xs[e].code.toNat == 6) with
        | true =>
          rw [blkV_ret hl h6]
          refine ⟨?_, rfl⟩
          rw [gendsB, if_pos rfl]
          have : classV (bareV xs[e]).code.toNat == 6 := h6
          simp only [bare_bare, inEq_refl, this]
          rfl
        | false =>
          have k5 := leaves5 hl h6
          obtain ⟨g1, g2, -⟩ := goals_in h he k5
          obtain ⟨b1, b2⟩ := beg_goals h he k5
          have y1 : e < yesG e xs[e] := by unfold yesG; omega
          have y2 : e < noG e xs[e] := by unfold noG; omega
          cases c5 : ((xs[e].code.toNat : Int) == 5) with
          | true =>
            rw [blkV_ja hl h6 c5]
            refine ⟨rfl, ?_⟩
            rw [leadsB, if_pos rfl]
            exact ahead _ y1 g1 (.inr b1)
          | false =>
            have hjb : jumpB (xs[e].code.toNat : Int) = true := by
              rcases class5 k5 with e | e
              · rw [e] at c5; exact absurd c5 (by decide)
              · exact e
            rw [blkV_test hl h6 c5]
            constructor
            · rw [gendsB, if_neg (by simp), if_neg (by simp), if_pos rfl]
              have : usesJ (bareV xs[e]).code.toNat = true := by
                show usesJ (xs[e].code.toNat : Int) = true
                rw [usesJ_jump]; exact hjb
              simp only [bare_bare, inEq_refl, this]
              rfl
            · rw [leadsB, if_neg (by simp), if_pos rfl]
              simp only
              rw [ahead _ y1 g1 (.inr b1), ahead _ y2 g2 (.inr b2)]
              rfl
  · rw [ofG_eq h]
    have h1 := of_codes xs (nmV xs) xs.length
    have h2 := ofTo_from xs (nmV xs) xs.length
    omega

/-- The run of the blocks, and the run of the program. -/
theorem same_pure {xs : List In} {pk : List UInt8} (h : (checkV xs).2 = 0) (hp : pk.length ≤ 65536) : runGE (ofG xs) pk = 0 ∧ runE xs pk = 0 ∧ RelG xs (runG (ofG xs) pk) (runV xs pk) := by
  have hc := check_of (of_taken h)
  have h1 : runGE (ofG xs) pk = 0 := by rw [runGE, hc, if_pos rfl, if_neg (by omega)]
  have h2 : runE xs pk = 0 := by rw [runE, if_pos h, if_neg (by omega)]
  refine ⟨h1, h2, ?_⟩
  rw [runG, if_pos h1, runV, if_pos h2]
  have ht := (taken h).1
  obtain ⟨e, B⟩ := blk_from h ht (.inl rfl)
  have hl := B.lt_len h
  obtain ⟨f, hf⟩ : ∃ f, (ofG xs).length = f + 1 := ⟨(ofG xs).length - 1, by omega⟩
  have key := run_same h pk xs.length 0 mc0 f 0 e B (Nat.le_refl _) (Nat.zero_le _) (by omega) (by omega)
  have hz : nmV xs 0 = 0 := rfl
  have hg : goG (ofG xs) pk (ofG xs).length 0 mc0 = goR (ofG xs) pk f (cdX xs 0 e (xs[e]'B.lt)) (blkV xs (nmV xs) 0 e (xs[e]'B.lt)) mc0 := by
    rw [hf, goG_goR]
    have := B.getD h
    rw [hz] at this
    rw [this, blk_code]
  rw [hg]
  exact key

/-- The law's own way through the blocks: from a block's beginning to the next one's. -/
def AtB (xs : List In) (b at' : Nat) : Prop := ∃ s, StartB xs b s ∧ (at' = s ∨ (at' = s + 1 ∧ ∃ h : s < xs.length, ((xs[s].code.toNat : Int) == 5) = true))

theorem AtB.zero (xs : List In) : AtB xs 0 0 := ⟨0, StartB.zero xs, .inl rfl⟩
theorem AtB.over {xs : List In} (h : (checkV xs).2 = 0) {a : Nat} (H : AtB xs (ofG xs).length a) : a = xs.length := by
  obtain ⟨s, S, h1⟩ := H
  have := S.over h
  rcases h1 with h1 | ⟨-, h2, -⟩
  · omega
  · omega
/-- One block further. -/
theorem AtB.step {xs : List In} (h : (checkV xs).2 = 0) {b a : Nat} (hb : b < (ofG xs).length) (H : AtB xs b a) :
    a + (ofG xs)[b].code.length ≤ xs.length ∧ (∀ k (hk : k < (ofG xs)[b].code.length), ∃ h : a + k < xs.length, xs[a + k] = (ofG xs)[b].code[k]) ∧
    (((ofG xs)[b].en != 2) = true ∧ AtB xs (b + 1) (a + (ofG xs)[b].code.length + 1) ∨
      ((ofG xs)[b].en != 2) = false ∧ ∃ h : a + (ofG xs)[b].code.length < xs.length, (((xs[a + (ofG xs)[b].code.length].code.toNat : Int) == 5) = true ∧ AtB xs (b + 1) (a + (ofG xs)[b].code.length + 1) ∨ ((xs[a + (ofG xs)[b].code.length].code.toNat : Int) == 5) = false ∧ AtB xs (b + 1) (a + (ofG xs)[b].code.length))) := by
  obtain ⟨s, S, ha⟩ := H
  have hs := S.lt h hb
  obtain ⟨e, B⟩ := blk_from h hs S.1
  have he := B.lt
  have hle := B.le
  have hg : (ofG xs)[b] = blkV xs (nmV xs) s e xs[e] := by
    have := B.get h
    rw [S.2.2, List.getElem?_eq_getElem hb] at this
    exact Option.some.inj this
  have N := S.next B
  -- at the beginning of the next block
  have nxt : ∀ x, x = e + 1 → ∀ hx : x < xs.length, (((xs[x].code.toNat : Int) == 5) = true ∧ AtB xs (b + 1) (x + 1) ∨ ((xs[x].code.toNat : Int) == 5) = false ∧ AtB xs (b + 1) x) := by
    rintro x rfl hx
    cases c : ((xs[e + 1].code.toNat : Int) == 5) with
    | true => exact .inl ⟨rfl, e + 1, N, .inr ⟨rfl, hx, c⟩⟩
    | false => exact .inr ⟨rfl, e + 1, N, .inl rfl⟩
  rw [hg]
  have hcl : (blkV xs (nmV xs) s e xs[e]).code.length = if leavesB xs[e] = false then e + 1 - s else e - s := by rw [blk_code]; exact cd_len he hle
  rcases ha with rfl | ⟨rfl, hs', hja⟩
  · refine ⟨?_, fun k hk => ?_, ?_⟩
    · rw [hcl]; split <;> omega
    · simp only [blk_code] at hk ⊢
      obtain ⟨q1, q2⟩ := cd_get xs[e] hk
      exact ⟨q1, q2.symm⟩
    · cases hl : leavesB xs[e] with
      | false =>
        rw [hl, if_pos rfl] at hcl
        rw [hcl, blkV_go hl]
        refine .inr ⟨rfl, by have := plain_next h he hl; omega, ?_⟩
        have := nxt (a + (e + 1 - a)) (by omega) (by have := plain_next h he hl; omega)
        exact this
      | true =>
        rw [hl, if_neg (by simp)] at hcl
        have hea : a + (e - a) = e := by omega
        have fin : AtB xs (b + 1) (a + (e - a) + 1) := ⟨e + 1, N, .inl (by omega)⟩
        rw [hcl]
        cases h6 : (classV xs[e].code.toNat == 6) with
        | true =>
          rw [blkV_ret hl h6]
          exact .inl ⟨rfl, fin⟩
        | false =>
          cases c5 : ((xs[e].code.toNat : Int) == 5) with
          | true =>
            rw [blkV_ja hl h6 c5]
            refine .inr ⟨rfl, by omega, .inl ⟨?_, fin⟩⟩
            rw [show xs[a + (e - a)] = xs[e] from by congr 1]
            exact c5
          | false =>
            rw [blkV_test hl h6 c5]
            exact .inl ⟨rfl, fin⟩
  · have k5 : classV xs[s].code.toNat = 5 := by rw [beq_iff_eq.1 hja]; decide
    have hlv : leavesB xs[s] = true := by rw [leavesB, k5]; rfl
    have hse : s = e := by
      apply Classical.byContradiction
      intro hne
      have := B.inner (Nat.le_refl s) (by omega)
      rw [this] at hlv
      cases hlv
    subst hse
    rw [hlv, if_neg (by simp), Nat.sub_self] at hcl
    obtain ⟨-, -, g3⟩ := goals_in h he k5
    have h6 : (classV xs[s].code.toNat == 6) = false := by rw [k5]; rfl
    refine ⟨by omega, fun k hk => by omega, ?_⟩
    rw [hcl, blkV_ja hlv h6 hja]
    refine .inr ⟨rfl, by omega, ?_⟩
    exact nxt (s + 1 + 0) rfl (by omega)

/-- How many Ja stand among the first of the places. -/
theorem jaC_snoc {xs : List In} {ts : List Nat} {k : Nat} (hk : k < ts.length) : jaC xs (ts.take (k + 1)) = jaC xs (ts.take k) + (if ((xs.getD ts[k] zIn).code.toNat : Int) == 5 then 1 else 0) := by
  rw [← List.take_append_getElem hk, jaC, List.filter_append, List.length_append, jaC]
  congr 1
  rw [List.filter_cons, List.filter_nil]
  split <;> rfl
theorem jaC_le (xs : List In) (ts : List Nat) : jaC xs ts ≤ ts.length := List.length_filter_le _ _

end Go.Proofs.YtencoknpocipbaaGreat
