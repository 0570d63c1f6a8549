/-
  What holds of every run through a graph that is taken: its steps; blocks that can't be come to. No Go text here. What holds of every run: its places rise, it ends. No Go text here.
-/
import Derived.Test.YthffbogejcbdiaaGrL
import Derived.Test.YthffbogejcbdiaaGrI
import Derived.Test.YthffbogejcbdiaaLotP4
namespace Go.Proofs.Ythffbogejcbdiaa
open Go.RowKit
set_option maxRecDepth 100000

theorem codeF_pos {pk : List UInt8} : ∀ (xs : List In) (M : Mc), (codeF pk xs M).2.1 ≠ 0 → 1 ≤ (codeF pk xs M).2.2
  | [], M, h => absurd rfl h
  | x :: r, M, h => by
    rw [codeF] at h ⊢
    split
    · simp
    · simp
theorem countG_drop (f : Bk → Nat) (g : List Bk) {i j : Nat} (h : i ≤ j) : countG f (g.drop j) ≤ countG f (g.drop i) := by
  obtain ⟨d, rfl⟩ : ∃ d, j = i + d := ⟨j - i, by omega⟩
  rw [← List.drop_drop]
  generalize g.drop i = l
  induction d generalizing l with
  | zero => simp
  | succ d ih =>
    cases l with
    | nil => simp
    | cons b r =>
      rw [List.drop_succ_cons, countG_cons]
      have := ih (by omega) r
      omega
theorem countG_at (f : Bk → Nat) {g : List Bk} {k : Nat} (hk : k < g.length) : countG f (g.drop k) = g[k].code.length + f g[k] + countG f (g.drop (k + 1)) := by
  rw [List.drop_eq_getElem_cons hk, countG_cons]
theorem size_meas (g : List Bk) : countG sizeE g ≤ countG measE g := by
  induction g with
  | nil => simp [countG]
  | cons b r ih =>
    rw [countG_cons, countG_cons]
    have : sizeE b ≤ measE b := by
      unfold sizeE measE
      split <;> split <;> omega
    omega

/-- How many steps a run takes; a fault gives the value 0. -/
theorem goG_steps {g : List Bk} (T : TakenG g) (pk : List UInt8) : ∀ (f k : Nat) (M : Mc), k < g.length → g.length ≤ f + k → 1 ≤ (goG g pk f k M).2.2 ∧ (goG g pk f k M).2.2 ≤ countG sizeE (g.drop k) ∧ ((goG g pk f k M).2.1 ≠ 0 → (goG g pk f k M).1 = 0)
  | 0, k, M, hk, hf => absurd hk (by omega)
  | f + 1, k, M, hk, hf => by
    obtain ⟨r, hr⟩ : ∃ r, codeF pk g[k].code M = r := ⟨_, rfl⟩
    have hl := codeF_le (pk := pk) g[k].code M
    have hp := codeF_pos (pk := pk) g[k].code M
    rw [hr] at hl hp
    rw [goG_eq hk r hr, countG_at sizeE hk]
    have hT := T.ok k hk
    have hnx := leads_next hT.2.1 hT.2.2
    by_cases h0 : r.2.1 ≠ 0
    · rw [if_pos h0]
      exact ⟨hp h0, by show r.2.2 ≤ _; omega, fun _ => rfl⟩
    · rw [if_neg h0]
      rcases ends_cases hT.2.1 with he | he | he
      · rw [if_pos he]
        have hs : sizeE g[k] = 1 := by rw [sizeE, if_neg (by omega)]
        refine ⟨by show 1 ≤ r.2.2 + 1; omega, by show r.2.2 + 1 ≤ _; omega, fun h => absurd rfl h⟩
      · rw [if_neg (by omega), if_pos he]
        have hy := hnx g[k].yes.toNat (by rw [nextL, if_neg (by omega), if_pos he]; simp)
        obtain ⟨i1, i2, i3⟩ := goG_steps T pk f g[k].yes.toNat r.1 hy.2 (by omega)
        have hd := countG_drop sizeE g (show k + 1 ≤ g[k].yes.toNat by omega)
        refine ⟨by show 1 ≤ r.2.2 + _; omega, by show r.2.2 + _ ≤ _; omega, i3⟩
      · rw [if_neg (by omega), if_neg (by omega)]
        have hs : sizeE g[k] = 1 := by rw [sizeE, if_neg (by omega)]
        have hj : (if asksV g[k].last r.1 = true then g[k].yes else g[k].no).toNat ∈ nextL g[k] := by
          rw [nextL, if_neg (by omega), if_neg (by omega)]
          split <;> simp
        have hy := hnx _ hj
        obtain ⟨i1, i2, i3⟩ := goG_steps T pk f _ r.1 hy.2 (by omega)
        have hd := countG_drop sizeE g (show k + 1 ≤ _ by exact hy.1)
        refine ⟨by show 1 ≤ r.2.2 + 1 + _; omega, by show r.2.2 + 1 + _ ≤ _; omega, i3⟩

theorem runG_steps {g : List Bk} {pk : List UInt8} (h : (checkG g).2 = 0) (hp : pk.length ≤ 65536) : runGE g pk = 0 ∧ 1 ≤ (runG g pk).2.2 ∧ (runG g pk).2.2 ≤ countG sizeE g ∧ ((runG g pk).2.1 ≠ 0 → (runG g pk).1 = 0) := by
  have T := taken_g h
  have e : runGE g pk = 0 := by rw [runGE, if_pos h, if_neg (by omega)]
  refine ⟨e, ?_⟩
  rw [runG, if_pos e]
  exact goG_steps T pk g.length 0 mc0 T.pos (by omega)

/-- What makes a graph one that is taken. -/
theorem firstG_zero {n : Nat} : ∀ {i : Nat} {room : Int} {g : List Bk}, (∀ j (hj : j < g.length), straightB g[j].code = true ∧ endsB g[j] = true ∧ leadsB g[j] (i + j) n = true) → ((codeLen g : Nat) : Int) ≤ room → firstG n i room g = (0, 0)
  | _, _, [], _, _ => rfl
  | i, room, b :: r, h, hr => by
    rw [codeLen_cons] at hr
    obtain ⟨h1, h2, h3⟩ := h 0 (by simp)
    simp only [List.getElem_cons_zero, Nat.add_zero] at h1 h2 h3
    have hz : faultB b i n (room - b.code.length) = 0 := by
      rw [faultB, if_neg (by omega), if_neg (by rw [h1]; simp), if_neg (by rw [h2]; simp), if_neg (by rw [h3]; simp)]
    rw [firstG, if_pos hz]
    refine firstG_zero (fun j hj => ?_) (by omega)
    have := h (j + 1) (by simpa using hj)
    rw [show i + (j + 1) = i + 1 + j by omega] at this
    exact this
theorem check_of {g : List Bk} (T : TakenG g) : checkG g = (0, 0) := by
  have h0 := T.pos
  have h1 := T.few
  rw [checkG, if_neg (by omega), if_neg (by omega)]
  refine firstG_zero (fun j hj => ?_) (by have := T.room; omega)
  rw [Nat.zero_add]
  exact T.ok j hj

/-- A block that ends at once. -/
def deadB : Bk := ⟨[], 1, ⟨6, 0, 0, 12345⟩, 0, 0⟩
/-- The blocks that are not marked, of the first k, are taken away. -/
def prG (r : List Bool) (g : List Bk) : Nat → List Bk
  | 0 => g
  | k + 1 => if r.getD k false = true then prG r g k else (prG r g k).set k deadB
theorem prG_len (r : List Bool) (g : List Bk) (k : Nat) : (prG r g k).length = g.length := by
  induction k with
  | zero => rfl
  | succ k ih =>
    rw [prG]
    split
    · exact ih
    · rw [List.length_set]; exact ih
theorem prG_get (r : List Bool) (g : List Bk) (k : Nat) : ∀ i (hi : i < g.length), (prG r g k)[i]'(by rw [prG_len]; exact hi) = if i < k ∧ r.getD i false = false then deadB else g[i] := by
  induction k with
  | zero => intro i hi; simp [prG]
  | succ k ih =>
    intro i hi
    have e := ih i hi
    have hlt : i < k + 1 ↔ i < k ∨ i = k := by omega
    by_cases hr : r.getD k false = true
    · have e1 : prG r g (k + 1) = prG r g k := by rw [prG, if_pos hr]
      simp only [e1]
      rw [e]
      by_cases hik : i = k
      · subst hik
        rw [if_neg (by omega), if_neg (by rw [hr]; simp)]
      · congr 1
        simp [hlt, hik]
    · have e1 : prG r g (k + 1) = (prG r g k).set k deadB := by rw [prG, if_neg hr]
      simp only [e1]
      rw [List.getElem_set]
      by_cases hik : k = i
      · subst hik
        rw [if_pos rfl, if_pos ⟨by omega, by simpa using hr⟩]
      · rw [if_neg hik, e]
        congr 1
        simp [hlt, Ne.symm hik]

theorem codeLen_set_le (g : List Bk) : ∀ k, codeLen (g.set k deadB) ≤ codeLen g := by
  induction g with
  | nil => intro k; simp
  | cons b r ih =>
    intro k
    cases k with
    | zero => rw [List.set_cons_zero, codeLen_cons, codeLen_cons]; show 0 + _ ≤ _; omega
    | succ k => rw [List.set_cons_succ, codeLen_cons, codeLen_cons]; have := ih k; omega
theorem prG_codeLen (r : List Bool) (g : List Bk) (k : Nat) : codeLen (prG r g k) ≤ codeLen g := by
  induction k with
  | zero => exact Nat.le_refl _
  | succ k ih =>
    rw [prG]
    split
    · exact ih
    · exact Nat.le_trans (codeLen_set_le _ _) ih

theorem prG_taken {g : List Bk} (T : TakenG g) (r : List Bool) (k : Nat) : TakenG (prG r g k) := by
  refine ⟨by rw [prG_len]; exact T.pos, by rw [prG_len]; exact T.few, fun j hj => ?_, Nat.le_trans (prG_codeLen r g k) T.room⟩
  have hj' : j < g.length := by rwa [prG_len] at hj
  rw [prG_get r g k j hj', prG_len]
  split
  · exact ⟨rfl, by decide, by rw [leadsB, if_neg (by decide), if_neg (by decide)]⟩
  · exact T.ok j hj'

/-- A run comes to marked blocks alone. -/
theorem prG_go {g : List Bk} (T : TakenG g) {r : List Bool} (hr : ∀ i, r.getD i false = true ↔ Come g i) (m : Nat) (pk : List UInt8) : ∀ (f k : Nat) (M : Mc), Come g k → goG (prG r g m) pk f k M = goG g pk f k M
  | 0, _, _, _ => rfl
  | f + 1, k, M, hc => by
    have hk := come_lt T hc
    have hk' : k < (prG r g m).length := by rw [prG_len]; exact hk
    have e : (prG r g m)[k] = g[k] := by
      rw [prG_get r g m k hk, if_neg (fun h => by have := (hr k).2 hc; rw [h.2] at this; cases this)]
    rw [goG_eq hk' _ rfl, goG_eq hk _ rfl, e]
    have hnx : ∀ j ∈ nextL g[k], Come g j := fun j hj => .next hc hk hj
    rcases ends_cases (T.ok k hk).2.1 with he | he | he
    · simp only [he, if_true]
    · have h1 := prG_go T hr m pk f g[k].yes.toNat (codeF pk g[k].code M).1 (hnx _ (by rw [nextL, if_neg (by omega), if_pos he]; simp))
      rw [if_pos he, if_pos he, h1]
    · have h1 := prG_go T hr m pk f (if asksV g[k].last (codeF pk g[k].code M).1 = true then g[k].yes else g[k].no).toNat (codeF pk g[k].code M).1 (hnx _ (by rw [nextL, if_neg (by omega), if_neg (by omega)]; split <;> simp))
      rw [h1, if_neg (show ¬ g[k].en = 2 by omega), if_neg (show ¬ g[k].en = 2 by omega)]

theorem prG_run {g : List Bk} {pk : List UInt8} (h : (checkG g).2 = 0) (m : Nat) : runG (prG (reachGTo g g.length) g m) pk = runG g pk ∧ runGE (prG (reachGTo g g.length) g m) pk = runGE g pk := by
  have T := taken_g h
  have T' := prG_taken T (reachGTo g g.length) m
  have e : (checkG (prG (reachGTo g g.length) g m)).2 = 0 := by rw [check_of T']
  have e2 : runGE (prG (reachGTo g g.length) g m) pk = runGE g pk := by rw [runGE, runGE, if_pos e, if_pos h]
  refine ⟨?_, e2⟩
  rw [runG, runG, e2, prG_len]
  split
  · exact prG_go T (reachG_all T).2 m pk _ 0 mc0 .first
  · rfl

end Go.Proofs.Ythffbogejcbdiaa

namespace Go.Proofs.Ythffbogejcbdiaa
open Go.RowKit
set_option maxRecDepth 100000

/-- Where a run goes on. -/
theorem taken_next {xs : List In} (h : (checkV xs).2 = 0) {j : Nat} (hj : j < xs.length) (hr : retB xs[j].code.toNat = false) :
    j + 1 < xs.length ∧ (((xs[j].code.toNat : Int) == 5) = true → j + 1 + xs[j].k.toNat < xs.length) ∧ (jumpB xs[j].code.toNat = true → j + 1 + xs[j].jt.toNat < xs.length ∧ j + 1 + xs[j].jf.toNat < xs.length) := by
  obtain ⟨t1, t2, t3, t4⟩ := taken h
  obtain ⟨p1, p2⟩ := jumpBad_out (bad_zero (t3 j hj)).2
  have hn := last_ret t4 hj hr
  refine ⟨hn, fun h5 => by have := p1 h5; omega, fun hjb => by have := p2 hjb; omega⟩

/-- What a run from a place on comes to. -/
structure Runs (xs : List In) (j : Nat) (r : Nat × Int × List Nat) : Prop where
  head : ∃ l, r.2.2 = j :: l
  rise : r.2.2.Pairwise (· < ·)
  within : ∀ t ∈ r.2.2, t < xs.length
  reach : (reachTo xs j).getD j false = true → ∀ t ∈ r.2.2, (reachTo xs t).getD t false = true
  few : r.2.2.length + j ≤ xs.length
  last : ∃ t, r.2.2.getLast? = some t ∧ ∃ x, xs[t]? = some x ∧ (r.2.1 ≠ 0 → r.1 = 0 ∧ retB x.code.toNat = false ∧ jumpB x.code.toNat = false ∧ ((x.code.toNat : Int) == 5) = false ∧ ∃ M pk, (stepV x.code.toNat x.k.toNat pk M).2 ≠ 0) ∧ (r.2.1 = 0 → retB x.code.toNat = true ∧ (((x.code.toNat : Int) == 22) = true ∨ r.1 = x.k.toNat))

theorem stepB_mono (x : In) (i t : Nat) (bs : List Bool) (h : bs.getD t false = true) : (stepB x i bs).getD t false = true := by
  have hs : ∀ (l : List Bool) (k : Nat), l.getD t false = true → (l.set k true).getD t false = true := fun l k hl => by
    simp only [List.getD_eq_getElem?_getD, List.getElem?_set] at *
    by_cases e : k = t
    · subst e
      by_cases hk : k < l.length
      · simp [hk]
      · simp [hk] at hl
    · simp [e, hl]
  unfold stepB
  split
  · exact h
  split
  · exact hs _ _ h
  split
  · exact hs _ _ (hs _ _ h)
  · exact hs _ _ h

theorem reachTo_mono (xs : List In) (i d t : Nat) (h : (reachTo xs i).getD t false = true) : (reachTo xs (i + d)).getD t false = true := by
  induction d with
  | zero => exact h
  | succ d ih =>
    rw [show i + (d + 1) = i + d + 1 by omega, reachTo]
    cases xs[i + d]? with
    | none => exact ih
    | some x => exact stepB_mono x _ _ _ ih

theorem reach_set {bs : List Bool} {k t : Nat} (h : k = t) (ht : t < bs.length) : (bs.set k true).getD t false = true := by
  subst h
  simp [List.getD_eq_getElem?_getD, ht]

/-- What is come to goes on. -/
theorem reach_step {xs : List In} {j n : Nat} (hj : j < xs.length) (h : (reachTo xs j).getD j false = true) (hr : retB xs[j].code.toNat = false) (hn : n < xs.length)
    (hg : if ((xs[j].code.toNat : Int) == 5) = true then n = j + 1 + xs[j].k.toNat else if jumpB xs[j].code.toNat = true then (n = j + 1 + xs[j].jt.toNat ∨ n = j + 1 + xs[j].jf.toNat) else n = j + 1) : (reachTo xs n).getD n false = true := by
  have hjn : j + 1 ≤ n := by
    split at hg
    · omega
    · split at hg
      · rcases hg with e | e <;> omega
      · omega
  have key : (reachTo xs (j + 1)).getD n false = true := by
    rw [reachTo_succ hj, stepB, if_neg (by rw [h, hr]; simp)]
    have hl := reachTo_len xs j
    split at hg
    · rename_i h5
      rw [if_pos h5]
      exact reach_set hg.symm (by omega)
    · rename_i h5
      rw [if_neg h5]
      split at hg
      · rename_i hjb
        rw [if_pos hjb]
        rcases hg with e | e
        · by_cases hee : xs[j].jf.toNat = xs[j].jt.toNat
          · exact reach_set (by omega) (by simp; omega)
          · have := reach_set (bs := reachTo xs j) (k := j + 1 + xs[j].jt.toNat) e.symm (by omega)
            simp only [List.getD_eq_getElem?_getD] at this ⊢
            rw [List.getElem?_set_ne (by omega)]
            exact this
        · exact reach_set e.symm (by simp; omega)
      · rename_i hjb
        rw [if_neg hjb]
        exact reach_set hg.symm (by omega)
  have := reachTo_mono xs (j + 1) (n - (j + 1)) n key
  rw [show j + 1 + (n - (j + 1)) = n by omega] at this
  exact this

theorem retB_of {c : Int} (h6 : (c == 6) = false) (h22 : (c == 22) = false) : retB c = false := by simp only [retB, h6, h22]; rfl

theorem Runs.cons {xs : List In} {j n : Nat} {r : Nat × Int × List Nat} (hj : j < xs.length) (hr : retB xs[j].code.toNat = false) (hjn : j < n) (hn : n < xs.length)
    (hg : if ((xs[j].code.toNat : Int) == 5) = true then n = j + 1 + xs[j].k.toNat else if jumpB xs[j].code.toNat = true then (n = j + 1 + xs[j].jt.toNat ∨ n = j + 1 + xs[j].jf.toNat) else n = j + 1)
    (h : Runs xs n r) : Runs xs j (hdV j r) := by
  obtain ⟨l, hl⟩ := h.head
  obtain ⟨t, ht, x, hx, q⟩ := h.last
  refine ⟨⟨_, rfl⟩, ?_, ?_, ?_, ?_, t, ?_, x, hx, q⟩
  · show (j :: r.2.2).Pairwise (· < ·)
    rw [List.pairwise_cons]
    refine ⟨fun a ha => ?_, h.rise⟩
    have hp := h.rise
    rw [hl] at hp ha
    rw [List.pairwise_cons] at hp
    rcases List.mem_cons.1 ha with rfl | ha
    · exact hjn
    · exact Nat.lt_trans hjn (hp.1 a ha)
  · intro a ha
    rcases List.mem_cons.1 ha with rfl | ha
    · exact hj
    · exact h.within a ha
  · intro h0 a ha
    rcases List.mem_cons.1 ha with rfl | ha
    · exact h0
    · exact h.reach (reach_step hj h0 hr hn hg) a ha
  · have := h.few
    show (j :: r.2.2).length + j ≤ xs.length
    simp only [List.length_cons]
    omega
  · show (j :: r.2.2).getLast? = some t
    rw [List.getLast?_cons, ht]
    rfl

theorem Runs.one {xs : List In} {j v : Nat} {f : Int} (hj : j < xs.length)
    (q : (f ≠ 0 → v = 0 ∧ retB xs[j].code.toNat = false ∧ jumpB xs[j].code.toNat = false ∧ ((xs[j].code.toNat : Int) == 5) = false ∧ ∃ M pk, (stepV xs[j].code.toNat xs[j].k.toNat pk M).2 ≠ 0) ∧ (f = 0 → retB xs[j].code.toNat = true ∧ (((xs[j].code.toNat : Int) == 22) = true ∨ v = xs[j].k.toNat))) : Runs xs j (v, f, [j]) := by
  refine ⟨⟨_, rfl⟩, by simp, ?_, ?_, by simp; omega, j, rfl, xs[j], List.getElem?_eq_getElem hj, q⟩
  · intro a ha
    simp only [List.mem_singleton] at ha
    omega
  · intro h0 a ha
    simp only [List.mem_singleton] at ha
    subst ha
    exact h0

theorem runF_runs {xs : List In} (h : (checkV xs).2 = 0) (pk : List UInt8) : ∀ (n j : Nat) (M : Mc), j < xs.length → xs.length ≤ j + n → Runs xs j (runF xs pk n j M) := by
  intro n
  induction n with
  | zero => intro j M h1 h2; omega
  | succ n ih =>
    intro j M hj hn
    by_cases h6 : ((xs[j].code.toNat : Int) == 6) = true
    · rw [runF_retK hj h6]
      exact Runs.one hj ⟨fun hf => absurd rfl hf, fun _ => ⟨by simp [retB, h6], .inr rfl⟩⟩
    have h6 : ((xs[j].code.toNat : Int) == 6) = false := by simpa using h6
    by_cases h22 : ((xs[j].code.toNat : Int) == 22) = true
    · rw [runF_retA hj h6 h22]
      exact Runs.one hj ⟨fun hf => absurd rfl hf, fun _ => ⟨by simp [retB, h22], .inl h22⟩⟩
    have h22 : ((xs[j].code.toNat : Int) == 22) = false := by simpa using h22
    have hr := retB_of h6 h22
    obtain ⟨p0, p1, p2⟩ := taken_next h hj hr
    by_cases h5 : ((xs[j].code.toNat : Int) == 5) = true
    · rw [runF_ja hj h6 h22 h5]
      have := p1 h5
      exact Runs.cons hj hr (by omega) this (by rw [if_pos h5]) (ih _ _ this (by omega))
    have h5 : ((xs[j].code.toNat : Int) == 5) = false := by simpa using h5
    cases hjb : jumpB xs[j].code.toNat with
    | true =>
      rw [runF_jump hj h6 h22 h5 hjb]
      obtain ⟨q1, q2⟩ := p2 hjb
      have hgo : j + 1 + goalV xs[j] M = j + 1 + xs[j].jt.toNat ∨ j + 1 + goalV xs[j] M = j + 1 + xs[j].jf.toNat := by
        unfold goalV
        split
        · exact .inl rfl
        · exact .inr rfl
      have hlt : j + 1 + goalV xs[j] M < xs.length := by rcases hgo with e | e <;> omega
      exact Runs.cons hj hr (by omega) hlt (by rw [h5, if_neg (by simp), if_pos hjb]; exact hgo) (ih _ _ hlt (by omega))
    | false =>
      rw [runF_step hj h6 h22 h5 hjb]
      by_cases hf : (stepV xs[j].code.toNat xs[j].k.toNat pk M).2 = 0
      · rw [if_pos hf]
        exact Runs.cons hj hr (by omega) p0 (by rw [h5, hjb, if_neg (by simp), if_neg (by simp)]) (ih _ _ p0 (by omega))
      · rw [if_neg hf]
        exact Runs.one hj ⟨fun _ => ⟨rfl, hr, hjb, h5, M, pk, hf⟩, fun e => absurd e hf⟩

theorem runE_zero {xs : List In} {pk : List UInt8} (h : runE xs pk = 0) : (checkV xs).2 = 0 ∧ pk.length ≤ 65536 := by
  unfold runE at h
  split at h
  · rename_i h0
    split at h
    · simp at h
    · exact ⟨h0, by omega⟩
  · simp at h

theorem runV_runs {xs : List In} {pk : List UInt8} (h : runE xs pk = 0) : Runs xs 0 (runV xs pk) := by
  obtain ⟨h0, -⟩ := runE_zero h
  rw [runV, if_pos h]
  exact runF_runs h0 pk _ _ _ (taken h0).1 (by omega)

theorem runV_len (xs : List In) (pk : List UInt8) : (runV xs pk).2.2.length ≤ 4096 := by
  by_cases h : runE xs pk = 0
  · have := (runV_runs h).few
    have := (taken (runE_zero h).1).2.1
    omega
  · rw [runV, if_neg h]
    simp

end Go.Proofs.Ythffbogejcbdiaa
