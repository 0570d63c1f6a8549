/-
  Chapter 15 in words: blocks, what is wrong with them, a run through them, their counts, what can be come to. No Go text here. Programs that are taken: one ahead of the other, and with instructions ahead. No Go text here. A Code is straight, if none of its instructions leaves and each part of it with a return behind is a program that is taken. No Go text here. Package insn: what it tells of codes.
-/
import Derived.Test.YtencoknpocipbaaLotP4
import Derived.Test.YtencoknpocipbaaLotP2
import Derived.Handy
namespace Go.Proofs.Ytencoknpocipbaa
open Go.RowKit
set_option maxRecDepth 100000

/-- A block. -/
structure Bk where
  code : List In
  en : Int
  last : In
  yes : Int
  no : Int

def inEq (x y : In) : Bool := x.code == y.code && x.jt == y.jt && x.jf == y.jf && x.k == y.k
/-- A jump or a return. -/
def leavesB (x : In) : Bool := classV x.code.toNat == 5 || classV x.code.toNat == 6
/-- An instruction that may stand in a Code. -/
def plainI (x : In) : Bool := !leavesB x && faultV x.code.toNat x.k.toNat == 0
def straightB (xs : List In) : Bool := xs.all plainI
/-- An instruction without what a Last does not look at. -/
def bareV (x : In) : In := ⟨x.code, 0, 0, if usesK x.code.toNat = true then x.k else 0⟩
def in0 : In := ⟨0, 0, 0, 0⟩
/-- Is a block's end as it must be? -/
def gendsB (b : Bk) : Bool :=
  if b.en = 1 then (classV b.last.code.toNat == 6 && inEq b.last (bareV b.last)) && (b.yes == 0 && b.no == 0)
  else if b.en = 2 then inEq b.last in0 && b.no == 0
  else if b.en = 3 then usesJ b.last.code.toNat && inEq b.last (bareV b.last)
  else false
/-- Do its goals lie behind it? -/
def aheadB (i n : Nat) (y : Int) : Bool := decide ((i : Int) < y) && decide (y < (n : Int))
def leadsB (b : Bk) (i n : Nat) : Bool :=
  if b.en = 2 then aheadB i n b.yes else if b.en = 3 then aheadB i n b.yes && aheadB i n b.no else true
/-- What is wrong with a block; room: what is left of the greatest length behind it. -/
def faultB (b : Bk) (i n : Nat) (room : Int) : Int :=
  if room < 0 then 151 else if straightB b.code = false then 152 else if gendsB b = false then 153 else if leadsB b i n = false then 154 else 0
def firstG (n : Nat) : Nat → Int → List Bk → Nat × Int
  | _, _, [] => (0, 0)
  | i, room, b :: r => if faultB b i n (room - b.code.length) = 0 then firstG n (i + 1) (room - b.code.length) r else (i, faultB b i n (room - b.code.length))
/-- P15.1. -/
def gckG (g : List Bk) : Nat × Int := if g.length = 0 then (0, 150) else if 4096 < g.length then (4096, 151) else firstG g.length 0 4096 g

/-- Instructions carried out one behind the other: the words, the fault, the steps. -/
def codeF (pk : List UInt8) : List In → Mc → Mc × Int × Nat
  | [], M => (M, 0, 0)
  | x :: r, M => if (stepV x.code.toNat x.k.toNat pk M).2 = 0 then ((codeF pk r (stepV x.code.toNat x.k.toNat pk M).1).1, (codeF pk r (stepV x.code.toNat x.k.toNat pk M).1).2.1, (codeF pk r (stepV x.code.toNat x.k.toNat pk M).1).2.2 + 1) else ((stepV x.code.toNat x.k.toNat pk M).1, (stepV x.code.toNat x.k.toNat pk M).2, 1)
def giveV (x : In) (M : Mc) : Nat := if usesK x.code.toNat = true then x.k.toNat else M.a
def addS (k : Nat) (r : Nat × Int × Nat) : Nat × Int × Nat := (r.1, r.2.1, k + r.2.2)
def bk0 : Bk := ⟨[], 1, ⟨6, 0, 0, 0⟩, 0, 0⟩
/-- A run from a block on: the value, the fault, the steps. -/
def goG (g : List Bk) (pk : List UInt8) : Nat → Nat → Mc → Nat × Int × Nat
  | 0, _, _ => (0, 0, 0)
  | n + 1, j, M =>
    if (codeF pk (g.getD j bk0).code M).2.1 ≠ 0 then (0, (codeF pk (g.getD j bk0).code M).2.1, (codeF pk (g.getD j bk0).code M).2.2)
    else if (g.getD j bk0).en = 1 then (giveV (g.getD j bk0).last (codeF pk (g.getD j bk0).code M).1, 0, (codeF pk (g.getD j bk0).code M).2.2 + 1)
    else if (g.getD j bk0).en = 2 then addS (codeF pk (g.getD j bk0).code M).2.2 (goG g pk n (g.getD j bk0).yes.toNat (codeF pk (g.getD j bk0).code M).1)
    else addS ((codeF pk (g.getD j bk0).code M).2.2 + 1) (goG g pk n (if asksV (g.getD j bk0).last (codeF pk (g.getD j bk0).code M).1 = true then (g.getD j bk0).yes else (g.getD j bk0).no).toNat (codeF pk (g.getD j bk0).code M).1)
def runGE (g : List Bk) (pk : List UInt8) : Int := if (gckG g).2 = 0 then (if 65536 < pk.length then 51 else 0) else 155
/-- P15.2. -/
def runG (g : List Bk) (pk : List UInt8) : Nat × Int × Nat := if runGE g pk = 0 then goG g pk g.length 0 mc0 else (0, 0, 0)

/-- P15.3. -/
def countG (f : Bk → Nat) (g : List Bk) : Nat := (g.map fun b => b.code.length + f b).sum
def sizeE (b : Bk) : Nat := if b.en = 2 then 0 else 1
def measE (b : Bk) : Nat := if b.en = 3 then 3 else 1
/-- The blocks that follow on one. -/
def nextL (b : Bk) : List Nat := if b.en = 1 then [] else if b.en = 2 then [b.yes.toNat] else [b.yes.toNat, b.no.toNat]
/-- A block that can be come to. -/
inductive Come (g : List Bk) : Nat → Prop
  | first : Come g 0
  | next {i j : Nat} : Come g i → (h : i < g.length) → j ∈ nextL g[i] → Come g j

/-- The facts that hold of the blocks of a graph that is taken. -/
theorem firstG_ok {n : Nat} : ∀ {i : Nat} {room : Int} {g : List Bk}, (firstG n i room g).2 = 0 → ∀ j (hj : j < g.length), straightB g[j].code = true ∧ gendsB g[j] = true ∧ leadsB g[j] (i + j) n = true
  | _, _, [], _, j, hj => absurd hj (by simp)
  | i, room, b :: r, h, j, hj => by
    rw [firstG] at h
    by_cases hz : faultB b i n (room - b.code.length) = 0
    · rw [if_pos hz] at h
      cases j with
      | zero =>
        simp only [faultB] at hz
        show straightB b.code = true ∧ gendsB b = true ∧ leadsB b (i + 0) n = true
        rw [Nat.add_zero]
        by_cases h1 : room - b.code.length < 0
        · rw [if_pos h1] at hz
          cases hz
        · rw [if_neg h1] at hz
          cases h2 : straightB b.code with
          | false => rw [if_pos h2] at hz; cases hz
          | true =>
            rw [h2] at hz
            cases h3 : gendsB b with
            | false => rw [if_pos h3] at hz; simp at hz
            | true =>
              rw [h3] at hz
              cases h4 : leadsB b i n with
              | false => rw [if_pos h4] at hz; simp at hz
              | true => exact ⟨rfl, rfl, rfl⟩
      | succ j =>
        have := firstG_ok h j (by simpa using hj)
        rw [show i + (j + 1) = i + 1 + j by omega]
        exact this
    · rw [if_neg hz] at h
      exact absurd h hz

def codeLen (g : List Bk) : Nat := (g.map fun b => b.code.length).sum
theorem codeLen_cons (b : Bk) (g : List Bk) : codeLen (b :: g) = b.code.length + codeLen g := by simp [codeLen]

theorem firstG_room {n : Nat} : ∀ {i : Nat} {room : Int} {g : List Bk}, (firstG n i room g).2 = 0 → 0 ≤ room → ((codeLen g : Nat) : Int) ≤ room
  | _, _, [], _, h0 => h0
  | i, room, b :: r, h, h0 => by
    rw [firstG] at h
    by_cases hz : faultB b i n (room - b.code.length) = 0
    · rw [if_pos hz] at h
      have hr : 0 ≤ room - b.code.length := by
        by_cases h1 : room - b.code.length < 0
        · rw [faultB, if_pos h1] at hz
          cases hz
        · omega
      have := firstG_room h hr
      rw [codeLen_cons]
      omega
    · rw [if_neg hz] at h
      exact absurd h hz

structure TakenG (g : List Bk) : Prop where
  pos : 0 < g.length
  few : g.length ≤ 4096
  ok : ∀ j (hj : j < g.length), straightB g[j].code = true ∧ gendsB g[j] = true ∧ leadsB g[j] j g.length = true
  room : codeLen g ≤ 4096

theorem taken_g {g : List Bk} (h : (gckG g).2 = 0) : TakenG g := by
  rw [gckG] at h
  by_cases h0 : g.length = 0
  · rw [if_pos h0] at h
    cases h
  · rw [if_neg h0] at h
    by_cases h4 : 4096 < g.length
    · rw [if_pos h4] at h
      cases h
    · rw [if_neg h4] at h
      refine ⟨by omega, by omega, fun j hj => ?_, ?_⟩
      · have := firstG_ok h j hj
        rwa [Nat.zero_add] at this
      · have := firstG_room h (by omega)
        omega

theorem ends_cases {b : Bk} (h : gendsB b = true) : b.en = 1 ∨ b.en = 2 ∨ b.en = 3 := by
  by_cases h1 : b.en = 1
  · exact .inl h1
  · by_cases h2 : b.en = 2
    · exact .inr (.inl h2)
    · by_cases h3 : b.en = 3
      · exact .inr (.inr h3)
      · rw [gendsB, if_neg h1, if_neg h2, if_neg h3] at h
        cases h

theorem leads_next {b : Bk} {i n : Nat} (he : gendsB b = true) (h : leadsB b i n = true) : ∀ j ∈ nextL b, i < j ∧ j < n := by
  intro j hj
  rcases ends_cases he with h1 | h2 | h3
  · rw [nextL, if_pos h1] at hj
    cases hj
  · have n1 : ¬ b.en = 1 := by omega
    rw [nextL, if_neg n1, if_pos h2] at hj
    rw [leadsB, if_pos h2] at h
    simp only [List.mem_singleton] at hj
    simp only [aheadB, Bool.and_eq_true, decide_eq_true_eq] at h
    omega
  · have n1 : ¬ b.en = 1 := by omega
    have n2 : ¬ b.en = 2 := by omega
    rw [nextL, if_neg n1, if_neg n2] at hj
    rw [leadsB, if_neg n2, if_pos h3] at h
    simp only [List.mem_cons, List.not_mem_nil, or_false] at hj
    simp only [aheadB, Bool.and_eq_true, decide_eq_true_eq] at h
    omega

theorem come_lt {g : List Bk} (T : TakenG g) {j : Nat} (h : Come g j) : j < g.length := by
  induction h with
  | first => exact T.pos
  | next _ hi hj _ => exact (leads_next (T.ok _ hi).2.1 (T.ok _ hi).2.2 _ hj).2

/-- What makes a graph one that is taken. -/
theorem firstG_zero {n : Nat} : ∀ {i : Nat} {room : Int} {g : List Bk}, (∀ j (hj : j < g.length), straightB g[j].code = true ∧ gendsB g[j] = true ∧ leadsB g[j] (i + j) n = true) → ((codeLen g : Nat) : Int) ≤ room → firstG n i room g = (0, 0)
  | _, _, [], _, _ => rfl
  | i, room, b :: r, h, hr => by
    rw [codeLen_cons] at hr
    obtain ⟨h1, h2, h3⟩ := h 0 (by simp)
    simp only [List.getElem_cons_zero, Nat.add_zero] at h1 h2 h3
    have hz : faultB b i n (room - b.code.length) = 0 := by
      rw [faultB, if_neg (by omega), if_neg (by rw [h1]; simp), if_neg (by rw [h2]; simp), if_neg (by rw [h3]; simp)]
    rw [firstG, if_pos hz]
    refine firstG_zero (fun j hj => ?_) (by omega)
    have := h (j + 1) (by simpa using hj)
    rw [show i + (j + 1) = i + 1 + j by omega] at this
    exact this
theorem check_of {g : List Bk} (T : TakenG g) : gckG g = (0, 0) := by
  have h0 := T.pos
  have h1 := T.few
  rw [gckG, if_neg (by omega), if_neg (by omega)]
  refine firstG_zero (fun j hj => ?_) (by have := T.room; omega)
  rw [Nat.zero_add]
  exact T.ok j hj

end Go.Proofs.Ytencoknpocipbaa

namespace Go.Proofs.Ytencoknpocipbaa
open Go.RowKit
set_option maxRecDepth 100000

theorem firstBad_all {n i : Nat} {xs : List In} (h : ∀ j (hj : j < xs.length), badV n (i + j) xs[j] = 0) : firstBad n i xs = none := by
  induction xs generalizing i with
  | nil => rfl
  | cons x xs ih =>
    have h0 := h 0 (by simp)
    simp only [Nat.add_zero, List.getElem_cons_zero] at h0
    rw [firstBad, if_pos h0]
    refine ih (fun j hj => ?_)
    have := h (j + 1) (by simpa using hj)
    simpa [Nat.add_assoc, Nat.add_comm, Nat.add_left_comm] using this

theorem taken_of {xs : List In} (h1 : 0 < xs.length) (h2 : xs.length ≤ 4096) (h3 : ∀ j (hj : j < xs.length), badV xs.length j xs[j] = 0) (h4 : lastB xs = true) : checkV xs = (0, 0) := by
  rw [checkV, if_neg (by omega), if_neg (by omega), firstBad_all (by intro j hj; simpa using h3 j hj), endV, if_pos h4]

theorem bad_of {n i : Nat} {x : In} (h1 : faultV x.code.toNat x.k.toNat = 0) (h2 : jumpBad x.code.toNat x.jt.toNat x.jf.toNat x.k.toNat (n - 1 - i) = false) : badV n i x = 0 := by
  rw [badV, if_pos h1, if_neg (by rw [h2]; simp)]

theorem bad_shift (n m i : Nat) (x : In) : badV (n + m) (i + m) x = badV n i x := by
  unfold badV
  rw [show n + m - 1 - (i + m) = n - 1 - i by omega]

theorem jumpBad_mono {c : Int} {t f k r s : Nat} (h : jumpBad c t f k r = false) (hrs : r ≤ s) : jumpBad c t f k s = false := by
  unfold jumpBad at *
  simp only [Bool.or_eq_false_iff, Bool.and_eq_false_iff, decide_eq_false_iff_not, Nat.not_le] at *
  refine ⟨?_, ?_⟩
  · rcases h.1 with q | q
    · exact .inl q
    · exact .inr (by omega)
  · rcases h.2 with q | q
    · exact .inl q
    · exact .inr ⟨by omega, by omega⟩

theorem bad_mono {n m i : Nat} {x : In} (h : badV n i x = 0) (hnm : n ≤ m) : badV m i x = 0 := by
  obtain ⟨h1, h2⟩ := bad_zero h
  exact bad_of h1 (jumpBad_mono h2 (by omega))

theorem lastB_app (xs ys : List In) (h : ys ≠ []) : lastB (xs ++ ys) = lastB ys := by
  unfold lastB
  rw [List.getLast?_append]
  cases hy : ys.getLast? with
  | none => exact absurd (List.getLast?_eq_none_iff.1 hy) h
  | some y => rfl

/-- P4.3: one that is taken behind one that is taken. -/
theorem taken_app {xs ys : List In} (hx : (checkV xs).2 = 0) (hy : (checkV ys).2 = 0) (hl : xs.length + ys.length ≤ 4096) : checkV (xs ++ ys) = (0, 0) := by
  obtain ⟨a1, a2, a3, a4⟩ := taken hx
  obtain ⟨b1, b2, b3, b4⟩ := taken hy
  refine taken_of (by simp; omega) (by simpa using hl) (fun j hj => ?_) (by rw [lastB_app _ _ (by intro e; rw [e] at b1; simp at b1)]; exact b4)
  rw [List.length_append]
  by_cases h : j < xs.length
  · rw [List.getElem_append_left h]
    exact bad_mono (a3 j h) (by omega)
  · rw [List.getElem_append_right (by omega)]
    have hj2 : j - xs.length < ys.length := by simp at hj; omega
    have := b3 (j - xs.length) hj2
    rw [← bad_shift ys.length xs.length (j - xs.length)] at this
    rw [show xs.length + ys.length = ys.length + xs.length by omega]
    rw [show j - xs.length + xs.length = j by omega] at this
    exact this

/-- P4.3: with instructions ahead that go straight on. -/
theorem taken_ahead {xs ps : List In} (hx : (checkV xs).2 = 0) (hl : ps.length + xs.length ≤ 4096) (ha : ∀ x ∈ ps, faultV x.code.toNat x.k.toNat = 0 ∧ ((x.code.toNat : Int) == 5) = false ∧ jumpB x.code.toNat = false) : checkV (ps ++ xs) = (0, 0) := by
  obtain ⟨a1, a2, a3, a4⟩ := taken hx
  refine taken_of (by simp; omega) (by simpa using hl) (fun j hj => ?_) (by rw [lastB_app _ _ (by intro e; rw [e] at a1; simp at a1)]; exact a4)
  rw [List.length_append]
  by_cases h : j < ps.length
  · rw [List.getElem_append_left h]
    obtain ⟨f1, f2, f3⟩ := ha ps[j] (List.getElem_mem h)
    exact bad_of f1 (by rw [jumpBad, f2, f3]; rfl)
  · rw [List.getElem_append_right (by omega)]
    have hj2 : j - ps.length < xs.length := by simp at hj; omega
    have := a3 (j - ps.length) hj2
    rw [← bad_shift xs.length ps.length (j - ps.length)] at this
    rw [show ps.length + xs.length = xs.length + ps.length by omega]
    rw [show j - ps.length + ps.length = j by omega] at this
    exact this

end Go.Proofs.Ytencoknpocipbaa

namespace Go.Proofs.Ytencoknpocipbaa
open Go.RowKit
set_option maxRecDepth 100000

def ret0 : In := ⟨6, 0, 0, 0⟩

theorem leaves_jump {x : In} (h : leavesB x = false) (hk : knownB x.code.toNat = true) : (((x.code.toNat : Int) == 5) = false) ∧ jumpB x.code.toNat = false := by
  simp only [leavesB, classV, hk, if_true, Bool.or_eq_false_iff] at h
  refine ⟨?_, ?_⟩
  · rw [beq_eq_false_iff_ne]
    intro e
    rw [e] at h
    simp at h
  · cases hj : jumpB x.code.toNat with
    | false => rfl
    | true =>
      exfalso
      have h5 := h.1
      rw [beq_eq_false_iff_ne] at h5
      simp only [jumpB, Bool.or_eq_true, beq_iff_eq] at hj
      omega

theorem plain_bad {x : In} {n i : Nat} (h : leavesB x = false) (hf : faultV x.code.toNat x.k.toNat = 0) : badV n i x = 0 := by
  have hk : knownB x.code.toNat = true := by
    cases hk : knownB x.code.toNat with
    | true => rfl
    | false => rw [faultV, if_pos hk] at hf; simp at hf
  obtain ⟨h5, hj⟩ := leaves_jump h hk
  refine bad_of hf ?_
  simp only [jumpBad, h5, hj, Bool.false_and, Bool.or_false]

theorem chunk_check {xs : List In} (h0 : xs.length ≤ 4095) (hl : ∀ x ∈ xs, leavesB x = false) : (checkV (xs ++ [ret0])).2 = 0 ↔ ∀ x ∈ xs, faultV x.code.toNat x.k.toNat = 0 := by
  constructor
  · intro h x hx
    obtain ⟨i, hi, rfl⟩ := List.getElem_of_mem hx
    obtain ⟨-, -, hb, -⟩ := taken h
    have := hb i (by simp; omega)
    rw [List.getElem_append_left hi] at this
    exact (bad_zero this).1
  · intro h
    rw [taken_of (by simp) (by simp; omega) (fun j hj => ?_) (by simp [lastB, ret0, retB])]
    by_cases hi : j < xs.length
    · rw [List.getElem_append_left hi]
      exact plain_bad (hl _ (List.getElem_mem hi)) (h _ (List.getElem_mem hi))
    · rw [List.getElem_append_right (by omega)]
      have : j - xs.length = 0 := by simp at hj; omega
      simp only [this, List.getElem_cons_zero]
      exact bad_of (by decide) (by simp [jumpBad, ret0, jumpB])

theorem straight_iff (xs : List In) : straightB xs = true ↔ (∀ x ∈ xs, leavesB x = false) ∧ ∀ x ∈ xs, faultV x.code.toNat x.k.toNat = 0 := by
  simp only [straightB, List.all_eq_true, plainI, Bool.and_eq_true, Bool.not_eq_true', beq_iff_eq]
  exact ⟨fun h => ⟨fun x hx => (h x hx).1, fun x hx => (h x hx).2⟩, fun h x hx => ⟨h.1 x hx, h.2 x hx⟩⟩

end Go.Proofs.Ytencoknpocipbaa

namespace Go.Proofs.Ytencoknpocipbaa
open Go.RowKit
set_option maxRecDepth 100000

/-- Codes that look at K; codes that may end a run. -/
def tK (c : Int) : Bool := loadB c || (c == 0 || c == 96 || c == 1 || c == 97 || c == 2 || c == 3 || c == 4 || c == 20 || c == 36 || c == 52 || c == 148 || c == 68 || c == 84 || c == 164 || c == 100 || c == 116 || c == 5 || c == 6) || (c == 21 || c == 37 || c == 53 || c == 69)
def tF (c : Int) : Bool := loadB c || (c == 60 || c == 156)

theorem ret_traits {a b c d x y z u : Bool} (h1 : a = x) (h2 : b = y) (h3 : c = z) (h4 : d = u) : Ending.returned (.agg #[.bool a, .bool b, .bool c, .bool d]) = .returned (.agg #[.bool x, .bool y, .bool z, .bool u]) := by rw [h1, h2, h3, h4]

set_option maxRecDepth 100000 in
set_option maxHeartbeats 4000000 in
theorem traits_any (c : Int) (w : World) : Calls Try.prog 95 #[.int .u16 c] w fun e w' => e = .returned (.agg #[.bool (knownB c), .bool (tK c), .bool (jumpB c), .bool (tF c)]) ∧ w.grownBy w' none := by
  go_enter Try.func95, Try.ntmps95
  go_wp2
  all_goals
    go_returns
    refine ⟨?_, grown_trans (World.grownBy_alloc _ _ _) (World.grownBy_alloc _ _ _)⟩
    first
      | (have e := eq_of_beq ‹(c == _) = true›; subst e; rfl)
      | exact ret_traits (by simp [knownB, plainB, jumpB, operB, *]) (by simp [tK, loadB, *]) (by simp [jumpB, *]) (by simp [tF, loadB, *])

end Go.Proofs.Ytencoknpocipbaa
