/-
  The document's own question of a jump: Holds. The machine: its words, a step, a run. No Go text here. Chapter 15 in words: blocks, what is wrong with them, a run through them, their counts, what can be come to. No Go text here. Programs that are taken: one ahead of the other, and with instructions ahead. No Go text here.
-/
import Derived.Test.YtencoknpocipbaaGreatLotP4
namespace Go.Proofs.YtencoknpocipbaaGreat
open Go.RowKit
set_option maxRecDepth 100000

/-- The other number: X's, or K. -/
def sideV (c : Int) (k x : Nat) : Nat := if byxB c = true then x else k
/-- Is a jump's question true? d: its code, its bit 8 struck. -/
def holdsV (d : Int) (a b : Nat) : Bool := if d == 21 then a == b else if d == 37 then decide (b < a) else if d == 53 then decide (b ≤ a) else (a &&& b) != 0

theorem cast_beq (a b : Nat) : ((a : Int) == (b : Int)) = (a == b) := by
  by_cases h : a = b
  · subst h; simp
  · have h1 : (a == b) = false := by rw [beq_eq_false_iff_ne]; exact h
    rw [h1, beq_eq_false_iff_ne]
    omega
theorem cast_bne (a : Nat) : ((a : Int) != 0) = (a != 0) := by
  have := cast_beq a 0
  simp only [bne]
  rw [← this]
  rfl

set_option maxHeartbeats 1000000 in
theorem holds_q (c : Int) (t f k a x : Nat) (w : World) (hk : k ≤ 4294967295) (ha : a ≤ 4294967295) (hx : x ≤ 4294967295) :
    Calls Tryz.prog 33 #[.agg #[.int .u16 c, .int .u8 t, .int .u8 f, .int .u32 k], .int .u32 a, .int .u32 x] w fun e w' => e = .returned (.bool (holdsV (bits .andNot .u16 c 8) a (sideV c k x))) ∧ w.grownBy w' none := by
  have G0 : w.grownBy (w.alloc (.cells #[.int .u16 c, .int .u8 t, .int .u8 f, .int .u32 k] 54)) none := World.grownBy_alloc _ _ _
  cases hb : byxB c with
  | true =>
    have e : sideV c k x = x := by simp [sideV, hb]
    rw [e]
    have e2 := u32_and_nat a x (by omega) (by omega)
    generalize hd : bits .andNot .u16 c 8 = d
    go_enter Tryz.func33, Tryz.ntmps33
    go_wp2_with (go_at_call 49; refine (byx_any _ _).mono ?_; rintro e w' ⟨rfl, rfl⟩)
    all_goals
      go_ret
      exact ⟨ret_bool (by simp [holdsV, cast_beq, cast_bne, *]), G0⟩
  | false =>
    have e : sideV c k x = k := by simp [sideV, hb]
    rw [e]
    have e2 := u32_and_nat a k (by omega) (by omega)
    generalize hd : bits .andNot .u16 c 8 = d
    go_enter Tryz.func33, Tryz.ntmps33
    go_wp2_with (go_at_call 49; refine (byx_any _ _).mono ?_; rintro e w' ⟨rfl, rfl⟩)
    all_goals
      go_ret
      exact ⟨ret_bool (by simp [holdsV, cast_beq, cast_bne, *]), G0⟩

end Go.Proofs.YtencoknpocipbaaGreat

namespace Go.Proofs.YtencoknpocipbaaGreat
open Go.RowKit
set_option maxRecDepth 100000

/-- A run's words. -/
structure Mc where
  a : Nat
  x : Nat
  m : List Nat

def u32v (v : Nat) : Value := .int .u32 (v : Int)
def Mc.cells (M : Mc) : List Value := .int .u32 (M.a : Int) :: .int .u32 (M.x : Int) :: M.m.map u32v
def Mc.ok (M : Mc) : Prop := M.a ≤ 4294967295 ∧ M.x ≤ 4294967295 ∧ M.m.length = 16 ∧ ∀ i, M.m.getD i 0 ≤ 4294967295
def mc0 : Mc := ⟨0, 0, List.replicate 16 0⟩

/-- An instruction that is no jump and no return: the words behind it, the fault. -/
def stepV (c : Int) (k : Nat) (pk : List UInt8) (M : Mc) : Mc × Int :=
  if (c == 0) = true then (⟨k, M.x, M.m⟩, 0)
  else if (c == 32 || c == 40 || c == 48) = true then (⟨(readAtV pk k (sizeV c)).1, M.x, M.m⟩, (readAtV pk k (sizeV c)).2)
  else if (c == 64 || c == 72 || c == 80) = true then (⟨(readAtV pk (k + M.x) (sizeV c)).1, M.x, M.m⟩, (readAtV pk (k + M.x) (sizeV c)).2)
  else if (c == 96) = true then (⟨M.m.getD (k % 16) 0, M.x, M.m⟩, 0)
  else if (c == 128) = true then (⟨pk.length, M.x, M.m⟩, 0)
  else if (c == 1) = true then (⟨M.a, k, M.m⟩, 0)
  else if (c == 97) = true then (⟨M.a, M.m.getD (k % 16) 0, M.m⟩, 0)
  else if (c == 129) = true then (⟨M.a, pk.length, M.m⟩, 0)
  else if (c == 177) = true then (⟨M.a, 4 * ((readAtV pk k 1).1 % 16), M.m⟩, (readAtV pk k 1).2)
  else if (c == 2) = true then (⟨M.a, M.x, M.m.set (k % 16) M.a⟩, 0)
  else if (c == 3) = true then (⟨M.a, M.x, M.m.set (k % 16) M.x⟩, 0)
  else if (c == 132) = true then (⟨(4294967296 - M.a) % 4294967296, M.x, M.m⟩, 0)
  else if (c == 7) = true then (⟨M.a, M.a, M.m⟩, 0)
  else if (c == 135) = true then (⟨M.x, M.x, M.m⟩, 0)
  else (⟨(operV (bits .andNot .u16 c 8) M.a (sideV c k M.x)).1, M.x, M.m⟩, (operV (bits .andNot .u16 c 8) M.a (sideV c k M.x)).2)

/-- A jump's question, of an instruction. -/
def asksV (x : In) (M : Mc) : Bool := holdsV (bits .andNot .u16 x.code.toNat 8) M.a (sideV x.code.toNat x.k.toNat M.x)
def goalV (x : In) (M : Mc) : Nat := if asksV x M = true then x.jt.toNat else x.jf.toNat
def hdV (j : Nat) (r : Nat × Int × List Nat) : Nat × Int × List Nat := (r.1, r.2.1, j :: r.2.2)
def zIn : In := ⟨6, 0, 0, 0⟩

/-- A run from a place on: the value, the fault, the places. -/
def runF (xs : List In) (pk : List UInt8) : Nat → Nat → Mc → Nat × Int × List Nat
  | 0, _, _ => (0, 0, [])
  | n + 1, j, M =>
    if (((xs.getD j zIn).code.toNat : Int) == 6) = true then ((xs.getD j zIn).k.toNat, 0, [j])
    else if (((xs.getD j zIn).code.toNat : Int) == 22) = true then (M.a, 0, [j])
    else if (((xs.getD j zIn).code.toNat : Int) == 5) = true then hdV j (runF xs pk n (j + 1 + (xs.getD j zIn).k.toNat) M)
    else if jumpB (xs.getD j zIn).code.toNat = true then hdV j (runF xs pk n (j + 1 + goalV (xs.getD j zIn) M) M)
    else if (stepV (xs.getD j zIn).code.toNat (xs.getD j zIn).k.toNat pk M).2 = 0 then hdV j (runF xs pk n (j + 1) (stepV (xs.getD j zIn).code.toNat (xs.getD j zIn).k.toNat pk M).1)
    else (0, (stepV (xs.getD j zIn).code.toNat (xs.getD j zIn).k.toNat pk M).2, [j])

/-- The error of a run; what it comes to. -/
def runE (xs : List In) (pk : List UInt8) : Int := if (checkV xs).2 = 0 then (if 65536 < pk.length then 51 else 0) else 50
def runV (xs : List In) (pk : List UInt8) : Nat × Int × List Nat := if runE xs pk = 0 then runF xs pk xs.length 0 mc0 else (0, 0, [])

theorem operV_le (d : Int) (a b : Nat) (ha : a ≤ 4294967295) (hb : b ≤ 4294967295) : (operV d a b).1 ≤ 4294967295 := by
  have h1 := shiftV_le a b true ha
  have h2 := shiftV_le a b false ha
  have h3 : a ||| b < 2 ^ 32 := Nat.or_lt_two_pow (by omega) (by omega)
  have h4 : a &&& b < 2 ^ 32 := Nat.and_lt_two_pow _ (by omega)
  have h5 : a ^^^ b < 2 ^ 32 := Nat.xor_lt_two_pow (by omega) (by omega)
  have h6 : a / b ≤ a := Nat.div_le_self _ _
  have h7 : a % b ≤ a := Nat.mod_le _ _
  unfold operV
  repeat' (split; (first | (simp only; omega) | skip))
  all_goals (simp only; omega)

theorem numAt_le (xs : List UInt8) (p S : Nat) (h : S ≤ 4) : numAt xs p S ≤ 4294967295 := by
  have h1 := numAt_lt xs p S
  have h2 : 256 ^ S ≤ 256 ^ 4 := Nat.pow_le_pow_right (by decide) h
  omega

theorem readAtV_le (xs : List UInt8) (p S : Nat) (h : S ≤ 4) : (readAtV xs p S).1 ≤ 4294967295 := by
  unfold readAtV
  split
  · exact numAt_le xs p S h
  · simp

theorem sizeV_le (c : Int) : sizeV c ≤ 4 := by
  unfold sizeV
  split
  · omega
  · split <;> omega

theorem getD_set (l : List Nat) (i j v : Nat) : (l.set i v).getD j 0 = if i = j ∧ j < l.length then v else l.getD j 0 := by
  simp only [List.getD_eq_getElem?_getD, List.getElem?_set]
  by_cases h : i = j
  · subst h
    by_cases hl : i < l.length
    · simp [hl]
    · simp [hl]
  · simp [h]

theorem sideV_le (c : Int) (k x : Nat) (hk : k ≤ 4294967295) (hx : x ≤ 4294967295) : sideV c k x ≤ 4294967295 := by
  unfold sideV
  split <;> assumption

theorem ite_ok {α : Type} {P : α → Prop} {c : Prop} [Decidable c] {a b : α} (h1 : P a) (h2 : P b) : P (if c then a else b) := by
  split <;> assumption

theorem stepV_ok {c : Int} {k : Nat} {pk : List UInt8} {M : Mc} (h : M.ok) (hk : k ≤ 4294967295) (hp : pk.length ≤ 4294967295) : (stepV c k pk M).1.ok := by
  obtain ⟨h1, h2, h3, h4⟩ := h
  have r1 := readAtV_le pk k (sizeV c) (sizeV_le c)
  have r2 := readAtV_le pk (k + M.x) (sizeV c) (sizeV_le c)
  have q := h4 (k % 16)
  have o1 := operV_le (bits .andNot .u16 c 8) M.a (sideV c k M.x) h1 (sideV_le c k M.x hk h2)
  unfold stepV
  refine ite_ok (P := fun r : Mc × Int => r.1.ok) ⟨hk, h2, h3, h4⟩ ?_
  refine ite_ok (P := fun r : Mc × Int => r.1.ok) ⟨r1, h2, h3, h4⟩ ?_
  refine ite_ok (P := fun r : Mc × Int => r.1.ok) ⟨r2, h2, h3, h4⟩ ?_
  refine ite_ok (P := fun r : Mc × Int => r.1.ok) ⟨q, h2, h3, h4⟩ ?_
  refine ite_ok (P := fun r : Mc × Int => r.1.ok) ⟨hp, h2, h3, h4⟩ ?_
  refine ite_ok (P := fun r : Mc × Int => r.1.ok) ⟨h1, hk, h3, h4⟩ ?_
  refine ite_ok (P := fun r : Mc × Int => r.1.ok) ⟨h1, q, h3, h4⟩ ?_
  refine ite_ok (P := fun r : Mc × Int => r.1.ok) ⟨h1, hp, h3, h4⟩ ?_
  refine ite_ok (P := fun r : Mc × Int => r.1.ok) ⟨h1, by simp only; omega, h3, h4⟩ ?_
  refine ite_ok (P := fun r : Mc × Int => r.1.ok) ⟨h1, h2, by simp [h3], fun i => by rw [getD_set]; split <;> first | exact h1 | exact h4 i⟩ ?_
  refine ite_ok (P := fun r : Mc × Int => r.1.ok) ⟨h1, h2, by simp [h3], fun i => by rw [getD_set]; split <;> first | exact h2 | exact h4 i⟩ ?_
  refine ite_ok (P := fun r : Mc × Int => r.1.ok) ⟨by simp only; omega, h2, h3, h4⟩ ?_
  refine ite_ok (P := fun r : Mc × Int => r.1.ok) ⟨h1, h1, h3, h4⟩ ?_
  refine ite_ok (P := fun r : Mc × Int => r.1.ok) ⟨h2, h2, h3, h4⟩ ?_
  exact ⟨o1, h2, h3, h4⟩

theorem mc0_ok : mc0.ok := by
  refine ⟨by decide, by decide, by decide, fun i => ?_⟩
  simp only [mc0, List.getD_eq_getElem?_getD, List.getElem?_replicate]
  split <;> simp

theorem getD_at {xs : List In} {j : Nat} (hj : j < xs.length) : xs.getD j zIn = xs[j] := by
  rw [List.getD_eq_getElem?_getD, List.getElem?_eq_getElem hj]
  rfl

/-- One round of a run, by kinds. -/
theorem runF_retK {xs : List In} {pk : List UInt8} {n j : Nat} {M : Mc} (hj : j < xs.length) (h : ((xs[j].code.toNat : Int) == 6) = true) : runF xs pk (n + 1) j M = (xs[j].k.toNat, 0, [j]) := by
  rw [runF, getD_at hj, if_pos h]

theorem runF_retA {xs : List In} {pk : List UInt8} {n j : Nat} {M : Mc} (hj : j < xs.length) (h6 : ((xs[j].code.toNat : Int) == 6) = false) (h : ((xs[j].code.toNat : Int) == 22) = true) : runF xs pk (n + 1) j M = (M.a, 0, [j]) := by
  rw [runF, getD_at hj, h6, if_neg (by simp), if_pos h]

theorem runF_ja {xs : List In} {pk : List UInt8} {n j : Nat} {M : Mc} (hj : j < xs.length) (h6 : ((xs[j].code.toNat : Int) == 6) = false) (h22 : ((xs[j].code.toNat : Int) == 22) = false) (h : ((xs[j].code.toNat : Int) == 5) = true) :
    runF xs pk (n + 1) j M = hdV j (runF xs pk n (j + 1 + xs[j].k.toNat) M) := by
  rw [runF, getD_at hj, h6, h22, if_neg (by simp), if_neg (by simp), if_pos h]

theorem runF_jump {xs : List In} {pk : List UInt8} {n j : Nat} {M : Mc} (hj : j < xs.length) (h6 : ((xs[j].code.toNat : Int) == 6) = false) (h22 : ((xs[j].code.toNat : Int) == 22) = false) (h5 : ((xs[j].code.toNat : Int) == 5) = false) (h : jumpB xs[j].code.toNat = true) :
    runF xs pk (n + 1) j M = hdV j (runF xs pk n (j + 1 + goalV xs[j] M) M) := by
  rw [runF, getD_at hj, h6, h22, h5, if_neg (by simp), if_neg (by simp), if_neg (by simp), if_pos h]

theorem runF_step {xs : List In} {pk : List UInt8} {n j : Nat} {M : Mc} (hj : j < xs.length) (h6 : ((xs[j].code.toNat : Int) == 6) = false) (h22 : ((xs[j].code.toNat : Int) == 22) = false) (h5 : ((xs[j].code.toNat : Int) == 5) = false) (h : jumpB xs[j].code.toNat = false) :
    runF xs pk (n + 1) j M = if (stepV xs[j].code.toNat xs[j].k.toNat pk M).2 = 0 then hdV j (runF xs pk n (j + 1) (stepV xs[j].code.toNat xs[j].k.toNat pk M).1) else (0, (stepV xs[j].code.toNat xs[j].k.toNat pk M).2, [j]) := by
  rw [runF, getD_at hj, h6, h22, h5, if_neg (by simp), if_neg (by simp), if_neg (by simp), h, if_neg (by simp)]

end Go.Proofs.YtencoknpocipbaaGreat

namespace Go.Proofs.YtencoknpocipbaaGreat
open Go.RowKit
set_option maxRecDepth 100000

/-- A block. -/
structure Bk where
  code : List In
  en : Int
  last : In
  yes : Int
  no : Int

def inEq (x y : In) : Bool := x.code == y.code && x.jt == y.jt && x.jf == y.jf && x.k == y.k
/-- A jump or a return. -/
def leavesB (x : In) : Bool := classV x.code.toNat == 5 || classV x.code.toNat == 6
/-- An instruction that may stand in a Code. -/
def plainI (x : In) : Bool := !leavesB x && faultV x.code.toNat x.k.toNat == 0
def straightB (xs : List In) : Bool := xs.all plainI
/-- An instruction without what a Last does not look at. -/
def bareV (x : In) : In := ⟨x.code, 0, 0, if usesK x.code.toNat = true then x.k else 0⟩
def in0 : In := ⟨0, 0, 0, 0⟩
/-- Is a block's end as it must be? -/
def gendsB (b : Bk) : Bool :=
  if b.en = 1 then (classV b.last.code.toNat == 6 && inEq b.last (bareV b.last)) && (b.yes == 0 && b.no == 0)
  else if b.en = 2 then inEq b.last in0 && b.no == 0
  else if b.en = 3 then usesJ b.last.code.toNat && inEq b.last (bareV b.last)
  else false
/-- Do its goals lie behind it? -/
def aheadB (i n : Nat) (y : Int) : Bool := decide ((i : Int) < y) && decide (y < (n : Int))
def leadsB (b : Bk) (i n : Nat) : Bool :=
  if b.en = 2 then aheadB i n b.yes else if b.en = 3 then aheadB i n b.yes && aheadB i n b.no else true
/-- What is wrong with a block; room: what is left of the greatest length behind it. -/
def faultB (b : Bk) (i n : Nat) (room : Int) : Int :=
  if room < 0 then 151 else if straightB b.code = false then 152 else if gendsB b = false then 153 else if leadsB b i n = false then 154 else 0
def firstG (n : Nat) : Nat → Int → List Bk → Nat × Int
  | _, _, [] => (0, 0)
  | i, room, b :: r => if faultB b i n (room - b.code.length) = 0 then firstG n (i + 1) (room - b.code.length) r else (i, faultB b i n (room - b.code.length))
/-- P15.1. -/
def gckG (g : List Bk) : Nat × Int := if g.length = 0 then (0, 150) else if 4096 < g.length then (4096, 151) else firstG g.length 0 4096 g

/-- Instructions carried out one behind the other: the words, the fault, the steps. -/
def codeF (pk : List UInt8) : List In → Mc → Mc × Int × Nat
  | [], M => (M, 0, 0)
  | x :: r, M => if (stepV x.code.toNat x.k.toNat pk M).2 = 0 then ((codeF pk r (stepV x.code.toNat x.k.toNat pk M).1).1, (codeF pk r (stepV x.code.toNat x.k.toNat pk M).1).2.1, (codeF pk r (stepV x.code.toNat x.k.toNat pk M).1).2.2 + 1) else ((stepV x.code.toNat x.k.toNat pk M).1, (stepV x.code.toNat x.k.toNat pk M).2, 1)
def giveV (x : In) (M : Mc) : Nat := if usesK x.code.toNat = true then x.k.toNat else M.a
def addS (k : Nat) (r : Nat × Int × Nat) : Nat × Int × Nat := (r.1, r.2.1, k + r.2.2)
def bk0 : Bk := ⟨[], 1, ⟨6, 0, 0, 0⟩, 0, 0⟩
/-- A run from a block on: the value, the fault, the steps. -/
def goG (g : List Bk) (pk : List UInt8) : Nat → Nat → Mc → Nat × Int × Nat
  | 0, _, _ => (0, 0, 0)
  | n + 1, j, M =>
    if (codeF pk (g.getD j bk0).code M).2.1 ≠ 0 then (0, (codeF pk (g.getD j bk0).code M).2.1, (codeF pk (g.getD j bk0).code M).2.2)
    else if (g.getD j bk0).en = 1 then (giveV (g.getD j bk0).last (codeF pk (g.getD j bk0).code M).1, 0, (codeF pk (g.getD j bk0).code M).2.2 + 1)
    else if (g.getD j bk0).en = 2 then addS (codeF pk (g.getD j bk0).code M).2.2 (goG g pk n (g.getD j bk0).yes.toNat (codeF pk (g.getD j bk0).code M).1)
    else addS ((codeF pk (g.getD j bk0).code M).2.2 + 1) (goG g pk n (if asksV (g.getD j bk0).last (codeF pk (g.getD j bk0).code M).1 = true then (g.getD j bk0).yes else (g.getD j bk0).no).toNat (codeF pk (g.getD j bk0).code M).1)
def runGE (g : List Bk) (pk : List UInt8) : Int := if (gckG g).2 = 0 then (if 65536 < pk.length then 51 else 0) else 155
/-- P15.2. -/
def runG (g : List Bk) (pk : List UInt8) : Nat × Int × Nat := if runGE g pk = 0 then goG g pk g.length 0 mc0 else (0, 0, 0)

/-- P15.3. -/
def countG (f : Bk → Nat) (g : List Bk) : Nat := (g.map fun b => b.code.length + f b).sum
def sizeE (b : Bk) : Nat := if b.en = 2 then 0 else 1
def measE (b : Bk) : Nat := if b.en = 3 then 3 else 1
/-- The blocks that follow on one. -/
def nextL (b : Bk) : List Nat := if b.en = 1 then [] else if b.en = 2 then [b.yes.toNat] else [b.yes.toNat, b.no.toNat]
/-- A block that can be come to. -/
inductive Come (g : List Bk) : Nat → Prop
  | first : Come g 0
  | next {i j : Nat} : Come g i → (h : i < g.length) → j ∈ nextL g[i] → Come g j

/-- The facts that hold of the blocks of a graph that is taken. -/
theorem firstG_ok {n : Nat} : ∀ {i : Nat} {room : Int} {g : List Bk}, (firstG n i room g).2 = 0 → ∀ j (hj : j < g.length), straightB g[j].code = true ∧ gendsB g[j] = true ∧ leadsB g[j] (i + j) n = true
  | _, _, [], _, j, hj => absurd hj (by simp)
  | i, room, b :: r, h, j, hj => by
    rw [firstG] at h
    by_cases hz : faultB b i n (room - b.code.length) = 0
    · rw [if_pos hz] at h
      cases j with
      | zero =>
        simp only [faultB] at hz
        show straightB b.code = true ∧ gendsB b = true ∧ leadsB b (i + 0) n = true
        rw [Nat.add_zero]
        by_cases h1 : room - b.code.length < 0
        · rw [if_pos h1] at hz
          cases hz
        · rw [if_neg h1] at hz
          cases h2 : straightB b.code with
          | false => rw [if_pos h2] at hz; cases hz
          | true =>
            rw [h2] at hz
            cases h3 : gendsB b with
            | false => rw [if_pos h3] at hz; simp at hz
            | true =>
              rw [h3] at hz
              cases h4 : leadsB b i n with
              | false => rw [if_pos h4] at hz; simp at hz
              | true => exact ⟨rfl, rfl, rfl⟩
      | succ j =>
        have := firstG_ok h j (by simpa using hj)
        rw [show i + (j + 1) = i + 1 + j by omega]
        exact this
    · rw [if_neg hz] at h
      exact absurd h hz

def codeLen (g : List Bk) : Nat := (g.map fun b => b.code.length).sum
theorem codeLen_cons (b : Bk) (g : List Bk) : codeLen (b :: g) = b.code.length + codeLen g := by simp [codeLen]

theorem firstG_room {n : Nat} : ∀ {i : Nat} {room : Int} {g : List Bk}, (firstG n i room g).2 = 0 → 0 ≤ room → ((codeLen g : Nat) : Int) ≤ room
  | _, _, [], _, h0 => h0
  | i, room, b :: r, h, h0 => by
    rw [firstG] at h
    by_cases hz : faultB b i n (room - b.code.length) = 0
    · rw [if_pos hz] at h
      have hr : 0 ≤ room - b.code.length := by
        by_cases h1 : room - b.code.length < 0
        · rw [faultB, if_pos h1] at hz
          cases hz
        · omega
      have := firstG_room h hr
      rw [codeLen_cons]
      omega
    · rw [if_neg hz] at h
      exact absurd h hz

structure TakenG (g : List Bk) : Prop where
  pos : 0 < g.length
  few : g.length ≤ 4096
  ok : ∀ j (hj : j < g.length), straightB g[j].code = true ∧ gendsB g[j] = true ∧ leadsB g[j] j g.length = true
  room : codeLen g ≤ 4096

theorem taken_g {g : List Bk} (h : (gckG g).2 = 0) : TakenG g := by
  rw [gckG] at h
  by_cases h0 : g.length = 0
  · rw [if_pos h0] at h
    cases h
  · rw [if_neg h0] at h
    by_cases h4 : 4096 < g.length
    · rw [if_pos h4] at h
      cases h
    · rw [if_neg h4] at h
      refine ⟨by omega, by omega, fun j hj => ?_, ?_⟩
      · have := firstG_ok h j hj
        rwa [Nat.zero_add] at this
      · have := firstG_room h (by omega)
        omega

theorem ends_cases {b : Bk} (h : gendsB b = true) : b.en = 1 ∨ b.en = 2 ∨ b.en = 3 := by
  by_cases h1 : b.en = 1
  · exact .inl h1
  · by_cases h2 : b.en = 2
    · exact .inr (.inl h2)
    · by_cases h3 : b.en = 3
      · exact .inr (.inr h3)
      · rw [gendsB, if_neg h1, if_neg h2, if_neg h3] at h
        cases h

theorem leads_next {b : Bk} {i n : Nat} (he : gendsB b = true) (h : leadsB b i n = true) : ∀ j ∈ nextL b, i < j ∧ j < n := by
  intro j hj
  rcases ends_cases he with h1 | h2 | h3
  · rw [nextL, if_pos h1] at hj
    cases hj
  · have n1 : ¬ b.en = 1 := by omega
    rw [nextL, if_neg n1, if_pos h2] at hj
    rw [leadsB, if_pos h2] at h
    simp only [List.mem_singleton] at hj
    simp only [aheadB, Bool.and_eq_true, decide_eq_true_eq] at h
    omega
  · have n1 : ¬ b.en = 1 := by omega
    have n2 : ¬ b.en = 2 := by omega
    rw [nextL, if_neg n1, if_neg n2] at hj
    rw [leadsB, if_neg n2, if_pos h3] at h
    simp only [List.mem_cons, List.not_mem_nil, or_false] at hj
    simp only [aheadB, Bool.and_eq_true, decide_eq_true_eq] at h
    omega

theorem come_lt {g : List Bk} (T : TakenG g) {j : Nat} (h : Come g j) : j < g.length := by
  induction h with
  | first => exact T.pos
  | next _ hi hj _ => exact (leads_next (T.ok _ hi).2.1 (T.ok _ hi).2.2 _ hj).2

/-- What makes a graph one that is taken. -/
theorem firstG_zero {n : Nat} : ∀ {i : Nat} {room : Int} {g : List Bk}, (∀ j (hj : j < g.length), straightB g[j].code = true ∧ gendsB g[j] = true ∧ leadsB g[j] (i + j) n = true) → ((codeLen g : Nat) : Int) ≤ room → firstG n i room g = (0, 0)
  | _, _, [], _, _ => rfl
  | i, room, b :: r, h, hr => by
    rw [codeLen_cons] at hr
    obtain ⟨h1, h2, h3⟩ := h 0 (by simp)
    simp only [List.getElem_cons_zero, Nat.add_zero] at h1 h2 h3
    have hz : faultB b i n (room - b.code.length) = 0 := by
      rw [faultB, if_neg (by omega), if_neg (by rw [h1]; simp), if_neg (by rw [h2]; simp), if_neg (by rw [h3]; simp)]
    rw [firstG, if_pos hz]
    refine firstG_zero (fun j hj => ?_) (by omega)
    have := h (j + 1) (by simpa using hj)
    rw [show i + (j + 1) = i + 1 + j by omega] at this
    exact this
theorem check_of {g : List Bk} (T : TakenG g) : gckG g = (0, 0) := by
  have h0 := T.pos
  have h1 := T.few
  rw [gckG, if_neg (by omega), if_neg (by omega)]
  refine firstG_zero (fun j hj => ?_) (by have := T.room; omega)
  rw [Nat.zero_add]
  exact T.ok j hj

end Go.Proofs.YtencoknpocipbaaGreat

namespace Go.Proofs.YtencoknpocipbaaGreat
open Go.RowKit
set_option maxRecDepth 100000

theorem firstBad_all {n i : Nat} {xs : List In} (h : ∀ j (hj : j < xs.length), badV n (i + j) xs[j] = 0) : firstBad n i xs = none := by
  induction xs generalizing i with
  | nil => rfl
  | cons x xs ih =>
    have h0 := h 0 (by simp)
    simp only [Nat.add_zero, List.getElem_cons_zero] at h0
    rw [firstBad, if_pos h0]
    refine ih (fun j hj => ?_)
    have := h (j + 1) (by simpa using hj)
    simpa [Nat.add_assoc, Nat.add_comm, Nat.add_left_comm] using this

theorem taken_of {xs : List In} (h1 : 0 < xs.length) (h2 : xs.length ≤ 4096) (h3 : ∀ j (hj : j < xs.length), badV xs.length j xs[j] = 0) (h4 : lastB xs = true) : checkV xs = (0, 0) := by
  rw [checkV, if_neg (by omega), if_neg (by omega), firstBad_all (by intro j hj; simpa using h3 j hj), endV, if_pos h4]

theorem bad_of {n i : Nat} {x : In} (h1 : faultV x.code.toNat x.k.toNat = 0) (h2 : jumpBad x.code.toNat x.jt.toNat x.jf.toNat x.k.toNat (n - 1 - i) = false) : badV n i x = 0 := by
  rw [badV, if_pos h1, if_neg (by rw [h2]; simp)]

theorem bad_shift (n m i : Nat) (x : In) : badV (n + m) (i + m) x = badV n i x := by
  unfold badV
  rw [show n + m - 1 - (i + m) = n - 1 - i by omega]

theorem jumpBad_mono {c : Int} {t f k r s : Nat} (h : jumpBad c t f k r = false) (hrs : r ≤ s) : jumpBad c t f k s = false := by
  unfold jumpBad at *
  simp only [Bool.or_eq_false_iff, Bool.and_eq_false_iff, decide_eq_false_iff_not, Nat.not_le] at *
  refine ⟨?_, ?_⟩
  · rcases h.1 with q | q
    · exact .inl q
    · exact .inr (by omega)
  · rcases h.2 with q | q
    · exact .inl q
    · exact .inr ⟨by omega, by omega⟩

theorem bad_mono {n m i : Nat} {x : In} (h : badV n i x = 0) (hnm : n ≤ m) : badV m i x = 0 := by
  obtain ⟨h1, h2⟩ := bad_zero h
  exact bad_of h1 (jumpBad_mono h2 (by omega))

theorem lastB_app (xs ys : List In) (h : ys ≠ []) : lastB (xs ++ ys) = lastB ys := by
  unfold lastB
  rw [List.getLast?_append]
  cases hy : ys.getLast? with
  | none => exact absurd (List.getLast?_eq_none_iff.1 hy) h
  | some y => rfl

/-- P4.3: one that is taken behind one that is taken. -/
theorem taken_app {xs ys : List In} (hx : (checkV xs).2 = 0) (hy : (checkV ys).2 = 0) (hl : xs.length + ys.length ≤ 4096) : checkV (xs ++ ys) = (0, 0) := by
  obtain ⟨a1, a2, a3, a4⟩ := taken hx
  obtain ⟨b1, b2, b3, b4⟩ := taken hy
  refine taken_of (by simp; omega) (by simpa using hl) (fun j hj => ?_) (by rw [lastB_app _ _ (by intro e; rw [e] at b1; simp at b1)]; exact b4)
  rw [List.length_append]
  by_cases h : j < xs.length
  · rw [List.getElem_append_left h]
    exact bad_mono (a3 j h) (by omega)
  · rw [List.getElem_append_right (by omega)]
    have hj2 : j - xs.length < ys.length := by simp at hj; omega
    have := b3 (j - xs.length) hj2
    rw [← bad_shift ys.length xs.length (j - xs.length)] at this
    rw [show xs.length + ys.length = ys.length + xs.length by omega]
    rw [show j - xs.length + xs.length = j by omega] at this
    exact this

/-- P4.3: with instructions ahead that go straight on. -/
theorem taken_ahead {xs ps : List In} (hx : (checkV xs).2 = 0) (hl : ps.length + xs.length ≤ 4096) (ha : ∀ x ∈ ps, faultV x.code.toNat x.k.toNat = 0 ∧ ((x.code.toNat : Int) == 5) = false ∧ jumpB x.code.toNat = false) : checkV (ps ++ xs) = (0, 0) := by
  obtain ⟨a1, a2, a3, a4⟩ := taken hx
  refine taken_of (by simp; omega) (by simpa using hl) (fun j hj => ?_) (by rw [lastB_app _ _ (by intro e; rw [e] at a1; simp at a1)]; exact a4)
  rw [List.length_append]
  by_cases h : j < ps.length
  · rw [List.getElem_append_left h]
    obtain ⟨f1, f2, f3⟩ := ha ps[j] (List.getElem_mem h)
    exact bad_of f1 (by rw [jumpBad, f2, f3]; rfl)
  · rw [List.getElem_append_right (by omega)]
    have hj2 : j - ps.length < xs.length := by simp at hj; omega
    have := a3 (j - ps.length) hj2
    rw [← bad_shift xs.length ps.length (j - ps.length)] at this
    rw [show ps.length + xs.length = xs.length + ps.length by omega]
    rw [show j - ps.length + ps.length = j by omega] at this
    exact this

end Go.Proofs.YtencoknpocipbaaGreat
