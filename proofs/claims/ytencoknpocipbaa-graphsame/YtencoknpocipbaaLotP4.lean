/-
  The document's own Reach. The document's own Get. The document's own numbers of the machine: Shift, Operate, size, read. The document's own question of a jump: Holds. The machine: its words, a step, a run. No Go text here.
-/
import Derived.Test.YtencoknpocipbaaLotP3
import Derived.Test.YtencoknpocipbaaLotP2
namespace Go.Proofs.Ytencoknpocipbaa
open Go.RowKit
set_option maxRecDepth 100000

/-- What one instruction adds. -/
def stepB (x : In) (i : Nat) (bs : List Bool) : List Bool :=
  if bs.getD i false = false ∨ retB x.code.toNat = true then bs
  else if ((x.code.toNat : Int) == 5) = true then bs.set (i + 1 + x.k.toNat) true
  else if jumpB x.code.toNat = true then (bs.set (i + 1 + x.jt.toNat) true).set (i + 1 + x.jf.toNat) true
  else bs.set (i + 1) true
def reachTo (xs : List In) : Nat → List Bool
  | 0 => (List.replicate xs.length false).set 0 true
  | i + 1 => match xs[i]? with
    | some x => stepB x i (reachTo xs i)
    | none => reachTo xs i
/-- P4.2. -/
def reachV (xs : List In) : List Bool := if (checkV xs).2 = 0 then reachTo xs xs.length else []

theorem stepB_len (x : In) (i : Nat) (bs : List Bool) : (stepB x i bs).length = bs.length := by
  unfold stepB
  split
  · rfl
  · split
    · simp
    · split <;> simp

theorem reachTo_len (xs : List In) (i : Nat) : (reachTo xs i).length = xs.length := by
  induction i with
  | zero => simp [reachTo]
  | succ i ih =>
    rw [reachTo]
    cases xs[i]? with
    | none => exact ih
    | some x => rw [stepB_len, ih]

theorem reachTo_succ {xs : List In} {i : Nat} (h : i < xs.length) : reachTo xs (i + 1) = stepB xs[i] i (reachTo xs i) := by
  rw [reachTo, List.getElem?_eq_getElem h]

theorem firstBad_none {n i : Nat} {xs : List In} (h : firstBad n i xs = none) : ∀ j (hj : j < xs.length), badV n (i + j) xs[j] = 0 := by
  induction xs generalizing i with
  | nil => intro j hj; simp at hj
  | cons x xs ih =>
    rw [firstBad] at h
    split at h
    · rename_i h0
      intro j hj
      cases j with
      | zero => simpa using h0
      | succ j =>
        have := ih h j (by simpa using hj)
        simpa [Nat.add_assoc, Nat.add_comm, Nat.add_left_comm] using this
    · cases h

theorem firstBad_some {n i : Nat} {xs : List In} {r : Nat × Int} (h : firstBad n i xs = some r) : r.2 ≠ 0 := by
  induction xs generalizing i with
  | nil => simp [firstBad] at h
  | cons x xs ih =>
    rw [firstBad] at h
    split at h
    · exact ih h
    · rename_i h0
      simp only [Option.some.injEq] at h
      subst h
      exact h0

/-- A program that is taken. -/
theorem taken {xs : List In} (h : (checkV xs).2 = 0) : 0 < xs.length ∧ xs.length ≤ 4096 ∧ (∀ j (hj : j < xs.length), badV xs.length j xs[j] = 0) ∧ lastB xs = true := by
  unfold checkV at h
  split at h
  · simp at h
  · split at h
    · simp at h
    · cases hf : firstBad xs.length 0 xs with
      | some r => rw [hf] at h; exact absurd h (firstBad_some hf)
      | none =>
        rw [hf, endV] at h
        refine ⟨by omega, by omega, fun j hj => ?_, ?_⟩
        · have := firstBad_none hf j hj
          simpa using this
        · split at h
          · assumption
          · simp at h

theorem bad_zero {n i : Nat} {x : In} (h : badV n i x = 0) : faultV x.code.toNat x.k.toNat = 0 ∧ jumpBad x.code.toNat x.jt.toNat x.jf.toNat x.k.toNat (n - 1 - i) = false := by
  unfold badV at h
  split at h
  · rename_i h0
    split at h
    · simp at h
    · rename_i h1
      exact ⟨h0, by simpa using h1⟩
  · exact absurd h (by assumption)

theorem jumpBad_out {c : Int} {t f k room : Nat} (h : jumpBad c t f k room = false) : ((c == 5) = true → k < room) ∧ (jumpB c = true → t < room ∧ f < room) := by
  unfold jumpBad at h
  simp only [Bool.or_eq_false_iff, Bool.and_eq_false_iff, decide_eq_false_iff_not, Nat.not_le] at h
  refine ⟨fun h5 => ?_, fun hj => ?_⟩
  · rcases h.1 with q | q
    · rw [h5] at q; cases q
    · exact q
  · rcases h.2 with q | q
    · rw [hj] at q; cases q
    · exact q

theorem last_ret {xs : List In} (h : lastB xs = true) {j : Nat} (hj : j < xs.length) (hr : retB xs[j].code.toNat = false) : j + 1 < xs.length := by
  apply Classical.byContradiction
  intro hn
  obtain rfl : j = xs.length - 1 := by omega
  rw [lastB, List.getLast?_eq_getElem?, List.getElem?_eq_getElem hj] at h
  simp only at h
  rw [hr] at h
  cases h

end Go.Proofs.Ytencoknpocipbaa

namespace Go.Proofs.Ytencoknpocipbaa
open Go.RowKit
set_option maxRecDepth 100000

end Go.Proofs.Ytencoknpocipbaa

namespace Go.Proofs.Ytencoknpocipbaa
open Go.RowKit
set_option maxRecDepth 100000

/-- A number shifted. -/
def shiftV (a b : Nat) (left : Bool) : Nat := if 31 < b then 0 else if left = true then a * 2 ^ b % 4294967296 else a / 2 ^ b

theorem shiftV_le (a b : Nat) (left : Bool) (ha : a ≤ 4294967295) : shiftV a b left ≤ 4294967295 := by
  unfold shiftV
  split
  · omega
  · split
    · omega
    · exact Nat.le_trans (Nat.div_le_self _ _) ha

/-- Two numbers by an operation, its bit 8 struck: the number, the fault. -/
def operV (d : Int) (a b : Nat) : Nat × Int :=
  if d == 4 then ((a + b) % 4294967296, 0) else if d == 20 then ((a + 4294967296 - b) % 4294967296, 0) else if d == 36 then (a * b % 4294967296, 0)
  else if d == 68 then (a ||| b, 0) else if d == 84 then (a &&& b, 0) else if d == 164 then (a ^^^ b, 0) else if d == 100 then (shiftV a b true, 0) else if d == 116 then (shiftV a b false, 0)
  else if b == 0 then (0, 2) else if d == 52 then (a / b, 0) else (a % b, 0)

theorem ret_oper {x y : Int} {u v : Int} (h : x = y) (h' : u = v) : Ending.returned (.tuple #[.int .u32 x, .int .i64 u]) = .returned (.tuple #[.int .u32 y, .int .i64 v]) := by rw [h, h']

/-- How many bytes a load reads. -/
def sizeV (c : Int) : Nat := if (c == 32 || c == 64) = true then 4 else if (c == 40 || c == 72) = true then 2 else 1

/-- A load from a place on: the number, the fault. -/
def readAtV (xs : List UInt8) (p S : Nat) : Nat × Int := if okB xs.length p S = true then (numAt xs p S, 0) else (0, 1)

end Go.Proofs.Ytencoknpocipbaa

namespace Go.Proofs.Ytencoknpocipbaa
open Go.RowKit
set_option maxRecDepth 100000

/-- The other number: X's, or K. -/
def sideV (c : Int) (k x : Nat) : Nat := if byxB c = true then x else k
/-- Is a jump's question true? d: its code, its bit 8 struck. -/
def holdsV (d : Int) (a b : Nat) : Bool := if d == 21 then a == b else if d == 37 then decide (b < a) else if d == 53 then decide (b ≤ a) else (a &&& b) != 0

theorem cast_beq (a b : Nat) : ((a : Int) == (b : Int)) = (a == b) := by
  by_cases h : a = b
  · subst h; simp
  · have h1 : (a == b) = false := by rw [beq_eq_false_iff_ne]; exact h
    rw [h1, beq_eq_false_iff_ne]
    omega
theorem cast_bne (a : Nat) : ((a : Int) != 0) = (a != 0) := by
  have := cast_beq a 0
  simp only [bne]
  rw [← this]
  rfl

end Go.Proofs.Ytencoknpocipbaa

namespace Go.Proofs.Ytencoknpocipbaa
open Go.RowKit
set_option maxRecDepth 100000

/-- A run's words. -/
structure Mc where
  a : Nat
  x : Nat
  m : List Nat

def u32v (v : Nat) : Value := .int .u32 (v : Int)
def Mc.cells (M : Mc) : List Value := .int .u32 (M.a : Int) :: .int .u32 (M.x : Int) :: M.m.map u32v
def Mc.ok (M : Mc) : Prop := M.a ≤ 4294967295 ∧ M.x ≤ 4294967295 ∧ M.m.length = 16 ∧ ∀ i, M.m.getD i 0 ≤ 4294967295
def mc0 : Mc := ⟨0, 0, List.replicate 16 0⟩

/-- An instruction that is no jump and no return: the words behind it, the fault. -/
def stepV (c : Int) (k : Nat) (pk : List UInt8) (M : Mc) : Mc × Int :=
  if (c == 0) = true then (⟨k, M.x, M.m⟩, 0)
  else if (c == 32 || c == 40 || c == 48) = true then (⟨(readAtV pk k (sizeV c)).1, M.x, M.m⟩, (readAtV pk k (sizeV c)).2)
  else if (c == 64 || c == 72 || c == 80) = true then (⟨(readAtV pk (k + M.x) (sizeV c)).1, M.x, M.m⟩, (readAtV pk (k + M.x) (sizeV c)).2)
  else if (c == 96) = true then (⟨M.m.getD (k % 16) 0, M.x, M.m⟩, 0)
  else if (c == 128) = true then (⟨pk.length, M.x, M.m⟩, 0)
  else if (c == 1) = true then (⟨M.a, k, M.m⟩, 0)
  else if (c == 97) = true then (⟨M.a, M.m.getD (k % 16) 0, M.m⟩, 0)
  else if (c == 129) = true then (⟨M.a, pk.length, M.m⟩, 0)
  else if (c == 177) = true then (⟨M.a, 4 * ((readAtV pk k 1).1 % 16), M.m⟩, (readAtV pk k 1).2)
  else if (c == 2) = true then (⟨M.a, M.x, M.m.set (k % 16) M.a⟩, 0)
  else if (c == 3) = true then (⟨M.a, M.x, M.m.set (k % 16) M.x⟩, 0)
  else if (c == 132) = true then (⟨(4294967296 - M.a) % 4294967296, M.x, M.m⟩, 0)
  else if (c == 7) = true then (⟨M.a, M.a, M.m⟩, 0)
  else if (c == 135) = true then (⟨M.x, M.x, M.m⟩, 0)
  else (⟨(operV (bits .andNot .u16 c 8) M.a (sideV c k M.x)).1, M.x, M.m⟩, (operV (bits .andNot .u16 c 8) M.a (sideV c k M.x)).2)

/-- A jump's question, of an instruction. -/
def asksV (x : In) (M : Mc) : Bool := holdsV (bits .andNot .u16 x.code.toNat 8) M.a (sideV x.code.toNat x.k.toNat M.x)
def goalV (x : In) (M : Mc) : Nat := if asksV x M = true then x.jt.toNat else x.jf.toNat
def hdV (j : Nat) (r : Nat × Int × List Nat) : Nat × Int × List Nat := (r.1, r.2.1, j :: r.2.2)
def zIn : In := ⟨6, 0, 0, 0⟩

/-- A run from a place on: the value, the fault, the places. -/
def runF (xs : List In) (pk : List UInt8) : Nat → Nat → Mc → Nat × Int × List Nat
  | 0, _, _ => (0, 0, [])
  | n + 1, j, M =>
    if (((xs.getD j zIn).code.toNat : Int) == 6) = true then ((xs.getD j zIn).k.toNat, 0, [j])
    else if (((xs.getD j zIn).code.toNat : Int) == 22) = true then (M.a, 0, [j])
    else if (((xs.getD j zIn).code.toNat : Int) == 5) = true then hdV j (runF xs pk n (j + 1 + (xs.getD j zIn).k.toNat) M)
    else if jumpB (xs.getD j zIn).code.toNat = true then hdV j (runF xs pk n (j + 1 + goalV (xs.getD j zIn) M) M)
    else if (stepV (xs.getD j zIn).code.toNat (xs.getD j zIn).k.toNat pk M).2 = 0 then hdV j (runF xs pk n (j + 1) (stepV (xs.getD j zIn).code.toNat (xs.getD j zIn).k.toNat pk M).1)
    else (0, (stepV (xs.getD j zIn).code.toNat (xs.getD j zIn).k.toNat pk M).2, [j])

/-- The error of a run; what it comes to. -/
def runE (xs : List In) (pk : List UInt8) : Int := if (checkV xs).2 = 0 then (if 65536 < pk.length then 51 else 0) else 50
def runV (xs : List In) (pk : List UInt8) : Nat × Int × List Nat := if runE xs pk = 0 then runF xs pk xs.length 0 mc0 else (0, 0, [])

theorem operV_le (d : Int) (a b : Nat) (ha : a ≤ 4294967295) (hb : b ≤ 4294967295) : (operV d a b).1 ≤ 4294967295 := by
  have h1 := shiftV_le a b true ha
  have h2 := shiftV_le a b false ha
  have h3 : a ||| b < 2 ^ 32 := Nat.or_lt_two_pow (by omega) (by omega)
  have h4 : a &&& b < 2 ^ 32 := Nat.and_lt_two_pow _ (by omega)
  have h5 : a ^^^ b < 2 ^ 32 := Nat.xor_lt_two_pow (by omega) (by omega)
  have h6 : a / b ≤ a := Nat.div_le_self _ _
  have h7 : a % b ≤ a := Nat.mod_le _ _
  unfold operV
  repeat' (split; (first | (simp only; omega) | skip))
  all_goals (simp only; omega)

theorem numAt_le (xs : List UInt8) (p S : Nat) (h : S ≤ 4) : numAt xs p S ≤ 4294967295 := by
  have h1 := numAt_lt xs p S
  have h2 : 256 ^ S ≤ 256 ^ 4 := Nat.pow_le_pow_right (by decide) h
  omega

theorem readAtV_le (xs : List UInt8) (p S : Nat) (h : S ≤ 4) : (readAtV xs p S).1 ≤ 4294967295 := by
  unfold readAtV
  split
  · exact numAt_le xs p S h
  · simp

theorem sizeV_le (c : Int) : sizeV c ≤ 4 := by
  unfold sizeV
  split
  · omega
  · split <;> omega

theorem getD_set (l : List Nat) (i j v : Nat) : (l.set i v).getD j 0 = if i = j ∧ j < l.length then v else l.getD j 0 := by
  simp only [List.getD_eq_getElem?_getD, List.getElem?_set]
  by_cases h : i = j
  · subst h
    by_cases hl : i < l.length
    · simp [hl]
    · simp [hl]
  · simp [h]

theorem sideV_le (c : Int) (k x : Nat) (hk : k ≤ 4294967295) (hx : x ≤ 4294967295) : sideV c k x ≤ 4294967295 := by
  unfold sideV
  split <;> assumption

theorem ite_ok {α : Type} {P : α → Prop} {c : Prop} [Decidable c] {a b : α} (h1 : P a) (h2 : P b) : P (if c then a else b) := by
  split <;> assumption

theorem stepV_ok {c : Int} {k : Nat} {pk : List UInt8} {M : Mc} (h : M.ok) (hk : k ≤ 4294967295) (hp : pk.length ≤ 4294967295) : (stepV c k pk M).1.ok := by
  obtain ⟨h1, h2, h3, h4⟩ := h
  have r1 := readAtV_le pk k (sizeV c) (sizeV_le c)
  have r2 := readAtV_le pk (k + M.x) (sizeV c) (sizeV_le c)
  have q := h4 (k % 16)
  have o1 := operV_le (bits .andNot .u16 c 8) M.a (sideV c k M.x) h1 (sideV_le c k M.x hk h2)
  unfold stepV
  refine ite_ok (P := fun r : Mc × Int => r.1.ok) ⟨hk, h2, h3, h4⟩ ?_
  refine ite_ok (P := fun r : Mc × Int => r.1.ok) ⟨r1, h2, h3, h4⟩ ?_
  refine ite_ok (P := fun r : Mc × Int => r.1.ok) ⟨r2, h2, h3, h4⟩ ?_
  refine ite_ok (P := fun r : Mc × Int => r.1.ok) ⟨q, h2, h3, h4⟩ ?_
  refine ite_ok (P := fun r : Mc × Int => r.1.ok) ⟨hp, h2, h3, h4⟩ ?_
  refine ite_ok (P := fun r : Mc × Int => r.1.ok) ⟨h1, hk, h3, h4⟩ ?_
  refine ite_ok (P := fun r : Mc × Int => r.1.ok) ⟨h1, q, h3, h4⟩ ?_
  refine ite_ok (P := fun r : Mc × Int => r.1.ok) ⟨h1, hp, h3, h4⟩ ?_
  refine ite_ok (P := fun r : Mc × Int => r.1.ok) ⟨h1, by simp only; omega, h3, h4⟩ ?_
  refine ite_ok (P := fun r : Mc × Int => r.1.ok) ⟨h1, h2, by simp [h3], fun i => by rw [getD_set]; split <;> first | exact h1 | exact h4 i⟩ ?_
  refine ite_ok (P := fun r : Mc × Int => r.1.ok) ⟨h1, h2, by simp [h3], fun i => by rw [getD_set]; split <;> first | exact h2 | exact h4 i⟩ ?_
  refine ite_ok (P := fun r : Mc × Int => r.1.ok) ⟨by simp only; omega, h2, h3, h4⟩ ?_
  refine ite_ok (P := fun r : Mc × Int => r.1.ok) ⟨h1, h1, h3, h4⟩ ?_
  refine ite_ok (P := fun r : Mc × Int => r.1.ok) ⟨h2, h2, h3, h4⟩ ?_
  exact ⟨o1, h2, h3, h4⟩

theorem mc0_ok : mc0.ok := by
  refine ⟨by decide, by decide, by decide, fun i => ?_⟩
  simp only [mc0, List.getD_eq_getElem?_getD, List.getElem?_replicate]
  split <;> simp

theorem getD_at {xs : List In} {j : Nat} (hj : j < xs.length) : xs.getD j zIn = xs[j] := by
  rw [List.getD_eq_getElem?_getD, List.getElem?_eq_getElem hj]
  rfl

/-- One round of a run, by kinds. -/
theorem runF_retK {xs : List In} {pk : List UInt8} {n j : Nat} {M : Mc} (hj : j < xs.length) (h : ((xs[j].code.toNat : Int) == 6) = true) : runF xs pk (n + 1) j M = (xs[j].k.toNat, 0, [j]) := by
  rw [runF, getD_at hj, if_pos h]

theorem runF_retA {xs : List In} {pk : List UInt8} {n j : Nat} {M : Mc} (hj : j < xs.length) (h6 : ((xs[j].code.toNat : Int) == 6) = false) (h : ((xs[j].code.toNat : Int) == 22) = true) : runF xs pk (n + 1) j M = (M.a, 0, [j]) := by
  rw [runF, getD_at hj, h6, if_neg (by simp), if_pos h]

theorem runF_ja {xs : List In} {pk : List UInt8} {n j : Nat} {M : Mc} (hj : j < xs.length) (h6 : ((xs[j].code.toNat : Int) == 6) = false) (h22 : ((xs[j].code.toNat : Int) == 22) = false) (h : ((xs[j].code.toNat : Int) == 5) = true) :
    runF xs pk (n + 1) j M = hdV j (runF xs pk n (j + 1 + xs[j].k.toNat) M) := by
  rw [runF, getD_at hj, h6, h22, if_neg (by simp), if_neg (by simp), if_pos h]

theorem runF_jump {xs : List In} {pk : List UInt8} {n j : Nat} {M : Mc} (hj : j < xs.length) (h6 : ((xs[j].code.toNat : Int) == 6) = false) (h22 : ((xs[j].code.toNat : Int) == 22) = false) (h5 : ((xs[j].code.toNat : Int) == 5) = false) (h : jumpB xs[j].code.toNat = true) :
    runF xs pk (n + 1) j M = hdV j (runF xs pk n (j + 1 + goalV xs[j] M) M) := by
  rw [runF, getD_at hj, h6, h22, h5, if_neg (by simp), if_neg (by simp), if_neg (by simp), if_pos h]

theorem runF_step {xs : List In} {pk : List UInt8} {n j : Nat} {M : Mc} (hj : j < xs.length) (h6 : ((xs[j].code.toNat : Int) == 6) = false) (h22 : ((xs[j].code.toNat : Int) == 22) = false) (h5 : ((xs[j].code.toNat : Int) == 5) = false) (h : jumpB xs[j].code.toNat = false) :
    runF xs pk (n + 1) j M = if (stepV xs[j].code.toNat xs[j].k.toNat pk M).2 = 0 then hdV j (runF xs pk n (j + 1) (stepV xs[j].code.toNat xs[j].k.toNat pk M).1) else (0, (stepV xs[j].code.toNat xs[j].k.toNat pk M).2, [j]) := by
  rw [runF, getD_at hj, h6, h22, h5, if_neg (by simp), if_neg (by simp), if_neg (by simp), h, if_neg (by simp)]

end Go.Proofs.Ytencoknpocipbaa
