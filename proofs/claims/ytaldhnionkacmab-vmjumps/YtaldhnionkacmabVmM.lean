/-
  The machine: its words, a step, a run. No Go text here.
-/
import Derived.Test.YtaldhnionkacmabReachR
import Derived.Test.YtaldhnionkacmabVmB
namespace Go.Proofs.Ytaldhnionkacmab
open Go.RowKit
set_option maxRecDepth 100000

/-- A run's words. -/
structure Mc where
  a : Nat
  x : Nat
  m : List Nat

def u32v (v : Nat) : Value := .int .u32 (v : Int)
def Mc.cells (M : Mc) : List Value := .int .u32 (M.a : Int) :: .int .u32 (M.x : Int) :: M.m.map u32v
def Mc.ok (M : Mc) : Prop := M.a ≤ 4294967295 ∧ M.x ≤ 4294967295 ∧ M.m.length = 16 ∧ ∀ i, M.m.getD i 0 ≤ 4294967295
def mc0 : Mc := ⟨0, 0, List.replicate 16 0⟩

/-- An instruction that is no jump and no return: the words behind it, the fault. -/
def stepV (c : Int) (k : Nat) (pk : List UInt8) (M : Mc) : Mc × Int :=
  if (c == 0) = true then (⟨k, M.x, M.m⟩, 0)
  else if (c == 32 || c == 40 || c == 48) = true then (⟨(readAtV pk k (sizeV c)).1, M.x, M.m⟩, (readAtV pk k (sizeV c)).2)
  else if (c == 64 || c == 72 || c == 80) = true then (⟨(readAtV pk (k + M.x) (sizeV c)).1, M.x, M.m⟩, (readAtV pk (k + M.x) (sizeV c)).2)
  else if (c == 96) = true then (⟨M.m.getD (k % 16) 0, M.x, M.m⟩, 0)
  else if (c == 128) = true then (⟨pk.length, M.x, M.m⟩, 0)
  else if (c == 1) = true then (⟨M.a, k, M.m⟩, 0)
  else if (c == 97) = true then (⟨M.a, M.m.getD (k % 16) 0, M.m⟩, 0)
  else if (c == 129) = true then (⟨M.a, pk.length, M.m⟩, 0)
  else if (c == 177) = true then (⟨M.a, 4 * ((readAtV pk k 1).1 % 16), M.m⟩, (readAtV pk k 1).2)
  else if (c == 2) = true then (⟨M.a, M.x, M.m.set (k % 16) M.a⟩, 0)
  else if (c == 3) = true then (⟨M.a, M.x, M.m.set (k % 16) M.x⟩, 0)
  else if (c == 132) = true then (⟨(4294967296 - M.a) % 4294967296, M.x, M.m⟩, 0)
  else if (c == 7) = true then (⟨M.a, M.a, M.m⟩, 0)
  else if (c == 135) = true then (⟨M.x, M.x, M.m⟩, 0)
  else (⟨(operV (bits .andNot .u16 c 8) M.a (sideV c k M.x)).1, M.x, M.m⟩, (operV (bits .andNot .u16 c 8) M.a (sideV c k M.x)).2)

/-- A jump's question, of an instruction. -/
def asksV (x : In) (M : Mc) : Bool := holdsV (bits .andNot .u16 x.code.toNat 8) M.a (sideV x.code.toNat x.k.toNat M.x)
def goalV (x : In) (M : Mc) : Nat := if asksV x M = true then x.jt.toNat else x.jf.toNat
def hdV (j : Nat) (r : Nat × Int × List Nat) : Nat × Int × List Nat := (r.1, r.2.1, j :: r.2.2)
def zIn : In := ⟨6, 0, 0, 0⟩

/-- A run from a place on: the value, the fault, the places. -/
def runF (xs : List In) (pk : List UInt8) : Nat → Nat → Mc → Nat × Int × List Nat
  | 0, _, _ => (0, 0, [])
  | n + 1, j, M =>
    if (((xs.getD j zIn).code.toNat : Int) == 6) = true then ((xs.getD j zIn).k.toNat, 0, [j])
    else if (((xs.getD j zIn).code.toNat : Int) == 22) = true then (M.a, 0, [j])
    else if (((xs.getD j zIn).code.toNat : Int) == 5) = true then hdV j (runF xs pk n (j + 1 + (xs.getD j zIn).k.toNat) M)
    else if jumpB (xs.getD j zIn).code.toNat = true then hdV j (runF xs pk n (j + 1 + goalV (xs.getD j zIn) M) M)
    else if (stepV (xs.getD j zIn).code.toNat (xs.getD j zIn).k.toNat pk M).2 = 0 then hdV j (runF xs pk n (j + 1) (stepV (xs.getD j zIn).code.toNat (xs.getD j zIn).k.toNat pk M).1)
    else (0, (stepV (xs.getD j zIn).code.toNat (xs.getD j zIn).k.toNat pk M).2, [j])

/-- The error of a run; what it comes to. -/
def runE (xs : List In) (pk : List UInt8) : Int := if (checkV xs).2 = 0 then (if 65536 < pk.length then 51 else 0) else 50
def runV (xs : List In) (pk : List UInt8) : Nat × Int × List Nat := if runE xs pk = 0 then runF xs pk xs.length 0 mc0 else (0, 0, [])

theorem operV_le (d : Int) (a b : Nat) (ha : a ≤ 4294967295) (hb : b ≤ 4294967295) : (operV d a b).1 ≤ 4294967295 := by
  have h1 := shiftV_le a b true ha
  have h2 := shiftV_le a b false ha
  have h3 : a ||| b < 2 ^ 32 := Nat.or_lt_two_pow (by omega) (by omega)
  have h4 : a &&& b < 2 ^ 32 := Nat.and_lt_two_pow _ (by omega)
  have h5 : a ^^^ b < 2 ^ 32 := Nat.xor_lt_two_pow (by omega) (by omega)
  have h6 : a / b ≤ a := Nat.div_le_self _ _
  have h7 : a % b ≤ a := Nat.mod_le _ _
  unfold operV
  repeat' (split; (first | (simp only; omega) | skip))
  all_goals (simp only; omega)

theorem numAt_le (xs : List UInt8) (p S : Nat) (h : S ≤ 4) : numAt xs p S ≤ 4294967295 := by
  have h1 := numAt_lt xs p S
  have h2 : 256 ^ S ≤ 256 ^ 4 := Nat.pow_le_pow_right (by decide) h
  omega

theorem readAtV_le (xs : List UInt8) (p S : Nat) (h : S ≤ 4) : (readAtV xs p S).1 ≤ 4294967295 := by
  unfold readAtV
  split
  · exact numAt_le xs p S h
  · simp

theorem sizeV_le (c : Int) : sizeV c ≤ 4 := by
  unfold sizeV
  split
  · omega
  · split <;> omega

theorem getD_set (l : List Nat) (i j v : Nat) : (l.set i v).getD j 0 = if i = j ∧ j < l.length then v else l.getD j 0 := by
  simp only [List.getD_eq_getElem?_getD, List.getElem?_set]
  by_cases h : i = j
  · subst h
    by_cases hl : i < l.length
    · simp [hl]
    · simp [hl]
  · simp [h]

theorem sideV_le (c : Int) (k x : Nat) (hk : k ≤ 4294967295) (hx : x ≤ 4294967295) : sideV c k x ≤ 4294967295 := by
  unfold sideV
  split <;> assumption

theorem ite_ok {α : Type} {P : α → Prop} {c : Prop} [Decidable c] {a b : α} (h1 : P a) (h2 : P b) : P (if c then a else b) := by
  split <;> assumption

theorem stepV_ok {c : Int} {k : Nat} {pk : List UInt8} {M : Mc} (h : M.ok) (hk : k ≤ 4294967295) (hp : pk.length ≤ 4294967295) : (stepV c k pk M).1.ok := by
  obtain ⟨h1, h2, h3, h4⟩ := h
  have r1 := readAtV_le pk k (sizeV c) (sizeV_le c)
  have r2 := readAtV_le pk (k + M.x) (sizeV c) (sizeV_le c)
  have q := h4 (k % 16)
  have o1 := operV_le (bits .andNot .u16 c 8) M.a (sideV c k M.x) h1 (sideV_le c k M.x hk h2)
  unfold stepV
  refine ite_ok (P := fun r : Mc × Int => r.1.ok) ⟨hk, h2, h3, h4⟩ ?_
  refine ite_ok (P := fun r : Mc × Int => r.1.ok) ⟨r1, h2, h3, h4⟩ ?_
  refine ite_ok (P := fun r : Mc × Int => r.1.ok) ⟨r2, h2, h3, h4⟩ ?_
  refine ite_ok (P := fun r : Mc × Int => r.1.ok) ⟨q, h2, h3, h4⟩ ?_
  refine ite_ok (P := fun r : Mc × Int => r.1.ok) ⟨hp, h2, h3, h4⟩ ?_
  refine ite_ok (P := fun r : Mc × Int => r.1.ok) ⟨h1, hk, h3, h4⟩ ?_
  refine ite_ok (P := fun r : Mc × Int => r.1.ok) ⟨h1, q, h3, h4⟩ ?_
  refine ite_ok (P := fun r : Mc × Int => r.1.ok) ⟨h1, hp, h3, h4⟩ ?_
  refine ite_ok (P := fun r : Mc × Int => r.1.ok) ⟨h1, by simp only; omega, h3, h4⟩ ?_
  refine ite_ok (P := fun r : Mc × Int => r.1.ok) ⟨h1, h2, by simp [h3], fun i => by rw [getD_set]; split <;> first | exact h1 | exact h4 i⟩ ?_
  refine ite_ok (P := fun r : Mc × Int => r.1.ok) ⟨h1, h2, by simp [h3], fun i => by rw [getD_set]; split <;> first | exact h2 | exact h4 i⟩ ?_
  refine ite_ok (P := fun r : Mc × Int => r.1.ok) ⟨by simp only; omega, h2, h3, h4⟩ ?_
  refine ite_ok (P := fun r : Mc × Int => r.1.ok) ⟨h1, h1, h3, h4⟩ ?_
  refine ite_ok (P := fun r : Mc × Int => r.1.ok) ⟨h2, h2, h3, h4⟩ ?_
  exact ⟨o1, h2, h3, h4⟩

theorem mc0_ok : mc0.ok := by
  refine ⟨by decide, by decide, by decide, fun i => ?_⟩
  simp only [mc0, List.getD_eq_getElem?_getD, List.getElem?_replicate]
  split <;> simp

theorem getD_at {xs : List In} {j : Nat} (hj : j < xs.length) : xs.getD j zIn = xs[j] := by
  rw [List.getD_eq_getElem?_getD, List.getElem?_eq_getElem hj]
  rfl

/-- One round of a run, by kinds. -/
theorem runF_retK {xs : List In} {pk : List UInt8} {n j : Nat} {M : Mc} (hj : j < xs.length) (h : ((xs[j].code.toNat : Int) == 6) = true) : runF xs pk (n + 1) j M = (xs[j].k.toNat, 0, [j]) := by
  rw [runF, getD_at hj, if_pos h]

theorem runF_retA {xs : List In} {pk : List UInt8} {n j : Nat} {M : Mc} (hj : j < xs.length) (h6 : ((xs[j].code.toNat : Int) == 6) = false) (h : ((xs[j].code.toNat : Int) == 22) = true) : runF xs pk (n + 1) j M = (M.a, 0, [j]) := by
  rw [runF, getD_at hj, h6, if_neg (by simp), if_pos h]

theorem runF_ja {xs : List In} {pk : List UInt8} {n j : Nat} {M : Mc} (hj : j < xs.length) (h6 : ((xs[j].code.toNat : Int) == 6) = false) (h22 : ((xs[j].code.toNat : Int) == 22) = false) (h : ((xs[j].code.toNat : Int) == 5) = true) :
    runF xs pk (n + 1) j M = hdV j (runF xs pk n (j + 1 + xs[j].k.toNat) M) := by
  rw [runF, getD_at hj, h6, h22, if_neg (by simp), if_neg (by simp), if_pos h]

theorem runF_jump {xs : List In} {pk : List UInt8} {n j : Nat} {M : Mc} (hj : j < xs.length) (h6 : ((xs[j].code.toNat : Int) == 6) = false) (h22 : ((xs[j].code.toNat : Int) == 22) = false) (h5 : ((xs[j].code.toNat : Int) == 5) = false) (h : jumpB xs[j].code.toNat = true) :
    runF xs pk (n + 1) j M = hdV j (runF xs pk n (j + 1 + goalV xs[j] M) M) := by
  rw [runF, getD_at hj, h6, h22, h5, if_neg (by simp), if_neg (by simp), if_neg (by simp), if_pos h]

theorem runF_step {xs : List In} {pk : List UInt8} {n j : Nat} {M : Mc} (hj : j < xs.length) (h6 : ((xs[j].code.toNat : Int) == 6) = false) (h22 : ((xs[j].code.toNat : Int) == 22) = false) (h5 : ((xs[j].code.toNat : Int) == 5) = false) (h : jumpB xs[j].code.toNat = false) :
    runF xs pk (n + 1) j M = if (stepV xs[j].code.toNat xs[j].k.toNat pk M).2 = 0 then hdV j (runF xs pk n (j + 1) (stepV xs[j].code.toNat xs[j].k.toNat pk M).1) else (0, (stepV xs[j].code.toNat xs[j].k.toNat pk M).2, [j]) := by
  rw [runF, getD_at hj, h6, h22, h5, if_neg (by simp), if_neg (by simp), if_neg (by simp), h, if_neg (by simp)]

end Go.Proofs.Ytaldhnionkacmab
