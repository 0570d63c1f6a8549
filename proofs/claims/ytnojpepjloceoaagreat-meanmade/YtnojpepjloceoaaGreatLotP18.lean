/-
  The document's own answers on codes: Jump, Operation, Load, ByX, Known, Class, Uses. The document's own numbers of the machine: Shift, Operate, size, read. Chapter 12 in words: what a list of nodes is. No Go text here. Chapter 14 in words: what a filter says of a frame. No Go text here.
-/
import Derived.Test.YtnojpepjloceoaaGreatLotP1
import Derived.Test.YtnojpepjloceoaaGreatLotP3
import Derived.Test.YtnojpepjloceoaaGreatLotP17
import Derived.Test.YtnojpepjloceoaaGreatFrameV
namespace Go.Proofs.YtnojpepjloceoaaGreat
open Go.RowKit
set_option maxRecDepth 100000

def jumpB (c : Int) : Bool := c == 21 || c == 29 || c == 37 || c == 45 || c == 53 || c == 61 || c == 69 || c == 77
def operB (c : Int) : Bool := c == 4 || c == 12 || c == 20 || c == 28 || c == 36 || c == 44 || c == 52 || c == 60 || c == 68 || c == 76 || c == 84 || c == 92 || c == 100 || c == 108 || c == 116 || c == 124 || c == 148 || c == 156 || c == 164 || c == 172
def loadB (c : Int) : Bool := c == 32 || c == 40 || c == 48 || c == 64 || c == 72 || c == 80 || c == 177
def plainB (c : Int) : Bool := (c == 0 || c == 32 || c == 40 || c == 48 || c == 64 || c == 72 || c == 80 || c == 96 || c == 128) || (c == 1 || c == 97 || c == 129 || c == 177 || c == 2 || c == 3 || c == 132 || c == 6 || c == 22 || c == 7 || c == 135 || c == 5)
def knownB (c : Int) : Bool := plainB c || (jumpB c || operB c)

/-- Its bit 8. -/
def bit8 (c : Int) : Bool := bits .and .u16 c 8 != 0
def byxB (c : Int) : Bool := (jumpB c || operB c) && bit8 c

/-- What Class says. -/
def classV (c : Int) : Int := if knownB c = true then c % 8 else -1

theorem and7 (c : Int) (h0 : 0 ≤ c) (h1 : c ≤ 65535) : bits .and .u16 c 7 = c % 8 := by
  obtain ⟨n, rfl⟩ := Int.eq_ofNat_of_zero_le h0
  have h := u16_and_nat n 7 (by omega) (by omega)
  rw [show n &&& 7 = n % 8 from Nat.and_two_pow_sub_one_eq_mod n 3] at h
  rw [show (7 : Int) = ((7 : Nat) : Int) by rfl, h]
  omega

/-- What Uses says, answer by answer. -/
def noKB (c : Int) : Bool := c == 128 || c == 129 || c == 132 || c == 22 || c == 7 || c == 135
def usesK (c : Int) : Bool := knownB c && (!byxB c && !noKB c)
def usesJ (c : Int) : Bool := knownB c && jumpB c
def usesF (c : Int) : Bool := knownB c && (loadB c || c == 60 || c == 156)

theorem cret_three {a b c x y z : Bool} (h1 : a = x) (h2 : b = y) (h3 : c = z) : Ending.returned (.tuple #[.bool a, .bool b, .bool c]) = .returned (.tuple #[.bool x, .bool y, .bool z]) := by rw [h1, h2, h3]

end Go.Proofs.YtnojpepjloceoaaGreat

namespace Go.Proofs.YtnojpepjloceoaaGreat
open Go.RowKit
set_option maxRecDepth 100000

/-- A number shifted. -/
def shiftV (a b : Nat) (left : Bool) : Nat := if 31 < b then 0 else if left = true then a * 2 ^ b % 4294967296 else a / 2 ^ b

theorem shiftV_le (a b : Nat) (left : Bool) (ha : a ≤ 4294967295) : shiftV a b left ≤ 4294967295 := by
  unfold shiftV
  split
  · omega
  · split
    · omega
    · exact Nat.le_trans (Nat.div_le_self _ _) ha

/-- Two numbers by an operation, its bit 8 struck: the number, the fault. -/
def operV (d : Int) (a b : Nat) : Nat × Int :=
  if d == 4 then ((a + b) % 4294967296, 0) else if d == 20 then ((a + 4294967296 - b) % 4294967296, 0) else if d == 36 then (a * b % 4294967296, 0)
  else if d == 68 then (a ||| b, 0) else if d == 84 then (a &&& b, 0) else if d == 164 then (a ^^^ b, 0) else if d == 100 then (shiftV a b true, 0) else if d == 116 then (shiftV a b false, 0)
  else if b == 0 then (0, 2) else if d == 52 then (a / b, 0) else (a % b, 0)

theorem ret_oper {x y : Int} {u v : Int} (h : x = y) (h' : u = v) : Ending.returned (.tuple #[.int .u32 x, .int .i64 u]) = .returned (.tuple #[.int .u32 y, .int .i64 v]) := by rw [h, h']

/-- How many bytes a load reads. -/
def sizeV (c : Int) : Nat := if (c == 32 || c == 64) = true then 4 else if (c == 40 || c == 72) = true then 2 else 1

/-- A load from a place on: the number, the fault. -/
def readAtV (xs : List UInt8) (p S : Nat) : Nat × Int := if okB xs.length p S = true then (numAt xs p S, 0) else (0, 1)

end Go.Proofs.YtnojpepjloceoaaGreat

namespace Go.Proofs.YtnojpepjloceoaaGreat
open Go.RowKit
set_option maxRecDepth 100000

/-- How many parts a node of a kind has. -/
def arG (k : Int) : Option Nat :=
  if k = 3 ∨ k = 5 ∨ k = 9 then some 1 else if k = 4 ∨ k = 6 ∨ k = 7 ∨ k = 8 then some 2 else if k = 1 ∨ k = 2 ∨ (10 ≤ k ∧ k ≤ 16) then some 0 else none
def inG (x lo hi : Int) : Bool := decide (lo ≤ x) && decide (x ≤ hi)
def zeros (n : Nat) : List UInt8 := List.replicate n 0
/-- The node with nothing in it but what its kind uses. -/
def useG (x : Ng) : Ng :=
  if x.kind = 1 ∨ x.kind = 12 then ⟨x.kind, 0, x.n, 0, 0, 0, 0, zeros 16, 0⟩
  else if x.kind = 3 then ⟨x.kind, 0, 0, 0, x.size, x.of, 0, zeros 16, 0⟩
  else if x.kind = 4 ∨ x.kind = 6 then ⟨x.kind, x.op, 0, 0, 0, 0, 0, zeros 16, 0⟩
  else if x.kind = 10 then ⟨x.kind, 0, 0, 0, 0, 0, x.side, zeros 16, 0⟩
  else if x.kind = 11 then ⟨x.kind, 0, 0, 0, 0, x.of, 0, zeros 16, 0⟩
  else if x.kind = 13 then ⟨x.kind, 0, x.n, 0, 0, x.of, 0, zeros 16, 0⟩
  else if x.kind = 14 then ⟨x.kind, 0, 0, 0, 0, x.of, x.side, x.addr, 0⟩
  else if x.kind = 15 then ⟨x.kind, 0, 0, 0, 0, x.of, x.side, x.addr, x.bits⟩
  else if x.kind = 16 then ⟨x.kind, 0, x.n, x.m, 0, x.of, x.side, zeros 16, 0⟩
  else ⟨x.kind, 0, 0, 0, 0, 0, 0, zeros 16, 0⟩
def hostG (x : Ng) : Bool := inG x.of 2 3 && inG x.side 0 2 && (x.of == 3 || decide ((adgs x).drop 4 = zeros 12))
/-- What a node uses is such as may be. -/
def mayG (x : Ng) : Bool :=
  if x.kind = 3 then inG x.of 1 12
  else if x.kind = 4 then inG x.op 1 10
  else if x.kind = 6 then inG x.op 1 6
  else if x.kind = 10 then inG x.side 1 2
  else if x.kind = 11 then inG x.of 2 13
  else if x.kind = 13 then inG x.of 2 3
  else if x.kind = 14 ∨ x.kind = 15 then hostG x
  else if x.kind = 16 then (x.of == 0 || inG x.of 4 5) && inG x.side 0 2
  else true
def sameG (x y : Ng) : Bool := decide (x.kind = y.kind) && decide (x.op = y.op) && decide (x.n = y.n) && decide (x.m = y.m) && decide (x.size = y.size) && decide (x.of = y.of) && decide (x.side = y.side) && decide (adgs x = adgs y) && decide (x.bits = y.bits)
/-- The fields that a kind does not use are zero, what it uses is one that it may have. -/
def formG (x : Ng) : Bool := sameG x (useG x) && mayG x
def weighG (x : Ng) : Nat :=
  if x.kind = 1 ∨ x.kind = 7 ∨ x.kind = 8 ∨ x.kind = 9 then 1 else if x.kind = 2 ∨ x.kind = 5 then 2 else if x.kind = 3 then 24 else if x.kind = 4 ∨ x.kind = 10 then 6
  else if x.kind = 6 ∨ x.kind = 12 then 8 else if x.kind = 11 then 12 else if x.kind = 13 then 16 else if x.kind = 16 then 40
  else if x.kind = 14 then (if x.of = 3 then 72 else 24) else if x.kind = 15 then (if x.of = 3 then 80 else 32) else 0
def weightG (t : List Ng) : Nat := (t.map weighG).sum

/-- A tree that stands: a truth or a number; its value, if it is a constant. -/
structure Pt where
  truth : Bool
  fixed : Bool
  val : Nat
def pt0 : Pt := ⟨false, false, 0⟩
def truthG (k : Int) : Bool := decide (6 ≤ k)
def wantsG (k : Int) : Bool := decide (k = 7 ∨ k = 8 ∨ k = 9)
def kindE (k : Int) (ps : List Pt) : Int := if ps.all (fun p => p.truth == wantsG k) = true then 0 else if wantsG k = true then 121 else 122
def divG (op : Int) : Bool := decide (op = 4 ∨ op = 5)
def zeroE (x : Ng) (ps : List Pt) : Bool := decide (x.kind = 4) && divG x.op && (ps.getD 1 pt0).fixed && decide ((ps.getD 1 pt0).val = 0)
def addrG (x : Ng) : List UInt8 := if x.of = 2 then (adgs x).take 4 else adgs x
def rangeE (x : Ng) : Int :=
  if x.kind = 3 then (if x.size = 1 ∨ x.size = 2 ∨ x.size = 4 then 0 else 124)
  else if x.kind = 12 then (if x.n ≤ 65535 then 0 else 124)
  else if x.kind = 13 then (if x.n ≤ 255 then 0 else 124)
  else if x.kind = 16 then (if x.n ≤ x.m ∧ x.m ≤ 65535 then 0 else 124)
  else if x.kind = 15 then (if ¬ (0 ≤ x.bits ∧ x.bits ≤ 8 * ((addrG x).length : Int)) then 124 else if maskV x.bits.toNat (addrG x) = addrG x then 0 else 125)
  else 0
/-- The first of points 1 to 5 that a node has that finds its parts. -/
def faultG (x : Ng) (ps : List Pt) : Int :=
  if formG x = false then 120 else if kindE x.kind ps ≠ 0 then kindE x.kind ps else if zeroE x ps = true then 123 else rangeE x
def arithG (op : Int) (a b : Nat) : Nat :=
  if op = 1 then (a + b) % 4294967296 else if op = 2 then (a + 4294967296 - b) % 4294967296 else if op = 3 then a * b % 4294967296
  else if op = 4 then a / b else if op = 5 then a % b else if op = 6 then a &&& b else if op = 7 then a ||| b else if op = 8 then a ^^^ b
  else if op = 9 then shiftV a b true else shiftV a b false
def minusG (a : Nat) : Nat := (4294967296 - a) % 4294967296
/-- What a node over constants comes to, if it is a constant too. -/
def valG (x : Ng) (ps : List Pt) : Option Nat :=
  if x.kind = 1 then some x.n else if x.kind = 4 then some (arithG x.op (ps.getD 0 pt0).val (ps.getD 1 pt0).val) else if x.kind = 5 then some (minusG (ps.getD 0 pt0).val) else none
/-- What a node without a fault makes of its parts. -/
def joinG (x : Ng) (ps : List Pt) : Pt :=
  if ps.all (·.fixed) = true then
    match valG x ps with
    | some v => ⟨truthG x.kind, true, v⟩
    | none => ⟨truthG x.kind, false, 0⟩
  else ⟨truthG x.kind, false, 0⟩
/-- One node. -/
def stepG (x : Ng) (st : List Pt) : Except Int (List Pt) :=
  match arG x.kind with
  | none => .error 120
  | some a => if st.length < a then .error 120 else
    if faultG x (st.drop (st.length - a)) ≠ 0 then .error (faultG x (st.drop (st.length - a))) else .ok (st.take (st.length - a) ++ [joinG x (st.drop (st.length - a))])
/-- Node by node, from a place on. -/
def walkG (st : List Pt) (k : Nat) : List Ng → Except (Nat × Int) (List Pt)
  | [] => .ok st
  | x :: r => match stepG x st with
    | .error e => .error (k, e)
    | .ok st' => walkG st' (k + 1) r
/-- The first node with which the weights are too great. -/
def heavyG (w k : Nat) : List Ng → Option Nat
  | [] => none
  | x :: r => if 3000 < w + weighG x then some k else heavyG (w + weighG x) (k + 1) r
def checkG (t : List Ng) : Nat × Int :=
  match walkG [] 0 t with
  | .error x => x
  | .ok st => if st.length ≠ 1 then (t.length, 120) else if (st.getD 0 pt0).truth = false then (t.length - 1, 121) else
    match heavyG 0 0 t with
    | some k => (k, 126)
    | none => (0, 0)
def constG (t : List Ng) : Option Nat :=
  match walkG [] 0 t with
  | .error _ => none
  | .ok st => if st.length ≠ 1 then none else if (st.getD 0 pt0).fixed = true then some (st.getD 0 pt0).val else none
/-- Where each of the trees begins that are left. -/
def startsG (ss : List Nat) (k : Nat) : List Ng → Option (List Nat)
  | [] => some ss
  | x :: r => match arG x.kind with
    | none => none
    | some a => if ss.length < a then none else if a = 0 then startsG (ss ++ [k]) (k + 1) r else startsG (ss.take (ss.length - a + 1)) (k + 1) r

theorem zeros_len (n : Nat) : (zeros n).length = n := by simp [zeros]
theorem arG_cases {k : Int} {a : Nat} (h : arG k = some a) : (a = 1 ∧ (k = 3 ∨ k = 5 ∨ k = 9)) ∨ (a = 2 ∧ (k = 4 ∨ k = 6 ∨ k = 7 ∨ k = 8)) ∨ (a = 0 ∧ (k = 1 ∨ k = 2 ∨ k = 10 ∨ k = 11 ∨ k = 12 ∨ k = 13 ∨ k = 14 ∨ k = 15 ∨ k = 16)) := by
  unfold arG at h
  split at h
  · cases h; exact .inl ⟨rfl, by assumption⟩
  · split at h
    · cases h; exact .inr (.inl ⟨rfl, by assumption⟩)
    · split at h
      · cases h
        rename_i h3
        exact .inr (.inr ⟨rfl, by omega⟩)
      · cases h
theorem arG_le {k : Int} {a : Nat} (h : arG k = some a) : a ≤ 2 := by
  rcases arG_cases h with ⟨rfl, -⟩ | ⟨rfl, -⟩ | ⟨rfl, -⟩ <;> omega
theorem arG_none {k : Int} : arG k = none ↔ ¬ (1 ≤ k ∧ k ≤ 16) := by
  constructor
  · intro h hk
    unfold arG at h
    split at h
    · cases h
    · split at h
      · cases h
      · split at h
        · cases h
        · omega
  · intro h
    unfold arG
    rw [if_neg (by omega), if_neg (by omega), if_neg (by omega)]
theorem arG_some {k : Int} (h : 1 ≤ k ∧ k ≤ 16) : ∃ a, arG k = some a := by
  cases e : arG k with
  | none => exact absurd h (arG_none.1 e)
  | some a => exact ⟨a, rfl⟩
theorem arG_in {k : Int} {a : Nat} (h : arG k = some a) : 1 ≤ k ∧ k ≤ 16 := by
  rcases arG_cases h with ⟨-, h⟩ | ⟨-, h⟩ | ⟨-, h⟩ <;> omega

theorem walkG_app : ∀ (l m : List Ng) (st : List Pt) (k : Nat), walkG st k (l ++ m) = match walkG st k l with | .error x => .error x | .ok s => walkG s (k + l.length) m
  | [], m, st, k => rfl
  | x :: l, m, st, k => by
    simp only [List.cons_append, walkG]
    cases stepG x st with
    | error e => rfl
    | ok s =>
      simp only
      rw [walkG_app l m s (k + 1), List.length_cons, show k + 1 + l.length = k + (l.length + 1) by omega]
theorem walkG_at : ∀ (l : List Ng) (st : List Pt) (k : Nat) {p : Nat} {e : Int}, walkG st k l = .error (p, e) → k ≤ p ∧ p < k + l.length
  | [], st, k, p, e, h => by cases h
  | x :: l, st, k, p, e, h => by
    simp only [walkG] at h
    rw [List.length_cons]
    cases hs : stepG x st with
    | error e' => rw [hs] at h; cases h; omega
    | ok s =>
      rw [hs] at h
      have := walkG_at l s (k + 1) h
      omega
theorem faultG_kinds (x : Ng) (ps : List Pt) : faultG x ps = 0 ∨ faultG x ps = 120 ∨ faultG x ps = 121 ∨ faultG x ps = 122 ∨ faultG x ps = 123 ∨ faultG x ps = 124 ∨ faultG x ps = 125 := by
  have hk : kindE x.kind ps = 0 ∨ kindE x.kind ps = 121 ∨ kindE x.kind ps = 122 := by
    unfold kindE
    split
    · exact .inl rfl
    · split
      · exact .inr (.inl rfl)
      · exact .inr (.inr rfl)
  have hr : rangeE x = 0 ∨ rangeE x = 124 ∨ rangeE x = 125 := by
    unfold rangeE
    repeat' split
    all_goals first | exact .inl rfl | exact .inr (.inl rfl) | exact .inr (.inr rfl)
  unfold faultG
  split
  · exact .inr (.inl rfl)
  · split
    · omega
    · split
      · omega
      · omega
theorem stepG_er {x : Ng} {st : List Pt} {e : Int} (h : stepG x st = .error e) : 120 ≤ e ∧ e ≤ 125 := by
  unfold stepG at h
  split at h
  · cases h; omega
  · split at h
    · cases h; omega
    · split at h
      · cases h
        rename_i a _ _ hn
        have := faultG_kinds x (st.drop (st.length - a))
        omega
      · cases h
theorem walkG_er : ∀ (l : List Ng) (st : List Pt) (k : Nat) {p : Nat} {e : Int}, walkG st k l = .error (p, e) → 120 ≤ e ∧ e ≤ 125
  | [], st, k, p, e, h => by cases h
  | x :: l, st, k, p, e, h => by
    simp only [walkG] at h
    cases hs : stepG x st with
    | error e' => rw [hs] at h; cases h; exact stepG_er hs
    | ok s => rw [hs] at h; exact walkG_er l s (k + 1) h
theorem stepG_len {x : Ng} {st s : List Pt} (h : stepG x st = .ok s) : s.length ≤ st.length + 1 ∧ 0 < s.length := by
  unfold stepG at h
  split at h
  · cases h
  · split at h
    · cases h
    · split at h
      · cases h
      · cases h
        rw [List.length_append, List.length_take, List.length_singleton]
        omega
theorem walkG_len : ∀ (l : List Ng) (st s : List Pt) (k : Nat), walkG st k l = .ok s → s.length ≤ st.length + l.length
  | [], st, s, k, h => by cases h; simp
  | x :: l, st, s, k, h => by
    simp only [walkG] at h
    rw [List.length_cons]
    cases hs : stepG x st with
    | error e' => rw [hs] at h; cases h
    | ok s1 =>
      rw [hs] at h
      have := walkG_len l s1 s (k + 1) h
      have := stepG_len hs
      omega

end Go.Proofs.YtnojpepjloceoaaGreat

namespace Go.Proofs.YtnojpepjloceoaaGreat
open Go.RowKit
set_option maxRecDepth 100000

/-- A frame that is well formed, on its way. -/
structure Sg where
  v : Vw
  way : Int
  b : List UInt8

/-- D 7. -/
def wordM (v : Vw) (of : Int) : Bool :=
  if of = 2 then decide (v.net = 4)
  else if of = 3 then decide (v.net = 6)
  else if of = 4 then decide (v.net ≠ 0) && decide (v.next = 6)
  else if of = 5 then decide (v.net ≠ 0) && decide (v.next = 17)
  else if of = 6 then decide (v.net = 4) && decide (v.next = 1)
  else if of = 7 then decide (v.net = 6) && decide (v.next = 58)
  else if of = 8 then decide (v.proto = 49185)
  else if of = 9 then decide (v.proto = 49187)
  else if of = 10 then decide (v.proto = 49699)
  else if of = 11 then decide (v.proto = 32801)
  else if of = 12 then decide (v.proto = 32855)
  else if of = 13 then v.multi else false
/-- D 6. -/
def baseM (v : Vw) (of : Int) : Nat × Bool :=
  if of = 1 then (0, true)
  else if of = 4 ∨ of = 5 ∨ of = 6 ∨ of = 7 then (v.load, wordM v of && decide (v.load ≠ 0))
  else (v.pos, wordM v of)

/-- What a tree comes to. -/
structure Pm where
  how : Int
  val : Nat
def pm0 : Pm := ⟨0, 0⟩
def jdg (x : Bool) : Int := if x = true then 1 else 0
def jointM (a b : Pm) : Int := if a.how = 0 ∨ b.how = 0 then 0 else if a.how = 2 then 2 else b.how
/-- D 4. -/
def arithM (op : Int) (a b : Pm) : Pm :=
  if jointM a b ≠ 1 then ⟨jointM a b, 0⟩ else if divG op = true ∧ b.val = 0 then ⟨2, 0⟩ else ⟨1, arithG op a.val b.val⟩
def minusM (a : Pm) : Pm := if a.how ≠ 1 then a else ⟨1, minusG a.val⟩
/-- What the bytes from a place on say. -/
def numM (b : List UInt8) (p : Nat) (size : Int) : Option Nat := if okB b.length (p : Int) size = true then some (numAt b p size.toNat) else none
/-- D 5. -/
def loadM (s : Sg) (x : Ng) (i : Pm) : Pm :=
  if (baseM s.v x.of).2 = false then ⟨0, 0⟩ else if i.how ≠ 1 then i else
    match numM s.b ((baseM s.v x.of).1 + i.val) x.size with
    | none => ⟨2, 0⟩
    | some n => ⟨1, n⟩
def cmpM (op : Int) (a b : Nat) : Bool :=
  if op = 1 then decide (a = b) else if op = 2 then decide (a ≠ b) else if op = 3 then decide (a < b) else if op = 4 then decide (a ≤ b) else if op = 5 then decide (b < a) else decide (b ≤ a)
/-- D 3. -/
def relM (op : Int) (a b : Pm) : Int := if jointM a b ≠ 1 then jointM a b else jdg (cmpM op a.val b.val)
/-- D 2. -/
def andM (a b : Int) : Int := if a ≠ 1 then a else b
def orM (a b : Int) : Int := if a ≠ 0 then a else b
def notM (a : Int) : Int := if a = 1 then 0 else if a = 0 then 1 else a
def sidedM (side src dst : Int) : Int := if side = 1 then src else if side = 2 then dst else orM src dst
/-- D 10. -/
def alikeM (b : List UInt8) (p : Nat) (ad : List UInt8) (bits : Int) : Bool := decide (maskV bits.toNat ((b.drop p).take ad.length) = maskV bits.toNat ad)
def srcM (of : Int) : Nat := if of = 2 then 12 else 8
def dstM (of : Int) : Nat := if of = 2 then 16 else 24
def longM (of : Int) : Nat := if of = 2 then 4 else 16
def withinM (s : Sg) (x : Ng) (bits : Int) : Int :=
  if (baseM s.v x.of).2 = false then 0 else
    sidedM x.side (jdg (alikeM s.b ((baseM s.v x.of).1 + srcM x.of) (addrG x) bits)) (jdg (alikeM s.b ((baseM s.v x.of).1 + dstM x.of) (addrG x) bits))
/-- D 11. -/
def carrierM (v : Vw) (of : Int) : Nat × Bool := if of ≠ 0 then baseM v of else if (baseM v 4).2 = true then baseM v 4 else baseM v 5
def portM (s : Sg) (x : Ng) (p : Nat) : Int :=
  match numM s.b p 2 with
  | none => 2
  | some k => jdg (decide (x.n ≤ k ∧ k ≤ x.m))
def portsM (s : Sg) (x : Ng) : Int :=
  if (carrierM s.v x.of).2 = false then 0 else sidedM x.side (portM s x (carrierM s.v x.of).1) (portM s x ((carrierM s.v x.of).1 + 2))
def wayM (side : Int) : Int := if side = 1 then 0 else 1
/-- A node without parts that is no number. -/
def truthM (s : Sg) (x : Ng) : Int :=
  if x.kind = 10 then jdg (decide (s.way = wayM x.side))
  else if x.kind = 11 then jdg (wordM s.v x.of)
  else if x.kind = 12 then jdg (decide (s.v.proto = x.n))
  else if x.kind = 13 then jdg (wordM s.v x.of && decide (s.v.next = x.n))
  else if x.kind = 14 then withinM s x (8 * (longM x.of : Int))
  else if x.kind = 15 then withinM s x x.bits
  else portsM s x
/-- A node over its parts. -/
def overM (s : Sg) (x : Ng) (ps : List Pm) : Pm :=
  if x.kind = 1 then ⟨1, x.n⟩
  else if x.kind = 2 then ⟨1, s.b.length⟩
  else if x.kind = 3 then loadM s x (ps.getD 0 pm0)
  else if x.kind = 4 then arithM x.op (ps.getD 0 pm0) (ps.getD 1 pm0)
  else if x.kind = 5 then minusM (ps.getD 0 pm0)
  else if x.kind = 6 then ⟨relM x.op (ps.getD 0 pm0) (ps.getD 1 pm0), 0⟩
  else if x.kind = 7 then ⟨andM (ps.getD 0 pm0).how (ps.getD 1 pm0).how, 0⟩
  else if x.kind = 8 then ⟨orM (ps.getD 0 pm0).how (ps.getD 1 pm0).how, 0⟩
  else if x.kind = 9 then ⟨notM (ps.getD 0 pm0).how, 0⟩
  else ⟨truthM s x, 0⟩
def stpM (s : Sg) (st : List Pm) (x : Ng) : List Pm :=
  st.take (st.length - (arG x.kind).getD 0) ++ [overM s x (st.drop (st.length - (arG x.kind).getD 0))]
def evalM (s : Sg) (st : List Pm) (t : List Ng) : List Pm := t.foldl (stpM s) st
def meanM (t : List Ng) (l : Lk) (way : Int) (b : List UInt8) : Pm :=
  match lookX l b with
  | .error _ => ⟨2, 0⟩
  | .ok v => (evalM ⟨v, way, b⟩ [] t).getD 0 pm0
def refuseM (t : List Ng) (l : Lk) (way : Int) : Int := if (checkG t).2 ≠ 0 then 140 else if checkF l ≠ 0 then 141 else if way ≠ 0 ∧ way ≠ 1 then 142 else 0
/-- A list compared with a number. -/
def zeroN : Ng := ⟨1, 0, 0, 0, 0, 0, 0, zeros 16, 0⟩
def eqN : Ng := ⟨6, 1, 0, 0, 0, 0, 0, zeros 16, 0⟩
def cmpdM (t : List Ng) : List Ng := t ++ [zeroN, eqN]
def judgeM (t : List Ng) (l : Lk) (way : Int) (b : List UInt8) : Int := if refuseM t l way ≠ 0 then 0 else (meanM t l way b).how

/-! What stands of a tree that is one. -/
structure PmOk (p : Pt) (q : Pm) : Prop where
  how : q.how = 0 ∨ q.how = 1 ∨ q.how = 2
  val : q.val ≤ 4294967295
  none : q.how ≠ 1 → q.val = 0
  truth : p.truth = true → q.val = 0
  fixed : p.fixed = true → q.how = 1 ∧ q.val = p.val

/-- Two stacks beside one another. -/
inductive StM : List Pt → List Pm → Prop
  | nil : StM [] []
  | cons {p : Pt} {q : Pm} {ps : List Pt} {qs : List Pm} (h : PmOk p q) (t : StM ps qs) : StM (p :: ps) (q :: qs)

theorem StM.len {ps : List Pt} {qs : List Pm} (h : StM ps qs) : ps.length = qs.length := by
  induction h with
  | nil => rfl
  | cons _ _ ih => simp [ih]
theorem StM.get {ps : List Pt} {qs : List Pm} (h : StM ps qs) : ∀ (i : Nat), i < qs.length → PmOk (ps.getD i pt0) (qs.getD i pm0) := by
  induction h with
  | nil => intro i hi; simp at hi
  | cons h _ ih =>
    intro i hi
    cases i with
    | zero => exact h
    | succ i => simpa using ih i (by simpa using hi)
theorem StM.take {ps : List Pt} {qs : List Pm} (h : StM ps qs) : ∀ (n : Nat), StM (ps.take n) (qs.take n) := by
  induction h with
  | nil => intro n; simpa using StM.nil
  | cons h _ ih =>
    intro n
    cases n with
    | zero => simpa using StM.nil
    | succ n => simpa using StM.cons h (ih n)
theorem StM.drop {ps : List Pt} {qs : List Pm} (h : StM ps qs) : ∀ (n : Nat), StM (ps.drop n) (qs.drop n) := by
  induction h with
  | nil => intro n; simpa using StM.nil
  | @cons p q ps qs h t ih =>
    intro n
    cases n with
    | zero => simpa using StM.cons h t
    | succ n => simpa using ih n
theorem StM.append {ps ps' : List Pt} {qs qs' : List Pm} (h : StM ps qs) (k : StM ps' qs') : StM (ps ++ ps') (qs ++ qs') := by
  induction h with
  | nil => simpa using k
  | cons h _ ih => exact StM.cons h ih
theorem StM.one {p : Pt} {q : Pm} (h : PmOk p q) : StM [p] [q] := .cons h .nil

theorem jdg_how (x : Bool) : jdg x = 0 ∨ jdg x = 1 ∨ jdg x = 2 := by cases x <;> simp [jdg]
def Hw (x : Int) : Prop := x = 0 ∨ x = 1 ∨ x = 2
theorem hw_or {a b : Int} (ha : Hw a) (hb : Hw b) : Hw (orM a b) := by unfold orM; split <;> assumption
theorem hw_and {a b : Int} (ha : Hw a) (hb : Hw b) : Hw (andM a b) := by unfold andM; split <;> assumption
theorem hw_not {a : Int} (ha : Hw a) : Hw (notM a) := by
  unfold notM
  split
  · exact .inl rfl
  · split
    · exact .inr (.inl rfl)
    · exact ha
theorem hw_sided {s a b : Int} (ha : Hw a) (hb : Hw b) : Hw (sidedM s a b) := by
  unfold sidedM
  split
  · exact ha
  · split
    · exact hb
    · exact hw_or ha hb
theorem hw_joint {a b : Pm} (hb : Hw b.how) : Hw (jointM a b) := by
  unfold jointM
  split
  · exact .inl rfl
  · split
    · exact .inr (.inr rfl)
    · exact hb
theorem hw_port (s : Sg) (x : Ng) (p : Nat) : Hw (portM s x p) := by
  unfold portM
  cases numM s.b p 2 with
  | none => exact .inr (.inr rfl)
  | some k => exact jdg_how _
theorem hw_truth (s : Sg) (x : Ng) : Hw (truthM s x) := by
  have hW : ∀ bits, Hw (withinM s x bits) := fun bits => by
    unfold withinM
    split
    · exact .inl rfl
    · exact hw_sided (jdg_how _) (jdg_how _)
  unfold truthM
  split
  · exact jdg_how _
  · split
    · exact jdg_how _
    · split
      · exact jdg_how _
      · split
        · exact jdg_how _
        · split
          · exact hW _
          · split
            · exact hW _
            · unfold portsM
              split
              · exact .inl rfl
              · exact hw_sided (hw_port _ _ _) (hw_port _ _ _)

theorem num_lt {b : List UInt8} {p : Nat} {size : Int} {n : Nat} (h : numM b p size = some n) : n ≤ 4294967295 := by
  unfold numM at h
  split at h
  · rename_i ho
    cases h
    have hy := okB_yes ho
    have hl := numAt_lt b p size.toNat
    have : size.toNat ≤ 4 := by omega
    have : 256 ^ size.toNat ≤ 256 ^ 4 := Nat.pow_le_pow_right (by omega) this
    omega
  · cases h
theorem minusG_le (a : Nat) : minusG a ≤ 4294967295 := by unfold minusG; omega
end Go.Proofs.YtnojpepjloceoaaGreat
