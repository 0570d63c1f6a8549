import Derived.Test.YtklipelnjgpnjaaGreatDoorLotB3
import Derived.Test.YtklipelnjgpnjaaGreatDoorLotB1
import Derived.Test.YtklipelnjgpnjaaGreatDoorLotB4
import Derived.Test.YtklipelnjgpnjaaGreatDoorLotB6
import Derived.Laws.Rows
import Derived.Deep.RegionHeld3
import Derived.Deep.RegionLaw
import Derived.Deep.WholeRow
namespace Go.Proofs.YtklipelnjgpnjaaGreatDoor
open Go.RowKit
set_option maxRecDepth 100000
def a0X (n : Nat) (x : UInt8) : UInt8 := if n = 0 then 0 else if n < 8 then UInt8.ofNat (x.toNat / 2 ^ (8 - n) * 2 ^ (8 - n)) else x
def a05 : Nat → List UInt8 → List UInt8
 | _, [] => []
 | n, x :: r => a0X n x :: a05 (n - 8) r
theorem a25 (n : Nat) (xs : List UInt8) : (a05 n xs).length = xs.length := by
 induction xs generalizing n with
 | nil => rfl
 | cons x r ih => rw [a05, List.length_cons, List.length_cons, ih]
theorem aE4 (n : Nat) (xs : List UInt8) (j : Nat) (h : j < xs.length) : (a05 n xs)[j]'(by rw [a25]; exact h) = a0X (n - 8 * j) xs[j] := by
 induction xs generalizing n j with
 | nil => simp at h
 | cons x r ih =>
  cases j with
  | zero => rfl
  | succ j =>
   simp only [a05, List.getElem_cons_succ]
   rw [ih (n - 8) j (by simpa using h)]
   congr 1
   omega
def a1j (n : Nat) (bits : Int) : Int := if n ≠ 4 ∧ n ≠ 16 then 60 else if bits < 0 ∨ 8 * (n : Int) < bits then 61 else 0
def a1N (xs : List UInt8) (bits : Int) : List UInt8 := if a1j xs.length bits = 0 then a05 bits.toNat xs else []
def a1y (a b : Nat) (left : Bool) : Nat := if 31 < b then 0 else if left = true then a * 2 ^ b % 4294967296 else a / 2 ^ b
theorem ab5 (a b : Nat) (left : Bool) (ha : a ≤ 4294967295) : a1y a b left ≤ 4294967295 := by
 unfold a1y
 split
 ·omega
 ·split
  ·omega
  ·exact Nat.le_trans (Nat.div_le_self _ _) ha
def arG (k : Int) : Option Nat :=
 if k = 3 ∨ k = 5 ∨ k = 9 then some 1 else if k = 4 ∨ k = 6 ∨ k = 7 ∨ k = 8 then some 2 else if k = 1 ∨ k = 2 ∨ (10 ≤ k ∧ k ≤ 16) then some 0 else none
def inG (x lo hi : Int) : Bool := decide (lo ≤ x) && decide (x ≤ hi)
def j0 (n : Nat) : List UInt8 := List.replicate n 0
def j6 (x : Ng) : Ng :=
 if x.kind = 1 ∨ x.kind = 12 then ⟨x.kind, 0, x.n, 0, 0, 0, 0, j0 16, 0⟩
 else if x.kind = 3 then ⟨x.kind, 0, 0, 0, x.size, x.of, 0, j0 16, 0⟩
 else if x.kind = 4 ∨ x.kind = 6 then ⟨x.kind, x.op, 0, 0, 0, 0, 0, j0 16, 0⟩
 else if x.kind = 10 then ⟨x.kind, 0, 0, 0, 0, 0, x.side, j0 16, 0⟩
 else if x.kind = 11 then ⟨x.kind, 0, 0, 0, 0, x.of, 0, j0 16, 0⟩
 else if x.kind = 13 then ⟨x.kind, 0, x.n, 0, 0, x.of, 0, j0 16, 0⟩
 else if x.kind = 14 then ⟨x.kind, 0, 0, 0, 0, x.of, x.side, x.addr, 0⟩
 else if x.kind = 15 then ⟨x.kind, 0, 0, 0, 0, x.of, x.side, x.addr, x.bits⟩
 else if x.kind = 16 then ⟨x.kind, 0, x.n, x.m, 0, x.of, x.side, j0 16, 0⟩
 else ⟨x.kind, 0, 0, 0, 0, 0, 0, j0 16, 0⟩
def a1w (x : Ng) : Bool := inG x.of 2 3 && inG x.side 0 2 && (x.of == 3 || decide ((m3 x).drop 4 = j0 12))
def o4 (x : Ng) : Bool :=
 if x.kind = 3 then inG x.of 1 12
 else if x.kind = 4 then inG x.op 1 10
 else if x.kind = 6 then inG x.op 1 6
 else if x.kind = 10 then inG x.side 1 2
 else if x.kind = 11 then inG x.of 2 13
 else if x.kind = 13 then inG x.of 2 3
 else if x.kind = 14 ∨ x.kind = 15 then a1w x
 else if x.kind = 16 then (x.of == 0 || inG x.of 4 5) && inG x.side 0 2
 else true
def a2e (x y : Ng) : Bool := decide (x.kind = y.kind) && decide (x.op = y.op) && decide (x.n = y.n) && decide (x.m = y.m) && decide (x.size = y.size) && decide (x.of = y.of) && decide (x.side = y.side) && decide (m3 x = m3 y) && decide (x.bits = y.bits)
def P6 (x : Ng) : Bool := a2e x (j6 x) && o4 x
def J1 (x : Ng) : Nat :=
 if x.kind = 1 ∨ x.kind = 7 ∨ x.kind = 8 ∨ x.kind = 9 then 1 else if x.kind = 2 ∨ x.kind = 5 then 2 else if x.kind = 3 then 24 else if x.kind = 4 ∨ x.kind = 10 then 6
 else if x.kind = 6 ∨ x.kind = 12 then 8 else if x.kind = 11 then 12 else if x.kind = 13 then 16 else if x.kind = 16 then 40
 else if x.kind = 14 then (if x.of = 3 then 72 else 24) else if x.kind = 15 then (if x.of = 3 then 80 else 32) else 0
def O6 (t : List Ng) : Nat := (t.map J1).sum
structure Pt where
 truth : Bool
 fixed : Bool
 val : Nat
def pt0 : Pt := ⟨false, false, 0⟩
def K0 (k : Int) : Bool := decide (6 ≤ k)
def M7 (k : Int) : Bool := decide (k = 7 ∨ k = 8 ∨ k = 9)
def a0i (k : Int) (ps : List Pt) : Int := if ps.all (fun p => p.truth == M7 k) = true then 0 else if M7 k = true then 121 else 122
def Z2 (op : Int) : Bool := decide (op = 4 ∨ op = 5)
def a0d (x : Ng) (ps : List Pt) : Bool := decide (x.kind = 4) && Z2 x.op && (ps.getD 1 pt0).fixed && decide ((ps.getD 1 pt0).val = 0)
def o6 (x : Ng) : List UInt8 := if x.of = 2 then (m3 x).take 4 else m3 x
def o9 (x : Ng) : Int :=
 if x.kind = 3 then (if x.size = 1 ∨ x.size = 2 ∨ x.size = 4 then 0 else 124)
 else if x.kind = 12 then (if x.n ≤ 65535 then 0 else 124)
 else if x.kind = 13 then (if x.n ≤ 255 then 0 else 124)
 else if x.kind = 16 then (if x.n ≤ x.m ∧ x.m ≤ 65535 then 0 else 124)
 else if x.kind = 15 then (if ¬ (0 ≤ x.bits ∧ x.bits ≤ 8 * ((o6 x).length : Int)) then 124 else if a05 x.bits.toNat (o6 x) = o6 x then 0 else 125)
 else 0
def F9 (x : Ng) (ps : List Pt) : Int :=
 if P6 x = false then 120 else if a0i x.kind ps ≠ 0 then a0i x.kind ps else if a0d x ps = true then 123 else o9 x
def I0 (op : Int) (a b : Nat) : Nat :=
 if op = 1 then (a + b) % 4294967296 else if op = 2 then (a + 4294967296 - b) % 4294967296 else if op = 3 then a * b % 4294967296
 else if op = 4 then a / b else if op = 5 then a % b else if op = 6 then a &&& b else if op = 7 then a ||| b else if op = 8 then a ^^^ b
 else if op = 9 then a1y a b true else a1y a b false
def a2y (a : Nat) : Nat := (4294967296 - a) % 4294967296
def a1U (x : Ng) (ps : List Pt) : Option Nat :=
 if x.kind = 1 then some x.n else if x.kind = 4 then some (I0 x.op (ps.getD 0 pt0).val (ps.getD 1 pt0).val) else if x.kind = 5 then some (a2y (ps.getD 0 pt0).val) else none
def L9 (x : Ng) (ps : List Pt) : Pt :=
 if ps.all (·.fixed) = true then
  match a1U x ps with
  | some v => ⟨K0 x.kind, true, v⟩
  | none => ⟨K0 x.kind, false, 0⟩
 else ⟨K0 x.kind, false, 0⟩
def E8 (x : Ng) (st : List Pt) : Except Int (List Pt) :=
 match arG x.kind with
 | none => .error 120
 | some a => if st.length < a then .error 120 else
  if F9 x (st.drop (st.length - a)) ≠ 0 then .error (F9 x (st.drop (st.length - a))) else .ok (st.take (st.length - a) ++ [L9 x (st.drop (st.length - a))])
def m7 (st : List Pt) (k : Nat) : List Ng → Except (Nat × Int) (List Pt)
 | [] => .ok st
 | x :: r => match E8 x st with
  | .error e => .error (k, e)
  | .ok st' => m7 st' (k + 1) r
def U5 (w k : Nat) : List Ng → Option Nat
 | [] => none
 | x :: r => if 3000 < w + J1 x then some k else U5 (w + J1 x) (k + 1) r
def L8 (t : List Ng) : Nat × Int :=
 match m7 [] 0 t with
 | .error x => x
 | .ok st => if st.length ≠ 1 then (t.length, 120) else if (st.getD 0 pt0).truth = false then (t.length - 1, 121) else
  match U5 0 0 t with
  | some k => (k, 126)
  | none => (0, 0)
def a0V (ss : List Nat) (k : Nat) : List Ng → Option (List Nat)
 | [] => some ss
 | x :: r => match arG x.kind with
  | none => none
  | some a => if ss.length < a then none else if a = 0 then a0V (ss ++ [k]) (k + 1) r else a0V (ss.take (ss.length - a + 1)) (k + 1) r
theorem b1h (n : Nat) : (j0 n).length = n := by simp [j0]
theorem Z1 {k : Int} {a : Nat} (h : arG k = some a) : (a = 1 ∧ (k = 3 ∨ k = 5 ∨ k = 9)) ∨ (a = 2 ∧ (k = 4 ∨ k = 6 ∨ k = 7 ∨ k = 8)) ∨ (a = 0 ∧ (k = 1 ∨ k = 2 ∨ k = 10 ∨ k = 11 ∨ k = 12 ∨ k = 13 ∨ k = 14 ∨ k = 15 ∨ k = 16)) := by
 unfold arG at h
 split at h
 ·cases h; exact .inl ⟨rfl, by assumption⟩
 ·split at h
  ·cases h; exact .inr (.inl ⟨rfl, by assumption⟩)
  ·split at h
   ·cases h
    rename_i h3
    exact .inr (.inr ⟨rfl, by omega⟩)
   ·cases h
theorem a1X {k : Int} {a : Nat} (h : arG k = some a) : a ≤ 2 := by
 rcases Z1 h with ⟨rfl, -⟩ | ⟨rfl, -⟩ | ⟨rfl, -⟩ <;> omega
theorem a7S {k : Int} : arG k = none ↔ ¬ (1 ≤ k ∧ k ≤ 16) := by
 constructor
 ·intro h hk
  unfold arG at h
  split at h
  ·cases h
  ·split at h
   ·cases h
   ·split at h
    ·cases h
    ·omega
 ·intro h
  unfold arG
  rw [if_neg (by omega), if_neg (by omega), if_neg (by omega)]
theorem a3K {k : Int} {a : Nat} (h : arG k = some a) : 1 ≤ k ∧ k ≤ 16 := by
 rcases Z1 h with ⟨-, h⟩ | ⟨-, h⟩ | ⟨-, h⟩ <;> omega
theorem a5C : ∀ (l m : List Ng) (st : List Pt) (k : Nat), m7 st k (l ++ m) = match m7 st k l with | .error x => .error x | .ok s => m7 s (k + l.length) m
 | [], m, st, k => rfl
 | x :: l, m, st, k => by
  simp only [List.cons_append, m7]
  cases E8 x st with
  | error e => rfl
  | ok s =>
   simp only
   rw [a5C l m s (k + 1), List.length_cons, show k + 1 + l.length = k + (l.length + 1) by omega]
theorem as6 (x : Ng) (ps : List Pt) : F9 x ps = 0 ∨ F9 x ps = 120 ∨ F9 x ps = 121 ∨ F9 x ps = 122 ∨ F9 x ps = 123 ∨ F9 x ps = 124 ∨ F9 x ps = 125 := by
 have hk : a0i x.kind ps = 0 ∨ a0i x.kind ps = 121 ∨ a0i x.kind ps = 122 := by
  unfold a0i
  split
  ·exact .inl rfl
  ·split
   ·exact .inr (.inl rfl)
   ·exact .inr (.inr rfl)
 have hr : o9 x = 0 ∨ o9 x = 124 ∨ o9 x = 125 := by
  unfold o9
  repeat' split
  all_goals first | exact .inl rfl | exact .inr (.inl rfl) | exact .inr (.inr rfl)
 unfold F9
 split
 ·exact .inr (.inl rfl)
 ·split
  ·omega
  ·split
   ·omega
   ·omega
theorem aY4 {x : Ng} {st : List Pt} {e : Int} (h : E8 x st = .error e) : 120 ≤ e ∧ e ≤ 125 := by
 unfold E8 at h
 split at h
 ·cases h; omega
 ·split at h
  ·cases h; omega
  ·split at h
   ·cases h
    rename_i a _ _ hn
    have := as6 x (st.drop (st.length - a))
    omega
   ·cases h
theorem a7n : ∀ (l : List Ng) (st : List Pt) (k : Nat) {p : Nat} {e : Int}, m7 st k l = .error (p, e) → 120 ≤ e ∧ e ≤ 125
 | [], st, k, p, e, h => by cases h
 | x :: l, st, k, p, e, h => by
  simp only [m7] at h
  cases hs : E8 x st with
  | error e' => rw [hs] at h; cases h; exact aY4 hs
  | ok s => rw [hs] at h; exact a7n l s (k + 1) h
theorem aY7 {x : Ng} {st s : List Pt} (h : E8 x st = .ok s) : s.length ≤ st.length + 1 ∧ 0 < s.length := by
 unfold E8 at h
 split at h
 ·cases h
 ·split at h
  ·cases h
  ·split at h
   ·cases h
   ·cases h
    rw [List.length_append, List.length_take, List.length_singleton]
    omega
theorem ag1 : ∀ (l : List Ng) (st s : List Pt) (k : Nat), m7 st k l = .ok s → s.length ≤ st.length + l.length
 | [], st, s, k, h => by cases h; simp
 | x :: l, st, s, k, h => by
  simp only [m7] at h
  rw [List.length_cons]
  cases hs : E8 x st with
  | error e' => rw [hs] at h; cases h
  | ok s1 =>
   rw [hs] at h
   have := ag1 l s1 s (k + 1) h
   have := aY7 hs
   omega
theorem M8 {P : Program} {ops : Array Oper} {S : World → Prop} {op : Oper} {a : Act} (hw : Region.wanted op (yielded ops a.tmps) = true) (ty : TypeId) (x : Operand) (ho : op.op = .load ty x)
  (g : Nat) (hx : a.eval x = .pointer (some ⟨g, 0, none⟩)) (t : TypeId) (cs : Array Value) (d : TypeDesc) (hS : ∀ w, S w → VAt w g t cs)
  (hu : P.underlying ty = some d) (hd : (match d with | .struct _ | .array _ _ => true | _ => false) = true) (hi : (P.info? ty).map (·.size) = some cs.size) : YieldsIf P ops S op (.agg cs) a :=
 .inl ⟨hw, fun w hw' => by
  unfold execOp
  simp only [ho, hx, Instr.loadAt, Instr.sureAddr, Sem.run_bind, Sem.run_pure, Result.andThen_ok, run_loadVar_row w g t ty cs (0, 0) d (hS w hw') hu hd hi]⟩

end Go.Proofs.YtklipelnjgpnjaaGreatDoor
