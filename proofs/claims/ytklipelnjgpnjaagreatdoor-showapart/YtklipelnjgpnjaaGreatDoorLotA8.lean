import Derived.Test.YtklipelnjgpnjaaGreatDoorLotA3
import Derived.Test.YtklipelnjgpnjaaGreatDoorLotA1
import Derived.Test.YtklipelnjgpnjaaGreatDoorLotA5
import Derived.Test.YtklipelnjgpnjaaGreatDoorLotA7
import Derived.Laws.Rows
import Derived.Deep.RegionHeld3
import Derived.Deep.RegionLaw
import Derived.Deep.WholeRow
namespace Go.Proofs.YtklipelnjgpnjaaGreatDoor
open Go.RowKit
set_option maxRecDepth 100000
def topB (n : Nat) (x : UInt8) : UInt8 := if n = 0 then 0 else if n < 8 then UInt8.ofNat (x.toNat / 2 ^ (8 - n) * 2 ^ (8 - n)) else x
def maskV : Nat → List UInt8 → List UInt8
 | _, [] => []
 | n, x :: r => topB n x :: maskV (n - 8) r
theorem mask_len (n : Nat) (xs : List UInt8) : (maskV n xs).length = xs.length := by
 induction xs generalizing n with
 | nil => rfl
 | cons x r ih => rw [maskV, List.length_cons, List.length_cons, ih]
theorem mask_get (n : Nat) (xs : List UInt8) (j : Nat) (h : j < xs.length) : (maskV n xs)[j]'(by rw [mask_len]; exact h) = topB (n - 8 * j) xs[j] := by
 induction xs generalizing n j with
 | nil => simp at h
 | cons x r ih =>
  cases j with
  | zero => rfl
  | succ j =>
   simp only [maskV, List.getElem_cons_succ]
   rw [ih (n - 8) j (by simpa using h)]
   congr 1
   omega
def netE (n : Nat) (bits : Int) : Int := if n ≠ 4 ∧ n ≠ 16 then 60 else if bits < 0 ∨ 8 * (n : Int) < bits then 61 else 0
def netV (xs : List UInt8) (bits : Int) : List UInt8 := if netE xs.length bits = 0 then maskV bits.toNat xs else []
def shiftV (a b : Nat) (left : Bool) : Nat := if 31 < b then 0 else if left = true then a * 2 ^ b % 4294967296 else a / 2 ^ b
theorem shiftV_le (a b : Nat) (left : Bool) (ha : a ≤ 4294967295) : shiftV a b left ≤ 4294967295 := by
 unfold shiftV
 split
 ·omega
 ·split
  ·omega
  ·exact Nat.le_trans (Nat.div_le_self _ _) ha
def arG (k : Int) : Option Nat :=
 if k = 3 ∨ k = 5 ∨ k = 9 then some 1 else if k = 4 ∨ k = 6 ∨ k = 7 ∨ k = 8 then some 2 else if k = 1 ∨ k = 2 ∨ (10 ≤ k ∧ k ≤ 16) then some 0 else none
def inG (x lo hi : Int) : Bool := decide (lo ≤ x) && decide (x ≤ hi)
def zeros (n : Nat) : List UInt8 := List.replicate n 0
def useG (x : Ng) : Ng :=
 if x.kind = 1 ∨ x.kind = 12 then ⟨x.kind, 0, x.n, 0, 0, 0, 0, zeros 16, 0⟩
 else if x.kind = 3 then ⟨x.kind, 0, 0, 0, x.size, x.of, 0, zeros 16, 0⟩
 else if x.kind = 4 ∨ x.kind = 6 then ⟨x.kind, x.op, 0, 0, 0, 0, 0, zeros 16, 0⟩
 else if x.kind = 10 then ⟨x.kind, 0, 0, 0, 0, 0, x.side, zeros 16, 0⟩
 else if x.kind = 11 then ⟨x.kind, 0, 0, 0, 0, x.of, 0, zeros 16, 0⟩
 else if x.kind = 13 then ⟨x.kind, 0, x.n, 0, 0, x.of, 0, zeros 16, 0⟩
 else if x.kind = 14 then ⟨x.kind, 0, 0, 0, 0, x.of, x.side, x.addr, 0⟩
 else if x.kind = 15 then ⟨x.kind, 0, 0, 0, 0, x.of, x.side, x.addr, x.bits⟩
 else if x.kind = 16 then ⟨x.kind, 0, x.n, x.m, 0, x.of, x.side, zeros 16, 0⟩
 else ⟨x.kind, 0, 0, 0, 0, 0, 0, zeros 16, 0⟩
def hostG (x : Ng) : Bool := inG x.of 2 3 && inG x.side 0 2 && (x.of == 3 || decide ((adgs x).drop 4 = zeros 12))
def mayG (x : Ng) : Bool :=
 if x.kind = 3 then inG x.of 1 12
 else if x.kind = 4 then inG x.op 1 10
 else if x.kind = 6 then inG x.op 1 6
 else if x.kind = 10 then inG x.side 1 2
 else if x.kind = 11 then inG x.of 2 13
 else if x.kind = 13 then inG x.of 2 3
 else if x.kind = 14 ∨ x.kind = 15 then hostG x
 else if x.kind = 16 then (x.of == 0 || inG x.of 4 5) && inG x.side 0 2
 else true
def sameG (x y : Ng) : Bool := decide (x.kind = y.kind) && decide (x.op = y.op) && decide (x.n = y.n) && decide (x.m = y.m) && decide (x.size = y.size) && decide (x.of = y.of) && decide (x.side = y.side) && decide (adgs x = adgs y) && decide (x.bits = y.bits)
def formG (x : Ng) : Bool := sameG x (useG x) && mayG x
def weighG (x : Ng) : Nat :=
 if x.kind = 1 ∨ x.kind = 7 ∨ x.kind = 8 ∨ x.kind = 9 then 1 else if x.kind = 2 ∨ x.kind = 5 then 2 else if x.kind = 3 then 24 else if x.kind = 4 ∨ x.kind = 10 then 6
 else if x.kind = 6 ∨ x.kind = 12 then 8 else if x.kind = 11 then 12 else if x.kind = 13 then 16 else if x.kind = 16 then 40
 else if x.kind = 14 then (if x.of = 3 then 72 else 24) else if x.kind = 15 then (if x.of = 3 then 80 else 32) else 0
def weightG (t : List Ng) : Nat := (t.map weighG).sum
structure Pt where
 truth : Bool
 fixed : Bool
 val : Nat
def pt0 : Pt := ⟨false, false, 0⟩
def truthG (k : Int) : Bool := decide (6 ≤ k)
def wantsG (k : Int) : Bool := decide (k = 7 ∨ k = 8 ∨ k = 9)
def kindE (k : Int) (ps : List Pt) : Int := if ps.all (fun p => p.truth == wantsG k) = true then 0 else if wantsG k = true then 121 else 122
def divG (op : Int) : Bool := decide (op = 4 ∨ op = 5)
def zeroE (x : Ng) (ps : List Pt) : Bool := decide (x.kind = 4) && divG x.op && (ps.getD 1 pt0).fixed && decide ((ps.getD 1 pt0).val = 0)
def addrG (x : Ng) : List UInt8 := if x.of = 2 then (adgs x).take 4 else adgs x
def rangeE (x : Ng) : Int :=
 if x.kind = 3 then (if x.size = 1 ∨ x.size = 2 ∨ x.size = 4 then 0 else 124)
 else if x.kind = 12 then (if x.n ≤ 65535 then 0 else 124)
 else if x.kind = 13 then (if x.n ≤ 255 then 0 else 124)
 else if x.kind = 16 then (if x.n ≤ x.m ∧ x.m ≤ 65535 then 0 else 124)
 else if x.kind = 15 then (if ¬ (0 ≤ x.bits ∧ x.bits ≤ 8 * ((addrG x).length : Int)) then 124 else if maskV x.bits.toNat (addrG x) = addrG x then 0 else 125)
 else 0
def faultG (x : Ng) (ps : List Pt) : Int :=
 if formG x = false then 120 else if kindE x.kind ps ≠ 0 then kindE x.kind ps else if zeroE x ps = true then 123 else rangeE x
def arithG (op : Int) (a b : Nat) : Nat :=
 if op = 1 then (a + b) % 4294967296 else if op = 2 then (a + 4294967296 - b) % 4294967296 else if op = 3 then a * b % 4294967296
 else if op = 4 then a / b else if op = 5 then a % b else if op = 6 then a &&& b else if op = 7 then a ||| b else if op = 8 then a ^^^ b
 else if op = 9 then shiftV a b true else shiftV a b false
def minusG (a : Nat) : Nat := (4294967296 - a) % 4294967296
def valG (x : Ng) (ps : List Pt) : Option Nat :=
 if x.kind = 1 then some x.n else if x.kind = 4 then some (arithG x.op (ps.getD 0 pt0).val (ps.getD 1 pt0).val) else if x.kind = 5 then some (minusG (ps.getD 0 pt0).val) else none
def joinG (x : Ng) (ps : List Pt) : Pt :=
 if ps.all (·.fixed) = true then
  match valG x ps with
  | some v => ⟨truthG x.kind, true, v⟩
  | none => ⟨truthG x.kind, false, 0⟩
 else ⟨truthG x.kind, false, 0⟩
def stepG (x : Ng) (st : List Pt) : Except Int (List Pt) :=
 match arG x.kind with
 | none => .error 120
 | some a => if st.length < a then .error 120 else
  if faultG x (st.drop (st.length - a)) ≠ 0 then .error (faultG x (st.drop (st.length - a))) else .ok (st.take (st.length - a) ++ [joinG x (st.drop (st.length - a))])
def walkG (st : List Pt) (k : Nat) : List Ng → Except (Nat × Int) (List Pt)
 | [] => .ok st
 | x :: r => match stepG x st with
  | .error e => .error (k, e)
  | .ok st' => walkG st' (k + 1) r
def heavyG (w k : Nat) : List Ng → Option Nat
 | [] => none
 | x :: r => if 3000 < w + weighG x then some k else heavyG (w + weighG x) (k + 1) r
def checkG (t : List Ng) : Nat × Int :=
 match walkG [] 0 t with
 | .error x => x
 | .ok st => if st.length ≠ 1 then (t.length, 120) else if (st.getD 0 pt0).truth = false then (t.length - 1, 121) else
  match heavyG 0 0 t with
  | some k => (k, 126)
  | none => (0, 0)
def startsG (ss : List Nat) (k : Nat) : List Ng → Option (List Nat)
 | [] => some ss
 | x :: r => match arG x.kind with
  | none => none
  | some a => if ss.length < a then none else if a = 0 then startsG (ss ++ [k]) (k + 1) r else startsG (ss.take (ss.length - a + 1)) (k + 1) r
theorem zeros_len (n : Nat) : (zeros n).length = n := by simp [zeros]
theorem arG_cases {k : Int} {a : Nat} (h : arG k = some a) : (a = 1 ∧ (k = 3 ∨ k = 5 ∨ k = 9)) ∨ (a = 2 ∧ (k = 4 ∨ k = 6 ∨ k = 7 ∨ k = 8)) ∨ (a = 0 ∧ (k = 1 ∨ k = 2 ∨ k = 10 ∨ k = 11 ∨ k = 12 ∨ k = 13 ∨ k = 14 ∨ k = 15 ∨ k = 16)) := by
 unfold arG at h
 split at h
 ·cases h; exact .inl ⟨rfl, by assumption⟩
 ·split at h
  ·cases h; exact .inr (.inl ⟨rfl, by assumption⟩)
  ·split at h
   ·cases h
    rename_i h3
    exact .inr (.inr ⟨rfl, by omega⟩)
   ·cases h
theorem arG_le {k : Int} {a : Nat} (h : arG k = some a) : a ≤ 2 := by
 rcases arG_cases h with ⟨rfl, -⟩ | ⟨rfl, -⟩ | ⟨rfl, -⟩ <;> omega
theorem arG_none {k : Int} : arG k = none ↔ ¬ (1 ≤ k ∧ k ≤ 16) := by
 constructor
 ·intro h hk
  unfold arG at h
  split at h
  ·cases h
  ·split at h
   ·cases h
   ·split at h
    ·cases h
    ·omega
 ·intro h
  unfold arG
  rw [if_neg (by omega), if_neg (by omega), if_neg (by omega)]
theorem arG_in {k : Int} {a : Nat} (h : arG k = some a) : 1 ≤ k ∧ k ≤ 16 := by
 rcases arG_cases h with ⟨-, h⟩ | ⟨-, h⟩ | ⟨-, h⟩ <;> omega
theorem walkG_app : ∀ (l m : List Ng) (st : List Pt) (k : Nat), walkG st k (l ++ m) = match walkG st k l with | .error x => .error x | .ok s => walkG s (k + l.length) m
 | [], m, st, k => rfl
 | x :: l, m, st, k => by
  simp only [List.cons_append, walkG]
  cases stepG x st with
  | error e => rfl
  | ok s =>
   simp only
   rw [walkG_app l m s (k + 1), List.length_cons, show k + 1 + l.length = k + (l.length + 1) by omega]
theorem faultG_kinds (x : Ng) (ps : List Pt) : faultG x ps = 0 ∨ faultG x ps = 120 ∨ faultG x ps = 121 ∨ faultG x ps = 122 ∨ faultG x ps = 123 ∨ faultG x ps = 124 ∨ faultG x ps = 125 := by
 have hk : kindE x.kind ps = 0 ∨ kindE x.kind ps = 121 ∨ kindE x.kind ps = 122 := by
  unfold kindE
  split
  ·exact .inl rfl
  ·split
   ·exact .inr (.inl rfl)
   ·exact .inr (.inr rfl)
 have hr : rangeE x = 0 ∨ rangeE x = 124 ∨ rangeE x = 125 := by
  unfold rangeE
  repeat' split
  all_goals first | exact .inl rfl | exact .inr (.inl rfl) | exact .inr (.inr rfl)
 unfold faultG
 split
 ·exact .inr (.inl rfl)
 ·split
  ·omega
  ·split
   ·omega
   ·omega
theorem stepG_er {x : Ng} {st : List Pt} {e : Int} (h : stepG x st = .error e) : 120 ≤ e ∧ e ≤ 125 := by
 unfold stepG at h
 split at h
 ·cases h; omega
 ·split at h
  ·cases h; omega
  ·split at h
   ·cases h
    rename_i a _ _ hn
    have := faultG_kinds x (st.drop (st.length - a))
    omega
   ·cases h
theorem walkG_er : ∀ (l : List Ng) (st : List Pt) (k : Nat) {p : Nat} {e : Int}, walkG st k l = .error (p, e) → 120 ≤ e ∧ e ≤ 125
 | [], st, k, p, e, h => by cases h
 | x :: l, st, k, p, e, h => by
  simp only [walkG] at h
  cases hs : stepG x st with
  | error e' => rw [hs] at h; cases h; exact stepG_er hs
  | ok s => rw [hs] at h; exact walkG_er l s (k + 1) h
theorem stepG_len {x : Ng} {st s : List Pt} (h : stepG x st = .ok s) : s.length ≤ st.length + 1 ∧ 0 < s.length := by
 unfold stepG at h
 split at h
 ·cases h
 ·split at h
  ·cases h
  ·split at h
   ·cases h
   ·cases h
    rw [List.length_append, List.length_take, List.length_singleton]
    omega
theorem walkG_len : ∀ (l : List Ng) (st s : List Pt) (k : Nat), walkG st k l = .ok s → s.length ≤ st.length + l.length
 | [], st, s, k, h => by cases h; simp
 | x :: l, st, s, k, h => by
  simp only [walkG] at h
  rw [List.length_cons]
  cases hs : stepG x st with
  | error e' => rw [hs] at h; cases h
  | ok s1 =>
   rw [hs] at h
   have := walkG_len l s1 s (k + 1) h
   have := stepG_len hs
   omega
theorem yieldsIf_load_row {P : Program} {ops : Array Oper} {S : World → Prop} {op : Oper} {a : Act} (hw : Region.wanted op (yielded ops a.tmps) = true) (ty : TypeId) (x : Operand) (ho : op.op = .load ty x)
  (g : Nat) (hx : a.eval x = .pointer (some ⟨g, 0, none⟩)) (t : TypeId) (cs : Array Value) (d : TypeDesc) (hS : ∀ w, S w → VAt w g t cs)
  (hu : P.underlying ty = some d) (hd : (match d with | .struct _ | .array _ _ => true | _ => false) = true) (hi : (P.info? ty).map (·.size) = some cs.size) : YieldsIf P ops S op (.agg cs) a :=
 .inl ⟨hw, fun w hw' => by
  unfold execOp
  simp only [ho, hx, Instr.loadAt, Instr.sureAddr, Sem.run_bind, Sem.run_pure, Result.andThen_ok, run_loadVar_row w g t ty cs (0, 0) d (hS w hw') hu hd hi]⟩

end Go.Proofs.YtklipelnjgpnjaaGreatDoor
