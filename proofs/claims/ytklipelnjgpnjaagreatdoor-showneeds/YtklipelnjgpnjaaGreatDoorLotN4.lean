import Derived.Test.YtklipelnjgpnjaaGreatDoorLotN3
import Derived.Test.YtklipelnjgpnjaaGreatDoorLotN1
import Derived.Laws.Rows
import Derived.Deep.RegionHeld3
import Derived.Deep.RegionLaw
import Derived.Deep.WholeRow
import Derived.Deep.MidRow
import Derived.BigQuiet
set_option maxHeartbeats 64000000
set_option maxRecDepth 100000
namespace Go.Proofs.YtklipelnjgpnjaaGreatDoor
open Go.RowKit
def a1h (a b : Nat) (left : Bool) : Nat := if 31 < b then 0 else if left = true then a * 2 ^ b % 4294967296 else a / 2 ^ b
theorem a9R (a b : Nat) (left : Bool) (ha : a ≤ 4294967295) : a1h a b left ≤ 4294967295 := by
 unfold a1h
 split
 ·omega
 ·split
  ·omega
  ·exact Nat.le_trans (Nat.div_le_self _ _) ha
def arG (k : Int) : Option Nat :=
 if k = 3 ∨ k = 5 ∨ k = 9 then some 1 else if k = 4 ∨ k = 6 ∨ k = 7 ∨ k = 8 then some 2 else if k = 1 ∨ k = 2 ∨ (10 ≤ k ∧ k ≤ 16) then some 0 else none
def inG (x lo hi : Int) : Bool := decide (lo ≤ x) && decide (x ≤ hi)
def j1 (n : Nat) : List UInt8 := List.replicate n 0
def D0 (x : Ng) : Ng :=
 if x.kind = 1 ∨ x.kind = 12 then ⟨x.kind, 0, x.n, 0, 0, 0, 0, j1 16, 0⟩
 else if x.kind = 3 then ⟨x.kind, 0, 0, 0, x.size, x.of, 0, j1 16, 0⟩
 else if x.kind = 4 ∨ x.kind = 6 then ⟨x.kind, x.op, 0, 0, 0, 0, 0, j1 16, 0⟩
 else if x.kind = 10 then ⟨x.kind, 0, 0, 0, 0, 0, x.side, j1 16, 0⟩
 else if x.kind = 11 then ⟨x.kind, 0, 0, 0, 0, x.of, 0, j1 16, 0⟩
 else if x.kind = 13 then ⟨x.kind, 0, x.n, 0, 0, x.of, 0, j1 16, 0⟩
 else if x.kind = 14 then ⟨x.kind, 0, 0, 0, 0, x.of, x.side, x.addr, 0⟩
 else if x.kind = 15 then ⟨x.kind, 0, 0, 0, 0, x.of, x.side, x.addr, x.bits⟩
 else if x.kind = 16 then ⟨x.kind, 0, x.n, x.m, 0, x.of, x.side, j1 16, 0⟩
 else ⟨x.kind, 0, 0, 0, 0, 0, 0, j1 16, 0⟩
def a1I (x : Ng) : Bool := inG x.of 2 3 && inG x.side 0 2 && (x.of == 3 || decide ((k8 x).drop 4 = j1 12))
def q7 (x : Ng) : Bool :=
 if x.kind = 3 then inG x.of 1 12
 else if x.kind = 4 then inG x.op 1 10
 else if x.kind = 6 then inG x.op 1 6
 else if x.kind = 10 then inG x.side 1 2
 else if x.kind = 11 then inG x.of 2 13
 else if x.kind = 13 then inG x.of 2 3
 else if x.kind = 14 ∨ x.kind = 15 then a1I x
 else if x.kind = 16 then (x.of == 0 || inG x.of 4 5) && inG x.side 0 2
 else true
def a0a (x y : Ng) : Bool := decide (x.kind = y.kind) && decide (x.op = y.op) && decide (x.n = y.n) && decide (x.m = y.m) && decide (x.size = y.size) && decide (x.of = y.of) && decide (x.side = y.side) && decide (k8 x = k8 y) && decide (x.bits = y.bits)
def U9 (x : Ng) : Bool := a0a x (D0 x) && q7 x
def E0 (x : Ng) : Nat :=
 if x.kind = 1 ∨ x.kind = 7 ∨ x.kind = 8 ∨ x.kind = 9 then 1 else if x.kind = 2 ∨ x.kind = 5 then 2 else if x.kind = 3 then 24 else if x.kind = 4 ∨ x.kind = 10 then 6
 else if x.kind = 6 ∨ x.kind = 12 then 8 else if x.kind = 11 then 12 else if x.kind = 13 then 16 else if x.kind = 16 then 40
 else if x.kind = 14 then (if x.of = 3 then 72 else 24) else if x.kind = 15 then (if x.of = 3 then 80 else 32) else 0
def J8 (t : List Ng) : Nat := (t.map E0).sum
structure Pt where
 truth : Bool
 fixed : Bool
 val : Nat
def pt0 : Pt := ⟨false, false, 0⟩
def M7 (k : Int) : Bool := decide (6 ≤ k)
def L6 (k : Int) : Bool := decide (k = 7 ∨ k = 8 ∨ k = 9)
def Z9 (k : Int) (ps : List Pt) : Int := if ps.all (fun p => p.truth == L6 k) = true then 0 else if L6 k = true then 121 else 122
def U8 (op : Int) : Bool := decide (op = 4 ∨ op = 5)
def Z1 (x : Ng) (ps : List Pt) : Bool := decide (x.kind = 4) && U8 x.op && (ps.getD 1 pt0).fixed && decide ((ps.getD 1 pt0).val = 0)
def l0 (x : Ng) : List UInt8 := if x.of = 2 then (k8 x).take 4 else k8 x
def m4 (x : Ng) : Int :=
 if x.kind = 3 then (if x.size = 1 ∨ x.size = 2 ∨ x.size = 4 then 0 else 124)
 else if x.kind = 12 then (if x.n ≤ 65535 then 0 else 124)
 else if x.kind = 13 then (if x.n ≤ 255 then 0 else 124)
 else if x.kind = 16 then (if x.n ≤ x.m ∧ x.m ≤ 65535 then 0 else 124)
 else if x.kind = 15 then (if ¬ (0 ≤ x.bits ∧ x.bits ≤ 8 * ((l0 x).length : Int)) then 124 else if W5 x.bits.toNat (l0 x) = l0 x then 0 else 125)
 else 0
def A9 (x : Ng) (ps : List Pt) : Int :=
 if U9 x = false then 120 else if Z9 x.kind ps ≠ 0 then Z9 x.kind ps else if Z1 x ps = true then 123 else m4 x
def D4 (op : Int) (a b : Nat) : Nat :=
 if op = 1 then (a + b) % 4294967296 else if op = 2 then (a + 4294967296 - b) % 4294967296 else if op = 3 then a * b % 4294967296
 else if op = 4 then a / b else if op = 5 then a % b else if op = 6 then a &&& b else if op = 7 then a ||| b else if op = 8 then a ^^^ b
 else if op = 9 then a1h a b true else a1h a b false
def a2h (a : Nat) : Nat := (4294967296 - a) % 4294967296
def a1C (x : Ng) (ps : List Pt) : Option Nat :=
 if x.kind = 1 then some x.n else if x.kind = 4 then some (D4 x.op (ps.getD 0 pt0).val (ps.getD 1 pt0).val) else if x.kind = 5 then some (a2h (ps.getD 0 pt0).val) else none
def I6 (x : Ng) (ps : List Pt) : Pt :=
 if ps.all (·.fixed) = true then
  match a1C x ps with
  | some v => ⟨M7 x.kind, true, v⟩
  | none => ⟨M7 x.kind, false, 0⟩
 else ⟨M7 x.kind, false, 0⟩
def z6 (x : Ng) (st : List Pt) : Except Int (List Pt) :=
 match arG x.kind with
 | none => .error 120
 | some a => if st.length < a then .error 120 else
  if A9 x (st.drop (st.length - a)) ≠ 0 then .error (A9 x (st.drop (st.length - a))) else .ok (st.take (st.length - a) ++ [I6 x (st.drop (st.length - a))])
def j8 (st : List Pt) (k : Nat) : List Ng → Except (Nat × Int) (List Pt)
 | [] => .ok st
 | x :: r => match z6 x st with
  | .error e => .error (k, e)
  | .ok st' => j8 st' (k + 1) r
def S9 (w k : Nat) : List Ng → Option Nat
 | [] => none
 | x :: r => if 3000 < w + E0 x then some k else S9 (w + E0 x) (k + 1) r
def J4 (t : List Ng) : Nat × Int :=
 match j8 [] 0 t with
 | .error x => x
 | .ok st => if st.length ≠ 1 then (t.length, 120) else if (st.getD 0 pt0).truth = false then (t.length - 1, 121) else
  match S9 0 0 t with
  | some k => (k, 126)
  | none => (0, 0)
def a0C (ss : List Nat) (k : Nat) : List Ng → Option (List Nat)
 | [] => some ss
 | x :: r => match arG x.kind with
  | none => none
  | some a => if ss.length < a then none else if a = 0 then a0C (ss ++ [k]) (k + 1) r else a0C (ss.take (ss.length - a + 1)) (k + 1) r
theorem b0C (n : Nat) : (j1 n).length = n := by simp [j1]
theorem a0H {k : Int} {a : Nat} (h : arG k = some a) : (a = 1 ∧ (k = 3 ∨ k = 5 ∨ k = 9)) ∨ (a = 2 ∧ (k = 4 ∨ k = 6 ∨ k = 7 ∨ k = 8)) ∨ (a = 0 ∧ (k = 1 ∨ k = 2 ∨ k = 10 ∨ k = 11 ∨ k = 12 ∨ k = 13 ∨ k = 14 ∨ k = 15 ∨ k = 16)) := by
 unfold arG at h
 split at h
 ·cases h; exact .inl ⟨rfl, by assumption⟩
 ·split at h
  ·cases h; exact .inr (.inl ⟨rfl, by assumption⟩)
  ·split at h
   ·cases h
    rename_i h3
    exact .inr (.inr ⟨rfl, by omega⟩)
   ·cases h
theorem a1G {k : Int} {a : Nat} (h : arG k = some a) : a ≤ 2 := by
 rcases a0H h with ⟨rfl, -⟩ | ⟨rfl, -⟩ | ⟨rfl, -⟩ <;> omega
theorem a7j {k : Int} : arG k = none ↔ ¬ (1 ≤ k ∧ k ≤ 16) := by
 constructor
 ·intro h hk
  unfold arG at h
  split at h
  ·cases h
  ·split at h
   ·cases h
   ·split at h
    ·cases h
    ·omega
 ·intro h
  unfold arG
  rw [if_neg (by omega), if_neg (by omega), if_neg (by omega)]
theorem a3q {k : Int} {a : Nat} (h : arG k = some a) : 1 ≤ k ∧ k ≤ 16 := by
 rcases a0H h with ⟨-, h⟩ | ⟨-, h⟩ | ⟨-, h⟩ <;> omega
theorem a4V : ∀ (l m : List Ng) (st : List Pt) (k : Nat), j8 st k (l ++ m) = match j8 st k l with | .error x => .error x | .ok s => j8 s (k + l.length) m
 | [], m, st, k => rfl
 | x :: l, m, st, k => by
  simp only [List.cons_append, j8]
  cases z6 x st with
  | error e => rfl
  | ok s =>
   simp only
   rw [a4V l m s (k + 1), List.length_cons, show k + 1 + l.length = k + (l.length + 1) by omega]
theorem aq1 (x : Ng) (ps : List Pt) : A9 x ps = 0 ∨ A9 x ps = 120 ∨ A9 x ps = 121 ∨ A9 x ps = 122 ∨ A9 x ps = 123 ∨ A9 x ps = 124 ∨ A9 x ps = 125 := by
 have hk : Z9 x.kind ps = 0 ∨ Z9 x.kind ps = 121 ∨ Z9 x.kind ps = 122 := by
  unfold Z9
  split
  ·exact .inl rfl
  ·split
   ·exact .inr (.inl rfl)
   ·exact .inr (.inr rfl)
 have hr : m4 x = 0 ∨ m4 x = 124 ∨ m4 x = 125 := by
  unfold m4
  repeat' split
  all_goals first | exact .inl rfl | exact .inr (.inl rfl) | exact .inr (.inr rfl)
 unfold A9
 split
 ·exact .inr (.inl rfl)
 ·split
  ·omega
  ·split
   ·omega
   ·omega
theorem aV8 {x : Ng} {st : List Pt} {e : Int} (h : z6 x st = .error e) : 120 ≤ e ∧ e ≤ 125 := by
 unfold z6 at h
 split at h
 ·cases h; omega
 ·split at h
  ·cases h; omega
  ·split at h
   ·cases h
    rename_i a _ _ hn
    have := aq1 x (st.drop (st.length - a))
    omega
   ·cases h
theorem a6M : ∀ (l : List Ng) (st : List Pt) (k : Nat) {p : Nat} {e : Int}, j8 st k l = .error (p, e) → 120 ≤ e ∧ e ≤ 125
 | [], st, k, p, e, h => by cases h
 | x :: l, st, k, p, e, h => by
  simp only [j8] at h
  cases hs : z6 x st with
  | error e' => rw [hs] at h; cases h; exact aV8 hs
  | ok s => rw [hs] at h; exact a6M l s (k + 1) h
theorem aW1 {x : Ng} {st s : List Pt} (h : z6 x st = .ok s) : s.length ≤ st.length + 1 ∧ 0 < s.length := by
 unfold z6 at h
 split at h
 ·cases h
 ·split at h
  ·cases h
  ·split at h
   ·cases h
   ·cases h
    rw [List.length_append, List.length_take, List.length_singleton]
    omega
theorem ad2 : ∀ (l : List Ng) (st s : List Pt) (k : Nat), j8 st k l = .ok s → s.length ≤ st.length + l.length
 | [], st, s, k, h => by cases h; simp
 | x :: l, st, s, k, h => by
  simp only [j8] at h
  rw [List.length_cons]
  cases hs : z6 x st with
  | error e' => rw [hs] at h; cases h
  | ok s1 =>
   rw [hs] at h
   have := ad2 l s1 s (k + 1) h
   have := aW1 hs
   omega
theorem J3 {P : Program} {ops : Array Oper} {S : World → Prop} {op : Oper} {a : Act} (hw : Region.wanted op (yielded ops a.tmps) = true) (ty : TypeId) (x : Operand) (ho : op.op = .load ty x)
  (g : Nat) (hx : a.eval x = .pointer (some ⟨g, 0, none⟩)) (t : TypeId) (cs : Array Value) (d : TypeDesc) (hS : ∀ w, S w → VAt w g t cs)
  (hu : P.underlying ty = some d) (hd : (match d with | .struct _ | .array _ _ => true | _ => false) = true) (hi : (P.info? ty).map (·.size) = some cs.size) : YieldsIf P ops S op (.agg cs) a :=
 .inl ⟨hw, fun w hw' => by
  unfold execOp
  simp only [ho, hx, Instr.loadAt, Instr.sureAddr, Sem.run_bind, Sem.run_pure, Result.andThen_ok, run_loadVar_row w g t ty cs (0, 0) d (hS w hw') hu hd hi]⟩
theorem s8 (x : Ng) (W : World) : (Instr.box 43 (.agg x.cells.toArray)).run Tryz.prog W = .ok (.pointer (some ⟨W.heap.size, 0, none⟩)) (W.alloc (.cells x.cells.toArray 43)) := by kernel_rfl
theorem E8 (x : Ng) : (Tryz.prog.info? 43).map (·.size) = some x.cells.toArray.size := a3d
theorem V6 (x : Ng) : x.cells.toArray.all (·.oneCell') = true := by simp [Ng.cells, adg, Value.oneCell']
theorem a7c (x : Ng) : (k8 x).map bv = [adg x 0, adg x 1, adg x 2, adg x 3, adg x 4, adg x 5, adg x 6, adg x 7, adg x 8, adg x 9, adg x 10, adg x 11, adg x 12, adg x 13, adg x 14, adg x 15] := rfl
def NB (w : World) (B : Nat) (x : Ng) : Prop := VAt w B 43 x.cells.toArray
section
variable {w w' : World} {B : Nat} {x : Ng}
theorem NB.vat (h : NB w B x) : VAt w B 43 x.cells.toArray := h
theorem NB.kept (h : NB w B x) (K : w.grownBy w' none) : NB w' B x := VAt.kept h K
theorem NB.kind (h : NB w B x) : w.cell? ⟨B, 0, none⟩ = some (.int .i64 x.kind) := VAt.cell h 0
theorem NB.op (h : NB w B x) : w.cell? ⟨B, 1, none⟩ = some (.int .i64 x.op) := VAt.cell h 1
theorem NB.n (h : NB w B x) : w.cell? ⟨B, 2, none⟩ = some (.int .u32 (x.n : Int)) := VAt.cell h 2
theorem NB.m (h : NB w B x) : w.cell? ⟨B, 3, none⟩ = some (.int .u32 (x.m : Int)) := VAt.cell h 3
theorem NB.size (h : NB w B x) : w.cell? ⟨B, 4, none⟩ = some (.int .i64 x.size) := VAt.cell h 4
theorem NB.of (h : NB w B x) : w.cell? ⟨B, 5, none⟩ = some (.int .i64 x.of) := VAt.cell h 5
theorem NB.side (h : NB w B x) : w.cell? ⟨B, 6, none⟩ = some (.int .i64 x.side) := VAt.cell h 6
theorem NB.bits (h : NB w B x) : w.cell? ⟨B, 23, none⟩ = some (.int .i64 x.bits) := VAt.cell h 23
theorem NB.addr (h : NB w B x) : w.rangeAt B 7 ((k8 x).map bv) := by
 intro j v hv
 rw [VAt.cell h (7 + j)]
 have hj : j < 16 := (List.getElem?_eq_some_iff.1 hv).1
 have : j = 0 ∨ j = 1 ∨ j = 2 ∨ j = 3 ∨ j = 4 ∨ j = 5 ∨ j = 6 ∨ j = 7 ∨ j = 8 ∨ j = 9 ∨ j = 10 ∨ j = 11 ∨ j = 12 ∨ j = 13 ∨ j = 14 ∨ j = 15 := by omega
 rcases this with rfl | rfl | rfl | rfl | rfl | rfl | rfl | rfl | rfl | rfl | rfl | rfl | rfl | rfl | rfl | rfl <;> exact hv
theorem NB.alloc (w : World) (x : Ng) : NB (w.alloc (.cells x.cells.toArray 43)) w.heap.size x := VAt.alloc _ _ _
end
def ngZ : Ng := ⟨0, 0, 0, 0, 0, 0, 0, j1 16, 0⟩
theorem a4N (x : Ng) : (Tryz.prog.info? 41).map (·.size) = some ((k8 x).map bv).length := by kernel_rfl
theorem a1n (w : World) (x : Ng) : NB ((w.alloc (.cells x.cells.toArray 43)).alloc (.cells ngZ.cells.toArray 43)) w.heap.size x ∧ NB ((w.alloc (.cells x.cells.toArray 43)).alloc (.cells ngZ.cells.toArray 43)) (w.heap.size + 1) ngZ ∧ w.grownBy ((w.alloc (.cells x.cells.toArray 43)).alloc (.cells ngZ.cells.toArray 43)) none := by
 have K := World.grownBy_alloc (w.alloc (.cells x.cells.toArray 43)) (.cells ngZ.cells.toArray 43) none
 have h := NB.alloc (w.alloc (.cells x.cells.toArray 43)) ngZ
 rw [show (w.alloc (.cells x.cells.toArray 43)).heap.size = w.heap.size + 1 by simp] at h
 exact ⟨(NB.alloc w x).kept K, h, d3 (World.grownBy_alloc w _ none) K⟩
theorem a3R (x : Ng) (w : World) (h : x.kind = 2 ∨ x.kind = 5 ∨ x.kind = 7 ∨ x.kind = 8 ∨ x.kind = 9) : Calls Tryz.prog 52 #[.agg x.cells.toArray] w fun e w' => e = .returned (.agg (D0 x).cells.toArray) ∧ w.grownBy w' none := by
 have hu : D0 x = (⟨x.kind, 0, 0, 0, 0, 0, 0, j1 16, 0⟩ : Ng) := by
  unfold D0
  repeat' split
  all_goals first | rfl | omega
 rw [hu]
 clear hu h
 have HBX := s8 x
 obtain ⟨h1, h2, h3⟩ := a1n w x
 have HZ : Hid ((Tryz.prog.info? 43).map (·.size) = some ((⟨x.kind, 0, 0, 0, 0, 0, 0, j1 16, 0⟩ : Ng)).cells.toArray.size ∧ ngZ.cells.toArray.size = ((⟨x.kind, 0, 0, 0, 0, 0, 0, j1 16, 0⟩ : Ng)).cells.toArray.size ∧ ((⟨x.kind, 0, 0, 0, 0, 0, 0, j1 16, 0⟩ : Ng)).cells.toArray.all (·.oneCell') = true) := ⟨E8 _, rfl, V6 _⟩
 have c0 := h1.kind
 obtain ⟨X, hX⟩ : ∃ X, x.cells.toArray = X := ⟨_, rfl⟩
 rw [hX] at HBX ⊢
 go_enter Tryz.func52, Tryz.ntmps52
 go_upto_region 1 with fail
 rw [← hX] at *
 rw [show #[.int .i64 0, .int .i64 0, .int .u32 0, .int .u32 0, .int .i64 0, .int .i64 0, .int .i64 0, .int .u8 0, .int .u8 0, .int .u8 0, .int .u8 0, .int .u8 0, .int .u8 0, .int .u8 0, .int .u8 0, .int .u8 0, .int .u8 0, .int .u8 0, .int .u8 0, .int .u8 0, .int .u8 0, .int .u8 0, .int .u8 0, .int .i64 0] = ngZ.cells.toArray from rfl]
 generalize (w.alloc (.cells x.cells.toArray 43)).alloc (.cells ngZ.cells.toArray 43) = w2 at *
 obtain ⟨R, hR⟩ : ∃ R, w.heap.size + 1 = R := ⟨_, rfl⟩
 have HG : Hid (w.grownBy (w2.setRow R ((⟨x.kind, 0, 0, 0, 0, 0, 0, j1 16, 0⟩ : Ng)).cells.toArray) none) := x5 h3 R _ (.inr (by omega))
 rw [hR] at h2 ⊢
 have V2 := h2.vat
 have HV : Hid (VAt w2 R 43 ngZ.cells.toArray) := V2
 clear h1 h2 hR HBX hX X h3
 generalize w.heap.size = B at *
 go_wp2_with (refine wpList_store_row rfl 43 (.tmp 2) (.tmp 5) rfl R ((⟨x.kind, 0, 0, 0, 0, 0, 0, j1 16, 0⟩ : Ng)).cells.toArray rfl rfl 43 _ V2 HZ.out.1 HZ.out.2.1 HZ.out.2.2 ?_)
 refine bodyPost_ret (results_cell_row rfl _ _ R 43 _ (0, 0) _ rfl (HV.out.setRow _) Tryz.underlying43 rfl HZ.out.1) rfl ?_
 exact ⟨rfl, HG.out⟩
theorem ac9 (x : Ng) (w : World) (h : x.kind = 1 ∨ x.kind = 12) : Calls Tryz.prog 48 #[.agg x.cells.toArray] w fun e w' => e = .returned (.agg (D0 x).cells.toArray) ∧ w.grownBy w' none := by
 have hu : D0 x = (⟨x.kind, 0, x.n, 0, 0, 0, 0, j1 16, 0⟩ : Ng) := by
  unfold D0
  repeat' split
  all_goals first | rfl | omega
 rw [hu]
 clear hu h
 have HBX := s8 x
 obtain ⟨h1, h2, h3⟩ := a1n w x
 have HZ : Hid ((Tryz.prog.info? 43).map (·.size) = some ((⟨x.kind, 0, x.n, 0, 0, 0, 0, j1 16, 0⟩ : Ng)).cells.toArray.size ∧ ngZ.cells.toArray.size = ((⟨x.kind, 0, x.n, 0, 0, 0, 0, j1 16, 0⟩ : Ng)).cells.toArray.size ∧ ((⟨x.kind, 0, x.n, 0, 0, 0, 0, j1 16, 0⟩ : Ng)).cells.toArray.all (·.oneCell') = true) := ⟨E8 _, rfl, V6 _⟩
 have c0 := h1.kind
 have c2 := h1.n
 obtain ⟨X, hX⟩ : ∃ X, x.cells.toArray = X := ⟨_, rfl⟩
 rw [hX] at HBX ⊢
 go_enter Tryz.func48, Tryz.ntmps48
 go_upto_region 1 with fail
 rw [← hX] at *
 rw [show #[.int .i64 0, .int .i64 0, .int .u32 0, .int .u32 0, .int .i64 0, .int .i64 0, .int .i64 0, .int .u8 0, .int .u8 0, .int .u8 0, .int .u8 0, .int .u8 0, .int .u8 0, .int .u8 0, .int .u8 0, .int .u8 0, .int .u8 0, .int .u8 0, .int .u8 0, .int .u8 0, .int .u8 0, .int .u8 0, .int .u8 0, .int .i64 0] = ngZ.cells.toArray from rfl]
 generalize (w.alloc (.cells x.cells.toArray 43)).alloc (.cells ngZ.cells.toArray 43) = w2 at *
 obtain ⟨R, hR⟩ : ∃ R, w.heap.size + 1 = R := ⟨_, rfl⟩
 have HG : Hid (w.grownBy (w2.setRow R ((⟨x.kind, 0, x.n, 0, 0, 0, 0, j1 16, 0⟩ : Ng)).cells.toArray) none) := x5 h3 R _ (.inr (by omega))
 rw [hR] at h2 ⊢
 have V2 := h2.vat
 have HV : Hid (VAt w2 R 43 ngZ.cells.toArray) := V2
 clear h1 h2 hR HBX hX X h3
 generalize w.heap.size = B at *
 go_wp2_with (refine wpList_store_row rfl 43 (.tmp 2) (.tmp 7) rfl R ((⟨x.kind, 0, x.n, 0, 0, 0, 0, j1 16, 0⟩ : Ng)).cells.toArray rfl rfl 43 _ V2 HZ.out.1 HZ.out.2.1 HZ.out.2.2 ?_)
 refine bodyPost_ret (results_cell_row rfl _ _ R 43 _ (0, 0) _ rfl (HV.out.setRow _) Tryz.underlying43 rfl HZ.out.1) rfl ?_
 exact ⟨rfl, HG.out⟩
theorem ad0 (x : Ng) (w : World) (h : x.kind = 4 ∨ x.kind = 6) : Calls Tryz.prog 57 #[.agg x.cells.toArray] w fun e w' => e = .returned (.agg (D0 x).cells.toArray) ∧ w.grownBy w' none := by
 have hu : D0 x = (⟨x.kind, x.op, 0, 0, 0, 0, 0, j1 16, 0⟩ : Ng) := by
  unfold D0
  repeat' split
  all_goals first | rfl | omega
 rw [hu]
 clear hu h
 have HBX := s8 x
 obtain ⟨h1, h2, h3⟩ := a1n w x
 have HZ : Hid ((Tryz.prog.info? 43).map (·.size) = some ((⟨x.kind, x.op, 0, 0, 0, 0, 0, j1 16, 0⟩ : Ng)).cells.toArray.size ∧ ngZ.cells.toArray.size = ((⟨x.kind, x.op, 0, 0, 0, 0, 0, j1 16, 0⟩ : Ng)).cells.toArray.size ∧ ((⟨x.kind, x.op, 0, 0, 0, 0, 0, j1 16, 0⟩ : Ng)).cells.toArray.all (·.oneCell') = true) := ⟨E8 _, rfl, V6 _⟩
 have c0 := h1.kind
 have c1 := h1.op
 obtain ⟨X, hX⟩ : ∃ X, x.cells.toArray = X := ⟨_, rfl⟩
 rw [hX] at HBX ⊢
 go_enter Tryz.func57, Tryz.ntmps57
 go_upto_region 1 with fail
 rw [← hX] at *
 rw [show #[.int .i64 0, .int .i64 0, .int .u32 0, .int .u32 0, .int .i64 0, .int .i64 0, .int .i64 0, .int .u8 0, .int .u8 0, .int .u8 0, .int .u8 0, .int .u8 0, .int .u8 0, .int .u8 0, .int .u8 0, .int .u8 0, .int .u8 0, .int .u8 0, .int .u8 0, .int .u8 0, .int .u8 0, .int .u8 0, .int .u8 0, .int .i64 0] = ngZ.cells.toArray from rfl]
 generalize (w.alloc (.cells x.cells.toArray 43)).alloc (.cells ngZ.cells.toArray 43) = w2 at *
 obtain ⟨R, hR⟩ : ∃ R, w.heap.size + 1 = R := ⟨_, rfl⟩
 have HG : Hid (w.grownBy (w2.setRow R ((⟨x.kind, x.op, 0, 0, 0, 0, 0, j1 16, 0⟩ : Ng)).cells.toArray) none) := x5 h3 R _ (.inr (by omega))
 rw [hR] at h2 ⊢
 have V2 := h2.vat
 have HV : Hid (VAt w2 R 43 ngZ.cells.toArray) := V2
 clear h1 h2 hR HBX hX X h3
 generalize w.heap.size = B at *
 go_wp2_with (refine wpList_store_row rfl 43 (.tmp 2) (.tmp 7) rfl R ((⟨x.kind, x.op, 0, 0, 0, 0, 0, j1 16, 0⟩ : Ng)).cells.toArray rfl rfl 43 _ V2 HZ.out.1 HZ.out.2.1 HZ.out.2.2 ?_)
 refine bodyPost_ret (results_cell_row rfl _ _ R 43 _ (0, 0) _ rfl (HV.out.setRow _) Tryz.underlying43 rfl HZ.out.1) rfl ?_
 exact ⟨rfl, HG.out⟩
theorem b01 (x : Ng) (w : World) (h : x.kind = 11) : Calls Tryz.prog 64 #[.agg x.cells.toArray] w fun e w' => e = .returned (.agg (D0 x).cells.toArray) ∧ w.grownBy w' none := by
 have hu : D0 x = (⟨x.kind, 0, 0, 0, 0, x.of, 0, j1 16, 0⟩ : Ng) := by
  unfold D0
  repeat' split
  all_goals first | rfl | omega
 rw [hu]
 clear hu h
 have HBX := s8 x
 obtain ⟨h1, h2, h3⟩ := a1n w x
 have HZ : Hid ((Tryz.prog.info? 43).map (·.size) = some ((⟨x.kind, 0, 0, 0, 0, x.of, 0, j1 16, 0⟩ : Ng)).cells.toArray.size ∧ ngZ.cells.toArray.size = ((⟨x.kind, 0, 0, 0, 0, x.of, 0, j1 16, 0⟩ : Ng)).cells.toArray.size ∧ ((⟨x.kind, 0, 0, 0, 0, x.of, 0, j1 16, 0⟩ : Ng)).cells.toArray.all (·.oneCell') = true) := ⟨E8 _, rfl, V6 _⟩
 have c0 := h1.kind
 have c5 := h1.of
 obtain ⟨X, hX⟩ : ∃ X, x.cells.toArray = X := ⟨_, rfl⟩
 rw [hX] at HBX ⊢
 go_enter Tryz.func64, Tryz.ntmps64
 go_upto_region 1 with fail
 rw [← hX] at *
 rw [show #[.int .i64 0, .int .i64 0, .int .u32 0, .int .u32 0, .int .i64 0, .int .i64 0, .int .i64 0, .int .u8 0, .int .u8 0, .int .u8 0, .int .u8 0, .int .u8 0, .int .u8 0, .int .u8 0, .int .u8 0, .int .u8 0, .int .u8 0, .int .u8 0, .int .u8 0, .int .u8 0, .int .u8 0, .int .u8 0, .int .u8 0, .int .i64 0] = ngZ.cells.toArray from rfl]
 generalize (w.alloc (.cells x.cells.toArray 43)).alloc (.cells ngZ.cells.toArray 43) = w2 at *
 obtain ⟨R, hR⟩ : ∃ R, w.heap.size + 1 = R := ⟨_, rfl⟩
 have HG : Hid (w.grownBy (w2.setRow R ((⟨x.kind, 0, 0, 0, 0, x.of, 0, j1 16, 0⟩ : Ng)).cells.toArray) none) := x5 h3 R _ (.inr (by omega))
 rw [hR] at h2 ⊢
 have V2 := h2.vat
 have HV : Hid (VAt w2 R 43 ngZ.cells.toArray) := V2
 clear h1 h2 hR HBX hX X h3
 generalize w.heap.size = B at *
 go_wp2_with (refine wpList_store_row rfl 43 (.tmp 2) (.tmp 7) rfl R ((⟨x.kind, 0, 0, 0, 0, x.of, 0, j1 16, 0⟩ : Ng)).cells.toArray rfl rfl 43 _ V2 HZ.out.1 HZ.out.2.1 HZ.out.2.2 ?_)
 refine bodyPost_ret (results_cell_row rfl _ _ R 43 _ (0, 0) _ rfl (HV.out.setRow _) Tryz.underlying43 rfl HZ.out.1) rfl ?_
 exact ⟨rfl, HG.out⟩
theorem b03 (x : Ng) (w : World) (h : x.kind = 10) : Calls Tryz.prog 62 #[.agg x.cells.toArray] w fun e w' => e = .returned (.agg (D0 x).cells.toArray) ∧ w.grownBy w' none := by
 have hu : D0 x = (⟨x.kind, 0, 0, 0, 0, 0, x.side, j1 16, 0⟩ : Ng) := by
  unfold D0
  repeat' split
  all_goals first | rfl | omega
 rw [hu]
 clear hu h
 have HBX := s8 x
 obtain ⟨h1, h2, h3⟩ := a1n w x
 have HZ : Hid ((Tryz.prog.info? 43).map (·.size) = some ((⟨x.kind, 0, 0, 0, 0, 0, x.side, j1 16, 0⟩ : Ng)).cells.toArray.size ∧ ngZ.cells.toArray.size = ((⟨x.kind, 0, 0, 0, 0, 0, x.side, j1 16, 0⟩ : Ng)).cells.toArray.size ∧ ((⟨x.kind, 0, 0, 0, 0, 0, x.side, j1 16, 0⟩ : Ng)).cells.toArray.all (·.oneCell') = true) := ⟨E8 _, rfl, V6 _⟩
 have c0 := h1.kind
 have c6 := h1.side
 obtain ⟨X, hX⟩ : ∃ X, x.cells.toArray = X := ⟨_, rfl⟩
 rw [hX] at HBX ⊢
 go_enter Tryz.func62, Tryz.ntmps62
 go_upto_region 1 with fail
 rw [← hX] at *
 rw [show #[.int .i64 0, .int .i64 0, .int .u32 0, .int .u32 0, .int .i64 0, .int .i64 0, .int .i64 0, .int .u8 0, .int .u8 0, .int .u8 0, .int .u8 0, .int .u8 0, .int .u8 0, .int .u8 0, .int .u8 0, .int .u8 0, .int .u8 0, .int .u8 0, .int .u8 0, .int .u8 0, .int .u8 0, .int .u8 0, .int .u8 0, .int .i64 0] = ngZ.cells.toArray from rfl]
 generalize (w.alloc (.cells x.cells.toArray 43)).alloc (.cells ngZ.cells.toArray 43) = w2 at *
 obtain ⟨R, hR⟩ : ∃ R, w.heap.size + 1 = R := ⟨_, rfl⟩
 have HG : Hid (w.grownBy (w2.setRow R ((⟨x.kind, 0, 0, 0, 0, 0, x.side, j1 16, 0⟩ : Ng)).cells.toArray) none) := x5 h3 R _ (.inr (by omega))
 rw [hR] at h2 ⊢
 have V2 := h2.vat
 have HV : Hid (VAt w2 R 43 ngZ.cells.toArray) := V2
 clear h1 h2 hR HBX hX X h3
 generalize w.heap.size = B at *
 go_wp2_with (refine wpList_store_row rfl 43 (.tmp 2) (.tmp 7) rfl R ((⟨x.kind, 0, 0, 0, 0, 0, x.side, j1 16, 0⟩ : Ng)).cells.toArray rfl rfl 43 _ V2 HZ.out.1 HZ.out.2.1 HZ.out.2.2 ?_)
 refine bodyPost_ret (results_cell_row rfl _ _ R 43 _ (0, 0) _ rfl (HV.out.setRow _) Tryz.underlying43 rfl HZ.out.1) rfl ?_
 exact ⟨rfl, HG.out⟩
theorem aZ9 (x : Ng) (w : World) (h : x.kind = 13) : Calls Tryz.prog 67 #[.agg x.cells.toArray] w fun e w' => e = .returned (.agg (D0 x).cells.toArray) ∧ w.grownBy w' none := by
 have hu : D0 x = (⟨x.kind, 0, x.n, 0, 0, x.of, 0, j1 16, 0⟩ : Ng) := by
  unfold D0
  repeat' split
  all_goals first | rfl | omega
 rw [hu]
 clear hu h
 have HBX := s8 x
 obtain ⟨h1, h2, h3⟩ := a1n w x
 have HZ : Hid ((Tryz.prog.info? 43).map (·.size) = some ((⟨x.kind, 0, x.n, 0, 0, x.of, 0, j1 16, 0⟩ : Ng)).cells.toArray.size ∧ ngZ.cells.toArray.size = ((⟨x.kind, 0, x.n, 0, 0, x.of, 0, j1 16, 0⟩ : Ng)).cells.toArray.size ∧ ((⟨x.kind, 0, x.n, 0, 0, x.of, 0, j1 16, 0⟩ : Ng)).cells.toArray.all (·.oneCell') = true) := ⟨E8 _, rfl, V6 _⟩
 have c0 := h1.kind
 have c5 := h1.of
 have c2 := h1.n
 obtain ⟨X, hX⟩ : ∃ X, x.cells.toArray = X := ⟨_, rfl⟩
 rw [hX] at HBX ⊢
 go_enter Tryz.func67, Tryz.ntmps67
 go_upto_region 1 with fail
 rw [← hX] at *
 rw [show #[.int .i64 0, .int .i64 0, .int .u32 0, .int .u32 0, .int .i64 0, .int .i64 0, .int .i64 0, .int .u8 0, .int .u8 0, .int .u8 0, .int .u8 0, .int .u8 0, .int .u8 0, .int .u8 0, .int .u8 0, .int .u8 0, .int .u8 0, .int .u8 0, .int .u8 0, .int .u8 0, .int .u8 0, .int .u8 0, .int .u8 0, .int .i64 0] = ngZ.cells.toArray from rfl]
 generalize (w.alloc (.cells x.cells.toArray 43)).alloc (.cells ngZ.cells.toArray 43) = w2 at *
 obtain ⟨R, hR⟩ : ∃ R, w.heap.size + 1 = R := ⟨_, rfl⟩
 have HG : Hid (w.grownBy (w2.setRow R ((⟨x.kind, 0, x.n, 0, 0, x.of, 0, j1 16, 0⟩ : Ng)).cells.toArray) none) := x5 h3 R _ (.inr (by omega))
 rw [hR] at h2 ⊢
 have V2 := h2.vat
 have HV : Hid (VAt w2 R 43 ngZ.cells.toArray) := V2
 clear h1 h2 hR HBX hX X h3
 generalize w.heap.size = B at *
 go_wp2_with (refine wpList_store_row rfl 43 (.tmp 2) (.tmp 9) rfl R ((⟨x.kind, 0, x.n, 0, 0, x.of, 0, j1 16, 0⟩ : Ng)).cells.toArray rfl rfl 43 _ V2 HZ.out.1 HZ.out.2.1 HZ.out.2.2 ?_)
 refine bodyPost_ret (results_cell_row rfl _ _ R 43 _ (0, 0) _ rfl (HV.out.setRow _) Tryz.underlying43 rfl HZ.out.1) rfl ?_
 exact ⟨rfl, HG.out⟩
theorem b00 (x : Ng) (w : World) (h : x.kind = 3) : Calls Tryz.prog 54 #[.agg x.cells.toArray] w fun e w' => e = .returned (.agg (D0 x).cells.toArray) ∧ w.grownBy w' none := by
 have hu : D0 x = (⟨x.kind, 0, 0, 0, x.size, x.of, 0, j1 16, 0⟩ : Ng) := by
  unfold D0
  repeat' split
  all_goals first | rfl | omega
 rw [hu]
 clear hu h
 have HBX := s8 x
 obtain ⟨h1, h2, h3⟩ := a1n w x
 have HZ : Hid ((Tryz.prog.info? 43).map (·.size) = some ((⟨x.kind, 0, 0, 0, x.size, x.of, 0, j1 16, 0⟩ : Ng)).cells.toArray.size ∧ ngZ.cells.toArray.size = ((⟨x.kind, 0, 0, 0, x.size, x.of, 0, j1 16, 0⟩ : Ng)).cells.toArray.size ∧ ((⟨x.kind, 0, 0, 0, x.size, x.of, 0, j1 16, 0⟩ : Ng)).cells.toArray.all (·.oneCell') = true) := ⟨E8 _, rfl, V6 _⟩
 have c0 := h1.kind
 have c5 := h1.of
 have c4 := h1.size
 obtain ⟨X, hX⟩ : ∃ X, x.cells.toArray = X := ⟨_, rfl⟩
 rw [hX] at HBX ⊢
 go_enter Tryz.func54, Tryz.ntmps54
 go_upto_region 1 with fail
 rw [← hX] at *
 rw [show #[.int .i64 0, .int .i64 0, .int .u32 0, .int .u32 0, .int .i64 0, .int .i64 0, .int .i64 0, .int .u8 0, .int .u8 0, .int .u8 0, .int .u8 0, .int .u8 0, .int .u8 0, .int .u8 0, .int .u8 0, .int .u8 0, .int .u8 0, .int .u8 0, .int .u8 0, .int .u8 0, .int .u8 0, .int .u8 0, .int .u8 0, .int .i64 0] = ngZ.cells.toArray from rfl]
 generalize (w.alloc (.cells x.cells.toArray 43)).alloc (.cells ngZ.cells.toArray 43) = w2 at *
 obtain ⟨R, hR⟩ : ∃ R, w.heap.size + 1 = R := ⟨_, rfl⟩
 have HG : Hid (w.grownBy (w2.setRow R ((⟨x.kind, 0, 0, 0, x.size, x.of, 0, j1 16, 0⟩ : Ng)).cells.toArray) none) := x5 h3 R _ (.inr (by omega))
 rw [hR] at h2 ⊢
 have V2 := h2.vat
 have HV : Hid (VAt w2 R 43 ngZ.cells.toArray) := V2
 clear h1 h2 hR HBX hX X h3
 generalize w.heap.size = B at *
 go_wp2_with (refine wpList_store_row rfl 43 (.tmp 2) (.tmp 9) rfl R ((⟨x.kind, 0, 0, 0, x.size, x.of, 0, j1 16, 0⟩ : Ng)).cells.toArray rfl rfl 43 _ V2 HZ.out.1 HZ.out.2.1 HZ.out.2.2 ?_)
 refine bodyPost_ret (results_cell_row rfl _ _ R 43 _ (0, 0) _ rfl (HV.out.setRow _) Tryz.underlying43 rfl HZ.out.1) rfl ?_
 exact ⟨rfl, HG.out⟩
theorem aZ7 (x : Ng) (w : World) (h : x.kind = 14) : Calls Tryz.prog 71 #[.agg x.cells.toArray] w fun e w' => e = .returned (.agg (D0 x).cells.toArray) ∧ w.grownBy w' none := by
 have hu : D0 x = (⟨x.kind, 0, 0, 0, 0, x.of, x.side, x.addr, 0⟩ : Ng) := by
  unfold D0
  repeat' split
  all_goals first | rfl | omega
 rw [hu]
 clear hu h
 have HBX := s8 x
 obtain ⟨h1, h2, h3⟩ := a1n w x
 have HZ : Hid ((Tryz.prog.info? 43).map (·.size) = some ((⟨x.kind, 0, 0, 0, 0, x.of, x.side, x.addr, 0⟩ : Ng)).cells.toArray.size ∧ ngZ.cells.toArray.size = ((⟨x.kind, 0, 0, 0, 0, x.of, x.side, x.addr, 0⟩ : Ng)).cells.toArray.size ∧ ((⟨x.kind, 0, 0, 0, 0, x.of, x.side, x.addr, 0⟩ : Ng)).cells.toArray.all (·.oneCell') = true) := ⟨E8 _, rfl, V6 _⟩
 have c0 := h1.kind
 have c5 := h1.of
 have c6 := h1.side
 have HA : Hid (World.rangeAt _ _ 7 ((k8 x).map bv)) := h1.addr
 have HS : Hid ((Tryz.prog.info? 41).map (·.size) = some ((k8 x).map bv).length) := a4N x
 obtain ⟨X, hX⟩ : ∃ X, x.cells.toArray = X := ⟨_, rfl⟩
 rw [hX] at HBX ⊢
 rw [a7c] at HA HS
 go_enter Tryz.func71, Tryz.ntmps71
 go_upto_region 1 with fail
 rw [← hX] at *
 rw [show #[.int .i64 0, .int .i64 0, .int .u32 0, .int .u32 0, .int .i64 0, .int .i64 0, .int .i64 0, .int .u8 0, .int .u8 0, .int .u8 0, .int .u8 0, .int .u8 0, .int .u8 0, .int .u8 0, .int .u8 0, .int .u8 0, .int .u8 0, .int .u8 0, .int .u8 0, .int .u8 0, .int .u8 0, .int .u8 0, .int .u8 0, .int .i64 0] = ngZ.cells.toArray from rfl]
 generalize (w.alloc (.cells x.cells.toArray 43)).alloc (.cells ngZ.cells.toArray 43) = w2 at *
 obtain ⟨R, hR⟩ : ∃ R, w.heap.size + 1 = R := ⟨_, rfl⟩
 have HG : Hid (w.grownBy (w2.setRow R ((⟨x.kind, 0, 0, 0, 0, x.of, x.side, x.addr, 0⟩ : Ng)).cells.toArray) none) := x5 h3 R _ (.inr (by omega))
 rw [hR] at h2 ⊢
 have V2 := h2.vat
 have HV : Hid (VAt w2 R 43 ngZ.cells.toArray) := V2
 clear h1 h2 hR HBX hX X h3
 generalize w.heap.size = B at *
 go_wp2_with (first | refine wpList_load_mid rfl 41 (.tmp 9) rfl B 7 rfl _ _ HA.out Tryz.underlying41 rfl HS.out ?_ | refine wpList_store_row rfl 43 (.tmp 2) (.tmp 11) rfl R ((⟨x.kind, 0, 0, 0, 0, x.of, x.side, x.addr, 0⟩ : Ng)).cells.toArray rfl rfl 43 _ V2 HZ.out.1 HZ.out.2.1 HZ.out.2.2 ?_)
 refine bodyPost_ret (results_cell_row rfl _ _ R 43 _ (0, 0) _ rfl (HV.out.setRow _) Tryz.underlying43 rfl HZ.out.1) rfl ?_
 exact ⟨rfl, HG.out⟩
theorem aZ8 (x : Ng) (w : World) (h : x.kind = 15) : Calls Tryz.prog 73 #[.agg x.cells.toArray] w fun e w' => e = .returned (.agg (D0 x).cells.toArray) ∧ w.grownBy w' none := by
 have hu : D0 x = (⟨x.kind, 0, 0, 0, 0, x.of, x.side, x.addr, x.bits⟩ : Ng) := by
  unfold D0
  repeat' split
  all_goals first | rfl | omega
 rw [hu]
 clear hu h
 have HBX := s8 x
 obtain ⟨h1, h2, h3⟩ := a1n w x
 have HZ : Hid ((Tryz.prog.info? 43).map (·.size) = some ((⟨x.kind, 0, 0, 0, 0, x.of, x.side, x.addr, x.bits⟩ : Ng)).cells.toArray.size ∧ ngZ.cells.toArray.size = ((⟨x.kind, 0, 0, 0, 0, x.of, x.side, x.addr, x.bits⟩ : Ng)).cells.toArray.size ∧ ((⟨x.kind, 0, 0, 0, 0, x.of, x.side, x.addr, x.bits⟩ : Ng)).cells.toArray.all (·.oneCell') = true) := ⟨E8 _, rfl, V6 _⟩
 have c0 := h1.kind
 have c5 := h1.of
 have c6 := h1.side
 have c8 := h1.bits
 have HA : Hid (World.rangeAt _ _ 7 ((k8 x).map bv)) := h1.addr
 have HS : Hid ((Tryz.prog.info? 41).map (·.size) = some ((k8 x).map bv).length) := a4N x
 obtain ⟨X, hX⟩ : ∃ X, x.cells.toArray = X := ⟨_, rfl⟩
 rw [hX] at HBX ⊢
 rw [a7c] at HA HS
 go_enter Tryz.func73, Tryz.ntmps73
 go_upto_region 1 with fail
 rw [← hX] at *
 rw [show #[.int .i64 0, .int .i64 0, .int .u32 0, .int .u32 0, .int .i64 0, .int .i64 0, .int .i64 0, .int .u8 0, .int .u8 0, .int .u8 0, .int .u8 0, .int .u8 0, .int .u8 0, .int .u8 0, .int .u8 0, .int .u8 0, .int .u8 0, .int .u8 0, .int .u8 0, .int .u8 0, .int .u8 0, .int .u8 0, .int .u8 0, .int .i64 0] = ngZ.cells.toArray from rfl]
 generalize (w.alloc (.cells x.cells.toArray 43)).alloc (.cells ngZ.cells.toArray 43) = w2 at *
 obtain ⟨R, hR⟩ : ∃ R, w.heap.size + 1 = R := ⟨_, rfl⟩
 have HG : Hid (w.grownBy (w2.setRow R ((⟨x.kind, 0, 0, 0, 0, x.of, x.side, x.addr, x.bits⟩ : Ng)).cells.toArray) none) := x5 h3 R _ (.inr (by omega))
 rw [hR] at h2 ⊢
 have V2 := h2.vat
 have HV : Hid (VAt w2 R 43 ngZ.cells.toArray) := V2
 clear h1 h2 hR HBX hX X h3
 generalize w.heap.size = B at *
 go_wp2_with (first | refine wpList_load_mid rfl 41 (.tmp 9) rfl B 7 rfl _ _ HA.out Tryz.underlying41 rfl HS.out ?_ | refine wpList_store_row rfl 43 (.tmp 2) (.tmp 13) rfl R ((⟨x.kind, 0, 0, 0, 0, x.of, x.side, x.addr, x.bits⟩ : Ng)).cells.toArray rfl rfl 43 _ V2 HZ.out.1 HZ.out.2.1 HZ.out.2.2 ?_)
 refine bodyPost_ret (results_cell_row rfl _ _ R 43 _ (0, 0) _ rfl (HV.out.setRow _) Tryz.underlying43 rfl HZ.out.1) rfl ?_
 exact ⟨rfl, HG.out⟩
theorem b02 (x : Ng) (w : World) (h : x.kind = 16) : Calls Tryz.prog 75 #[.agg x.cells.toArray] w fun e w' => e = .returned (.agg (D0 x).cells.toArray) ∧ w.grownBy w' none := by
 have hu : D0 x = (⟨x.kind, 0, x.n, x.m, 0, x.of, x.side, j1 16, 0⟩ : Ng) := by
  unfold D0
  repeat' split
  all_goals first | rfl | omega
 rw [hu]
 clear hu h
 have HBX := s8 x
 obtain ⟨h1, h2, h3⟩ := a1n w x
 have HZ : Hid ((Tryz.prog.info? 43).map (·.size) = some ((⟨x.kind, 0, x.n, x.m, 0, x.of, x.side, j1 16, 0⟩ : Ng)).cells.toArray.size ∧ ngZ.cells.toArray.size = ((⟨x.kind, 0, x.n, x.m, 0, x.of, x.side, j1 16, 0⟩ : Ng)).cells.toArray.size ∧ ((⟨x.kind, 0, x.n, x.m, 0, x.of, x.side, j1 16, 0⟩ : Ng)).cells.toArray.all (·.oneCell') = true) := ⟨E8 _, rfl, V6 _⟩
 have c0 := h1.kind
 have c5 := h1.of
 have c6 := h1.side
 have c2 := h1.n
 have c3 := h1.m
 obtain ⟨X, hX⟩ : ∃ X, x.cells.toArray = X := ⟨_, rfl⟩
 rw [hX] at HBX ⊢
 go_enter Tryz.func75, Tryz.ntmps75
 go_upto_region 1 with fail
 rw [← hX] at *
 rw [show #[.int .i64 0, .int .i64 0, .int .u32 0, .int .u32 0, .int .i64 0, .int .i64 0, .int .i64 0, .int .u8 0, .int .u8 0, .int .u8 0, .int .u8 0, .int .u8 0, .int .u8 0, .int .u8 0, .int .u8 0, .int .u8 0, .int .u8 0, .int .u8 0, .int .u8 0, .int .u8 0, .int .u8 0, .int .u8 0, .int .u8 0, .int .i64 0] = ngZ.cells.toArray from rfl]
 generalize (w.alloc (.cells x.cells.toArray 43)).alloc (.cells ngZ.cells.toArray 43) = w2 at *
 obtain ⟨R, hR⟩ : ∃ R, w.heap.size + 1 = R := ⟨_, rfl⟩
 have HG : Hid (w.grownBy (w2.setRow R ((⟨x.kind, 0, x.n, x.m, 0, x.of, x.side, j1 16, 0⟩ : Ng)).cells.toArray) none) := x5 h3 R _ (.inr (by omega))
 rw [hR] at h2 ⊢
 have V2 := h2.vat
 have HV : Hid (VAt w2 R 43 ngZ.cells.toArray) := V2
 clear h1 h2 hR HBX hX X h3
 generalize w.heap.size = B at *
 go_wp2_with (refine wpList_store_row rfl 43 (.tmp 2) (.tmp 13) rfl R ((⟨x.kind, 0, x.n, x.m, 0, x.of, x.side, j1 16, 0⟩ : Ng)).cells.toArray rfl rfl 43 _ V2 HZ.out.1 HZ.out.2.1 HZ.out.2.2 ?_)
 refine bodyPost_ret (results_cell_row rfl _ _ R 43 _ (0, 0) _ rfl (HV.out.setRow _) Tryz.underlying43 rfl HZ.out.1) rfl ?_
 exact ⟨rfl, HG.out⟩
theorem a1D (v lo hi : Int) (w : World) : Calls Tryz.prog 107 #[.int .i64 v, .int .i64 lo, .int .i64 hi] w fun e w' => e = .returned (.bool (inG v lo hi)) ∧ w = w' := by
 unfold inG
 by_cases h1 : lo ≤ v
 ·by_cases h2 : v ≤ hi
  ·rw [decide_eq_true h1, decide_eq_true h2]
   go_enter Tryz.func107, Tryz.ntmps107
   go_wp2
   go_ret
   exact ⟨rfl, rfl⟩
  ·rw [decide_eq_true h1, decide_eq_false h2]
   go_enter Tryz.func107, Tryz.ntmps107
   go_wp2
   go_ret
   exact ⟨rfl, rfl⟩
 ·rw [decide_eq_false h1]
  go_enter Tryz.func107, Tryz.ntmps107
  go_wp2
  go_ret
  exact ⟨rfl, rfl⟩
theorem aB8 (x : Ng) (w : World) : Calls Tryz.prog 55 #[.agg x.cells.toArray] w fun e w' => e = .returned (.bool (inG x.of 1 12)) ∧ w.grownBy w' none := by
 have HBX := s8 x
 have h1 := NB.alloc w x
 have h3 := World.grownBy_alloc w (.cells x.cells.toArray 43) none
 have c5 := h1.of
 obtain ⟨X, hX⟩ : ∃ X, x.cells.toArray = X := ⟨_, rfl⟩
 rw [hX] at HBX ⊢
 go_enter Tryz.func55, Tryz.ntmps55
 go_upto_region 1 with fail
 rw [← hX] at *
 generalize w.alloc (.cells x.cells.toArray 43) = w1 at *
 generalize w.heap.size = B at *
 clear HBX hX X
 go_wp2_with fail
 refine (a1D _ _ _ _).mono ?_
 rintro e w' ⟨rfl, rfl⟩
 go_wp2
 go_ret
 exact ⟨rfl, h3⟩
theorem aC2 (x : Ng) (w : World) : Calls Tryz.prog 58 #[.agg x.cells.toArray] w fun e w' => e = .returned (.bool (inG x.op 1 10)) ∧ w.grownBy w' none := by
 have HBX := s8 x
 have h1 := NB.alloc w x
 have h3 := World.grownBy_alloc w (.cells x.cells.toArray 43) none
 have c1 := h1.op
 obtain ⟨X, hX⟩ : ∃ X, x.cells.toArray = X := ⟨_, rfl⟩
 rw [hX] at HBX ⊢
 go_enter Tryz.func58, Tryz.ntmps58
 go_upto_region 1 with fail
 rw [← hX] at *
 generalize w.alloc (.cells x.cells.toArray 43) = w1 at *
 generalize w.heap.size = B at *
 clear HBX hX X
 go_wp2_with fail
 refine (a1D _ _ _ _).mono ?_
 rintro e w' ⟨rfl, rfl⟩
 go_wp2
 go_ret
 exact ⟨rfl, h3⟩
theorem aB6 (x : Ng) (w : World) : Calls Tryz.prog 61 #[.agg x.cells.toArray] w fun e w' => e = .returned (.bool (inG x.op 1 6)) ∧ w.grownBy w' none := by
 have HBX := s8 x
 have h1 := NB.alloc w x
 have h3 := World.grownBy_alloc w (.cells x.cells.toArray 43) none
 have c1 := h1.op
 obtain ⟨X, hX⟩ : ∃ X, x.cells.toArray = X := ⟨_, rfl⟩
 rw [hX] at HBX ⊢
 go_enter Tryz.func61, Tryz.ntmps61
 go_upto_region 1 with fail
 rw [← hX] at *
 generalize w.alloc (.cells x.cells.toArray 43) = w1 at *
 generalize w.heap.size = B at *
 clear HBX hX X
 go_wp2_with fail
 refine (a1D _ _ _ _).mono ?_
 rintro e w' ⟨rfl, rfl⟩
 go_wp2
 go_ret
 exact ⟨rfl, h3⟩
theorem aB7 (x : Ng) (w : World) : Calls Tryz.prog 63 #[.agg x.cells.toArray] w fun e w' => e = .returned (.bool (inG x.side 1 2)) ∧ w.grownBy w' none := by
 have HBX := s8 x
 have h1 := NB.alloc w x
 have h3 := World.grownBy_alloc w (.cells x.cells.toArray 43) none
 have c6 := h1.side
 obtain ⟨X, hX⟩ : ∃ X, x.cells.toArray = X := ⟨_, rfl⟩
 rw [hX] at HBX ⊢
 go_enter Tryz.func63, Tryz.ntmps63
 go_upto_region 1 with fail
 rw [← hX] at *
 generalize w.alloc (.cells x.cells.toArray 43) = w1 at *
 generalize w.heap.size = B at *
 clear HBX hX X
 go_wp2_with fail
 refine (a1D _ _ _ _).mono ?_
 rintro e w' ⟨rfl, rfl⟩
 go_wp2
 go_ret
 exact ⟨rfl, h3⟩
theorem aC0 (x : Ng) (w : World) : Calls Tryz.prog 65 #[.agg x.cells.toArray] w fun e w' => e = .returned (.bool (inG x.of 2 13)) ∧ w.grownBy w' none := by
 have HBX := s8 x
 have h1 := NB.alloc w x
 have h3 := World.grownBy_alloc w (.cells x.cells.toArray 43) none
 have c5 := h1.of
 obtain ⟨X, hX⟩ : ∃ X, x.cells.toArray = X := ⟨_, rfl⟩
 rw [hX] at HBX ⊢
 go_enter Tryz.func65, Tryz.ntmps65
 go_upto_region 1 with fail
 rw [← hX] at *
 generalize w.alloc (.cells x.cells.toArray 43) = w1 at *
 generalize w.heap.size = B at *
 clear HBX hX X
 go_wp2_with fail
 refine (a1D _ _ _ _).mono ?_
 rintro e w' ⟨rfl, rfl⟩
 go_wp2
 go_ret
 exact ⟨rfl, h3⟩
theorem a90 (x : Ng) (w : World) : Calls Tryz.prog 68 #[.agg x.cells.toArray] w fun e w' => e = .returned (.bool (inG x.of 2 3)) ∧ w.grownBy w' none := by
 have HBX := s8 x
 have h1 := NB.alloc w x
 have h3 := World.grownBy_alloc w (.cells x.cells.toArray 43) none
 have c5 := h1.of
 obtain ⟨X, hX⟩ : ∃ X, x.cells.toArray = X := ⟨_, rfl⟩
 rw [hX] at HBX ⊢
 go_enter Tryz.func68, Tryz.ntmps68
 go_upto_region 1 with fail
 rw [← hX] at *
 generalize w.alloc (.cells x.cells.toArray 43) = w1 at *
 generalize w.heap.size = B at *
 clear HBX hX X
 go_wp2_with fail
 refine (a1D _ _ _ _).mono ?_
 rintro e w' ⟨rfl, rfl⟩
 go_wp2
 go_ret
 exact ⟨rfl, h3⟩
theorem a91 (x : Ng) (w : World) : Calls Tryz.prog 113 #[.agg x.cells.toArray] w fun e w' => e = .returned (.bool (inG x.side 0 2)) ∧ w.grownBy w' none := by
 have HBX := s8 x
 have h1 := NB.alloc w x
 have h3 := World.grownBy_alloc w (.cells x.cells.toArray 43) none
 have c6 := h1.side
 obtain ⟨X, hX⟩ : ∃ X, x.cells.toArray = X := ⟨_, rfl⟩
 rw [hX] at HBX ⊢
 go_enter Tryz.func113, Tryz.ntmps113
 go_upto_region 1 with fail
 rw [← hX] at *
 generalize w.alloc (.cells x.cells.toArray 43) = w1 at *
 generalize w.heap.size = B at *
 clear HBX hX X
 go_wp2_with fail
 refine (a1D _ _ _ _).mono ?_
 rintro e w' ⟨rfl, rfl⟩
 go_wp2
 go_ret
 exact ⟨rfl, h3⟩
theorem a23 (x : Ng) (w : World) : Calls Tryz.prog 49 #[.agg x.cells.toArray] w fun e w' => e = .returned (.bool true) ∧ w.grownBy w' none := by
 have HBX := s8 x
 have h1 := NB.alloc w x
 have h3 := World.grownBy_alloc w (.cells x.cells.toArray 43) none
 obtain ⟨X, hX⟩ : ∃ X, x.cells.toArray = X := ⟨_, rfl⟩
 rw [hX] at HBX ⊢
 go_enter Tryz.func49, Tryz.ntmps49
 go_upto_region 1 with fail
 rw [← hX] at *
 generalize w.alloc (.cells x.cells.toArray 43) = w1 at *
 generalize w.heap.size = B at *
 clear HBX hX X
 go_wp2
 go_ret
 exact ⟨rfl, h3⟩
theorem a18 (x : Ng) (w : World) : Calls Tryz.prog 50 #[.agg x.cells.toArray] w fun e w' => e = .returned (.int .i64 0) ∧ w.grownBy w' none := by
 have HBX := s8 x
 have h1 := NB.alloc w x
 have h3 := World.grownBy_alloc w (.cells x.cells.toArray 43) none
 obtain ⟨X, hX⟩ : ∃ X, x.cells.toArray = X := ⟨_, rfl⟩
 rw [hX] at HBX ⊢
 go_enter Tryz.func50, Tryz.ntmps50
 go_upto_region 1 with fail
 rw [← hX] at *
 generalize w.alloc (.cells x.cells.toArray 43) = w1 at *
 generalize w.heap.size = B at *
 clear HBX hX X
 go_wp2
 go_ret
 exact ⟨rfl, h3⟩
theorem a15 (b : Bool) (w : World) : Calls Tryz.prog 108 #[.bool b] w fun e w' => e = .returned (.int .i64 (if b = true then 0 else 124)) ∧ w = w' := by
 cases b with
 | true =>
  go_enter Tryz.func108, Tryz.ntmps108
  go_wp2
  go_ret
  exact ⟨rfl, rfl⟩
 | false =>
  go_enter Tryz.func108, Tryz.ntmps108
  go_wp2
  go_ret
  exact ⟨rfl, rfl⟩
theorem a55 {P : Program} {ops : Array Oper} {rest : List Oper} {o : Oper} {a : Act} {w : World} {Q : Exit → Act → World → Prop} (hw : Region.wanted o (yielded ops a.tmps) = true) (ty : TypeId) (x : Operand) (ho : o.op = .load ty x)
  (g : Nat) (hx : a.eval x = .pointer (some ⟨g, 0, none⟩)) (t : TypeId) (cs : Array Value) (fr : Nat × Nat) (d : TypeDesc) (A : w.heap[g]? = some (.cells cs t fr))
  (hu : P.underlying ty = some d) (hd : (match d with | .struct _ | .array _ _ => true | _ => false) = true) (hi : (P.info? ty).map (·.size) = some cs.size)
  (h : wpList P ops Q rest (a.put o.dst (.agg cs)) w) : wpList P ops Q (o :: rest) a w := by
 refine BigFrame.wpList_want hw fun K hK => ?_
 unfold Oper.wp execOp
 simp only [ho, hx, Instr.loadAt, Instr.sureAddr, Sem.run_bind, Sem.run_pure, Result.andThen_ok, run_loadVar_row w g t ty cs fr d A hu hd hi]
 exact hK _ _ h
theorem aj8 (x : Ng) (w : World) : Calls Tryz.prog 56 #[.agg x.cells.toArray] w fun e w' => e = .returned (.int .i64 (if x.size = 1 ∨ x.size = 2 ∨ x.size = 4 then 0 else 124)) ∧ w.grownBy w' none := by
 obtain ⟨E, hE⟩ : ∃ E : Int, (if x.size = 1 ∨ x.size = 2 ∨ x.size = 4 then 0 else 124) = E := ⟨_, rfl⟩
 rw [hE]
 have HE : Hid ((if x.size = 1 ∨ x.size = 2 ∨ x.size = 4 then 0 else 124) = E) := hE
 clear hE
 have HBX := s8 x
 have h1 := NB.alloc w x
 have h3 := World.grownBy_alloc w (.cells x.cells.toArray 43) none
 have c4 := h1.size
 obtain ⟨X, hX⟩ : ∃ X, x.cells.toArray = X := ⟨_, rfl⟩
 rw [hX] at HBX ⊢
 go_enter Tryz.func56, Tryz.ntmps56
 go_upto_region 1 with fail
 rw [← hX] at *
 generalize w.alloc (.cells x.cells.toArray 43) = w1 at *
 generalize w.heap.size = B at *
 clear HBX hX X
 by_cases q1 : x.size = 1
 ·have HQ : Hid (x.size = 1 ∨ x.size = 2 ∨ x.size = 4) := (.inl q1)
  have e1 : (x.size == 1) = true := by simpa using q1
  clear q1
  go_wp2_with fail
  refine (a15 _ _).mono ?_
  rintro e w' ⟨rfl, rfl⟩
  go_wp2
  go_ret
  exact ⟨L5 (by rw [← HE.out, if_pos HQ.out]), h3⟩
 ·have e1 : (x.size == 1) = false := by simpa using q1
  by_cases q2 : x.size = 2
  ·have HQ : Hid (x.size = 1 ∨ x.size = 2 ∨ x.size = 4) := (.inr (.inl q2))
   have e2 : (x.size == 2) = true := by simpa using q2
   clear q1 q2
   go_wp2_with fail
   refine (a15 _ _).mono ?_
   rintro e w' ⟨rfl, rfl⟩
   go_wp2
   go_ret
   exact ⟨L5 (by rw [← HE.out, if_pos HQ.out]), h3⟩
  ·have e2 : (x.size == 2) = false := by simpa using q2
   by_cases q3 : x.size = 4
   ·have HQ : Hid (x.size = 1 ∨ x.size = 2 ∨ x.size = 4) := (.inr (.inr q3))
    have e3 : (x.size == 4) = true := by simpa using q3
    clear q1 q2 q3
    go_wp2_with fail
    refine (a15 _ _).mono ?_
    rintro e w' ⟨rfl, rfl⟩
    go_wp2
    go_ret
    exact ⟨L5 (by rw [← HE.out, if_pos HQ.out]), h3⟩
   ·have HQ : Hid (¬ (x.size = 1 ∨ x.size = 2 ∨ x.size = 4)) := (fun h => by omega)
    have e3 : (x.size == 4) = false := by simpa using q3
    clear q1 q2 q3
    go_wp2_with fail
    refine (a15 _ _).mono ?_
    rintro e w' ⟨rfl, rfl⟩
    go_wp2
    go_ret
    exact ⟨L5 (by rw [← HE.out, if_neg HQ.out]), h3⟩
theorem ak2 (x : Ng) (w : World) : Calls Tryz.prog 66 #[.agg x.cells.toArray] w fun e w' => e = .returned (.int .i64 (if x.n ≤ 65535 then 0 else 124)) ∧ w.grownBy w' none := by
 obtain ⟨E, hE⟩ : ∃ E : Int, (if x.n ≤ 65535 then 0 else 124) = E := ⟨_, rfl⟩
 rw [hE]
 have HE : Hid ((if x.n ≤ 65535 then 0 else 124) = E) := hE
 clear hE
 have HBX := s8 x
 have h1 := NB.alloc w x
 have h3 := World.grownBy_alloc w (.cells x.cells.toArray 43) none
 have c2 := h1.n
 obtain ⟨X, hX⟩ : ∃ X, x.cells.toArray = X := ⟨_, rfl⟩
 rw [hX] at HBX ⊢
 go_enter Tryz.func66, Tryz.ntmps66
 go_upto_region 1 with fail
 rw [← hX] at *
 generalize w.alloc (.cells x.cells.toArray 43) = w1 at *
 generalize w.heap.size = B at *
 clear HBX hX X
 by_cases q1 : x.n ≤ 65535
 ·have HQ : Hid (x.n ≤ 65535) := q1
  have e1 : decide ((x.n : Int) ≤ 65535) = true := decide_eq_true (by omega)
  clear q1
  go_wp2_with fail
  refine (a15 _ _).mono ?_
  rintro e w' ⟨rfl, rfl⟩
  go_wp2
  go_ret
  exact ⟨L5 (by rw [← HE.out, if_pos HQ.out]), h3⟩
 ·have HQ : Hid (¬ (x.n ≤ 65535)) := q1
  have e1 : decide ((x.n : Int) ≤ 65535) = false := decide_eq_false (by omega)
  clear q1
  go_wp2_with fail
  refine (a15 _ _).mono ?_
  rintro e w' ⟨rfl, rfl⟩
  go_wp2
  go_ret
  exact ⟨L5 (by rw [← HE.out, if_neg HQ.out]), h3⟩
theorem ak0 (x : Ng) (w : World) : Calls Tryz.prog 69 #[.agg x.cells.toArray] w fun e w' => e = .returned (.int .i64 (if x.n ≤ 255 then 0 else 124)) ∧ w.grownBy w' none := by
 obtain ⟨E, hE⟩ : ∃ E : Int, (if x.n ≤ 255 then 0 else 124) = E := ⟨_, rfl⟩
 rw [hE]
 have HE : Hid ((if x.n ≤ 255 then 0 else 124) = E) := hE
 clear hE
 have HBX := s8 x
 have h1 := NB.alloc w x
 have h3 := World.grownBy_alloc w (.cells x.cells.toArray 43) none
 have c2 := h1.n
 obtain ⟨X, hX⟩ : ∃ X, x.cells.toArray = X := ⟨_, rfl⟩
 rw [hX] at HBX ⊢
 go_enter Tryz.func69, Tryz.ntmps69
 go_upto_region 1 with fail
 rw [← hX] at *
 generalize w.alloc (.cells x.cells.toArray 43) = w1 at *
 generalize w.heap.size = B at *
 clear HBX hX X
 by_cases q1 : x.n ≤ 255
 ·have HQ : Hid (x.n ≤ 255) := q1
  have e1 : decide ((x.n : Int) ≤ 255) = true := decide_eq_true (by omega)
  clear q1
  go_wp2_with fail
  refine (a15 _ _).mono ?_
  rintro e w' ⟨rfl, rfl⟩
  go_wp2
  go_ret
  exact ⟨L5 (by rw [← HE.out, if_pos HQ.out]), h3⟩
 ·have HQ : Hid (¬ (x.n ≤ 255)) := q1
  have e1 : decide ((x.n : Int) ≤ 255) = false := decide_eq_false (by omega)
  clear q1
  go_wp2_with fail
  refine (a15 _ _).mono ?_
  rintro e w' ⟨rfl, rfl⟩
  go_wp2
  go_ret
  exact ⟨L5 (by rw [← HE.out, if_neg HQ.out]), h3⟩
theorem ak1 (x : Ng) (w : World) : Calls Tryz.prog 77 #[.agg x.cells.toArray] w fun e w' => e = .returned (.int .i64 (if x.n ≤ x.m ∧ x.m ≤ 65535 then 0 else 124)) ∧ w.grownBy w' none := by
 obtain ⟨E, hE⟩ : ∃ E : Int, (if x.n ≤ x.m ∧ x.m ≤ 65535 then 0 else 124) = E := ⟨_, rfl⟩
 rw [hE]
 have HE : Hid ((if x.n ≤ x.m ∧ x.m ≤ 65535 then 0 else 124) = E) := hE
 clear hE
 have HBX := s8 x
 have h1 := NB.alloc w x
 have h3 := World.grownBy_alloc w (.cells x.cells.toArray 43) none
 have c2 := h1.n
 have c3 := h1.m
 obtain ⟨X, hX⟩ : ∃ X, x.cells.toArray = X := ⟨_, rfl⟩
 rw [hX] at HBX ⊢
 go_enter Tryz.func77, Tryz.ntmps77
 go_upto_region 1 with fail
 rw [← hX] at *
 generalize w.alloc (.cells x.cells.toArray 43) = w1 at *
 generalize w.heap.size = B at *
 clear HBX hX X
 by_cases q1 : x.n ≤ x.m
 ·have e1 : decide (x.n ≤ x.m) = true := decide_eq_true q1
  by_cases q2 : x.m ≤ 65535
  ·have HQ : Hid (x.n ≤ x.m ∧ x.m ≤ 65535) := ⟨q1, q2⟩
   have e2 : decide ((x.m : Int) ≤ 65535) = true := decide_eq_true (by omega)
   clear q1 q2
   go_wp2_with fail
   refine (a15 _ _).mono ?_
   rintro e w' ⟨rfl, rfl⟩
   go_wp2
   go_ret
   exact ⟨L5 (by rw [← HE.out, if_pos HQ.out]), h3⟩
  ·have HQ : Hid (¬ (x.n ≤ x.m ∧ x.m ≤ 65535)) := (fun h => q2 h.2)
   have e2 : decide ((x.m : Int) ≤ 65535) = false := decide_eq_false (by omega)
   clear q1 q2
   go_wp2_with fail
   refine (a15 _ _).mono ?_
   rintro e w' ⟨rfl, rfl⟩
   go_wp2
   go_ret
   exact ⟨L5 (by rw [← HE.out, if_neg HQ.out]), h3⟩
 ·have HQ : Hid (¬ (x.n ≤ x.m ∧ x.m ≤ 65535)) := (fun h => q1 h.1)
  have e1 : decide (x.n ≤ x.m) = false := decide_eq_false q1
  clear q1
  go_wp2_with fail
  refine (a15 _ _).mono ?_
  rintro e w' ⟨rfl, rfl⟩
  go_wp2
  go_ret
  exact ⟨L5 (by rw [← HE.out, if_neg HQ.out]), h3⟩
theorem aC1 (x : Ng) (w : World) : Calls Tryz.prog 76 #[.agg x.cells.toArray] w fun e w' => e = .returned (.bool ((x.of == 0 || inG x.of 4 5) && inG x.side 0 2)) ∧ w.grownBy w' none := by
 obtain ⟨E, hE⟩ : ∃ E : Bool, ((x.of == 0 || inG x.of 4 5) && inG x.side 0 2) = E := ⟨_, rfl⟩
 rw [hE]
 have HE : Hid (((x.of == 0 || inG x.of 4 5) && inG x.side 0 2) = E) := hE
 clear hE
 have HBX := s8 x
 have h1 := NB.alloc w x
 have h3 := World.grownBy_alloc w (.cells x.cells.toArray 43) none
 have c5 := h1.of
 obtain ⟨X, hX⟩ : ∃ X, x.cells.toArray = X := ⟨_, rfl⟩
 rw [hX] at HBX ⊢
 go_enter Tryz.func76, Tryz.ntmps76
 go_upto_region 1 with fail
 rw [← hX] at *
 generalize w.alloc (.cells x.cells.toArray 43) = w1 at *
 generalize w.heap.size = B at *
 clear HBX hX X
 have HL : Hid (NB w1 B x) := h1
 have HS : Hid (∀ W : World, Calls Tryz.prog 113 #[.agg x.cells.toArray] W fun e w' => e = .returned (.bool (inG x.side 0 2)) ∧ W.grownBy w' none) := fun W => a91 x W
 have HZ : Hid ((Tryz.prog.info? 43).map (·.size) = some x.cells.toArray.size) := E8 x
 have LV := h1.vat
 obtain ⟨X, hX⟩ : ∃ X, x.cells.toArray = X := ⟨_, rfl⟩
 rw [hX] at HS HZ LV
 clear hX h1
 cases q1 : (x.of == 0) with
 | true =>
  have HQ1 : Hid ((x.of == 0) = true) := q1
  go_wp2_with (refine a55 (by rfl) 43 (.tmp 1) rfl B rfl 43 X (0, 0) _ LV Tryz.underlying43 rfl HZ.out ?_)
  refine (HS.out _).mono ?_
  rintro e w2 ⟨rfl, K2⟩
  have G := d3 h3 K2
  clear K2
  go_wp2
  go_ret
  exact ⟨W7 (by rw [← HE.out]; simp [HQ1.out]), G⟩
 | false =>
  have HQ1 : Hid ((x.of == 0) = false) := q1
  cases q2 : inG x.of 4 5 with
  | true =>
   have HQ2 : Hid (inG x.of 4 5 = true) := q2
   go_wp2_with fail
   refine (a1D _ _ _ _).mono ?_
   rintro e w' ⟨rfl, rfl⟩
   rw [q2]
   go_wp2_with (refine a55 (by rfl) 43 (.tmp 1) rfl B rfl 43 X (0, 0) _ LV Tryz.underlying43 rfl HZ.out ?_)
   refine (HS.out _).mono ?_
   rintro e w2 ⟨rfl, K2⟩
   have G := d3 h3 K2
   clear K2
   go_wp2
   go_ret
   exact ⟨W7 (by rw [← HE.out]; simp [HQ1.out, HQ2.out]), G⟩
  | false =>
   have HQ2 : Hid (inG x.of 4 5 = false) := q2
   go_wp2_with fail
   refine (a1D _ _ _ _).mono ?_
   rintro e w' ⟨rfl, rfl⟩
   rw [q2]
   go_wp2
   go_ret
   exact ⟨W7 (by rw [← HE.out]; simp [HQ1.out, HQ2.out]), h3⟩
def arI (k : Int) : Int := match arG k with
 | some a => (a : Int)
 | none => -1

end Go.Proofs.YtklipelnjgpnjaaGreatDoor
