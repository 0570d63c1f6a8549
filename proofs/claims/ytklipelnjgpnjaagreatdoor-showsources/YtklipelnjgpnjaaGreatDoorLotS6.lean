import Derived.Test.YtklipelnjgpnjaaGreatDoorSAb
import Derived.Test.YtklipelnjgpnjaaGreatDoorLotS2
import Derived.Test.YtklipelnjgpnjaaGreatDoorLotS1
import Derived.Test.YtklipelnjgpnjaaGreatDoorLotS3
import Derived.ChangeKeysEq
import Derived.Laws.StructEq
import Derived.Deep.MidRow
import Derived.Test.YtklipelnjgpnjaaGreatDoorLotS4
import Derived.BigQuiet
import Derived.Deep.RegionHeld
set_option maxHeartbeats 64000000
set_option maxRecDepth 100000
namespace Go.Proofs.YtklipelnjgpnjaaGreatDoor
open Go.RowKit
def I3 (c : UInt8) : Bool := c == 32 || c == 9 || c == 10 || c == 13
def a0l (c : UInt8) : Bool := decide (97 ≤ c.toNat) && decide (c.toNat ≤ 122)
def j8 (c : UInt8) : Bool := J1 c.toNat || c == 58
def t8 (c : UInt8) : Bool := D3 c || c == 46
def k6 (c : UInt8) : Bool := D3 c || a0l c
def a2v : Nat → List UInt8 → Option Nat
 | v, [] => some v
 | v, c :: r => if J1 c.toNat = true then (if 4294967295 < 16 * v + y9 c.toNat then none else a2v (16 * v + y9 c.toNat) r) else none
def a0Q (s : List UInt8) : Option Nat := if 2 < s.length ∧ s.getD 0 0 = 48 ∧ s.getD 1 0 = 120 then a2v 0 (s.drop 2) else A9 4294967295 s
def J6 : List (List UInt8) := [[60, 60], [62, 62], [60, 61], [62, 61], [61, 61], [33, 61], [38, 38], [124, 124]]
def a0R : List UInt8 := [40, 41, 91, 93, 58, 43, 45, 42, 47, 37, 38, 124, 94, 60, 62, 61, 33]
def K0 (s : List UInt8) : List UInt8 := if s.take 2 ∈ J6 then s.take 2 else if s.head?.all (a0R.contains ·) = true then s.take 1 else []
def j9 (s : List UInt8) : Except Int (Nat × List UInt8 × Nat) :=
 if 2 ≤ (s.takeWhile j8).count 58 then .ok (4, s.takeWhile j8, 0)
 else if s.head?.any D3 = true then
  (if 46 ∈ s.takeWhile t8 then .ok (3, s.takeWhile t8, 0)
  else match a0Q (s.takeWhile k6) with
   | none => .error 102
   | some n => .ok (1, s.takeWhile k6, n))
 else if s.head?.any a0l = true then .ok (2, s.takeWhile k6, 0)
 else if K0 s = [] then .error 101 else .ok (5, K0 s, 0)
structure Tk where
 kind : Nat
 pos : Nat
 text : List UInt8
 num : Nat
def a1k : Nat → Nat → List UInt8 → Except (Nat × Int) (List Tk)
 | 0, p, _ => .ok [⟨0, p, [], 0⟩]
 | _ + 1, p, [] => .ok [⟨0, p, [], 0⟩]
 | k + 1, p, c :: r =>
  if I3 c = true then a1k k (p + 1) r
  else match j9 (c :: r) with
   | .error e => .error (p, e)
   | .ok (q, t, n) => match a1k k (p + t.length) ((c :: r).drop t.length) with
    | .error e => .error e
    | .ok ts => .ok (⟨q, p, t, n⟩ :: ts)
def M9 (p : Nat) (s : List UInt8) : Except (Nat × Int) (List Tk) := a1k s.length p s
def U8 (s : List UInt8) : Except (Nat × Int) (List Tk) := if 65536 < s.length then .error (0, 100) else M9 0 s
theorem al2 {c : UInt8} (h : I3 c = true) : j8 c = false ∧ t8 c = false ∧ k6 c = false ∧ D3 c = false ∧ a0l c = false ∧ a0R.contains c = false := by
 unfold I3 at h
 simp only [Bool.or_eq_true, beq_iff_eq] at h
 rcases h with ((rfl | rfl) | rfl) | rfl <;> decide
theorem a2P {α : Type} (p : α → Bool) : ∀ (l : List α), (l.takeWhile p).length ≤ l.length
 | [] => Nat.le_refl _
 | x :: r => by
  rw [List.takeWhile_cons]
  split
  ·simp only [List.length_cons]
   exact Nat.succ_le_succ (a2P p r)
  ·simp
theorem a4d {α : Type} (p : α → Bool) (l : List α) : l.takeWhile p = l.take (l.takeWhile p).length := by
 induction l with
 | nil => rfl
 | cons x r ih =>
  rw [List.takeWhile_cons]
  split
  ·simp only [List.length_cons, List.take_succ_cons]
   rw [← ih]
  ·simp
theorem a5s {α : Type} (p : α → Bool) (l : List α) : (l.takeWhile p).takeWhile p = l.takeWhile p := by
 induction l with
 | nil => rfl
 | cons x r ih =>
  by_cases h : p x = true
  ·rw [List.takeWhile_cons_of_pos h, List.takeWhile_cons_of_pos h, ih]
  ·rw [List.takeWhile_cons_of_neg h]
   rfl
theorem ad6 {α : Type} (p : α → Bool) (t r : List α) (h : r = [] ∨ ∃ b r', r = b :: r' ∧ p b = false) : (t ++ r).takeWhile p = t.takeWhile p := by
 induction t with
 | nil =>
  rcases h with rfl | ⟨b, r', rfl, hb⟩
  ·rfl
  ·rw [List.nil_append, List.takeWhile_cons_of_neg (by rw [hb]; simp)]
   rfl
 | cons x t ih =>
  rw [List.cons_append]
  by_cases hx : p x = true
  ·rw [List.takeWhile_cons_of_pos hx, List.takeWhile_cons_of_pos hx, ih]
  ·rw [List.takeWhile_cons_of_neg hx, List.takeWhile_cons_of_neg hx]
theorem a7f {α : Type} (p : α → Bool) (l : List α) (h : ∀ x ∈ l, p x = true) : l.takeWhile p = l := by
 induction l with
 | nil => rfl
 | cons x r ih =>
  rw [List.takeWhile_cons_of_pos (h x (List.mem_cons_self ..)), ih (fun y hy => h y (List.mem_cons_of_mem _ hy))]
theorem a3z {α : Type} (p : α → Bool) (l : List α) {x : α} (h : x ∈ l.takeWhile p) : p x = true := by
 induction l with
 | nil => simp at h
 | cons y r ih =>
  by_cases hy : p y = true
  ·rw [List.takeWhile_cons_of_pos hy] at h
   rcases List.mem_cons.1 h with rfl | h
   ·exact hy
   ·exact ih h
  ·rw [List.takeWhile_cons_of_neg hy] at h
   simp at h
theorem ad7 {α : Type} (p : α → Bool) (c : α) (r : List α) (h : p c = true) : ∃ t, (c :: r).takeWhile p = c :: t := ⟨_, List.takeWhile_cons_of_pos h⟩
structure Nd where
 kind : Nat
 op : Nat
 n : Nat
 m : Nat
 size : Nat
 of : Nat
 side : Nat
 addr : List UInt8
 bits : Nat
def nd0 : Nd := ⟨0, 0, 0, 0, 0, 0, 0, List.replicate 16 0, 0⟩
def ndK (k : Nat) : Nd := { nd0 with kind := k }
abbrev Er := Nat × Int
abbrev Out := Except Er (List (Nd × Nat) × List Tk)
def d7 {α β : Type} (x : Except Er α) (f : α → Except Er β) : Except Er β := match x with
 | .error e => .error e
 | .ok y => f y
theorem D0 {α β : Type} (y : α) (f : α → Except Er β) : d7 (.ok y) f = f y := rfl
theorem ae0 {α β : Type} (e : Er) (f : α → Except Er β) : d7 (.error e : Except Er α) f = .error e := rfl
def hdT (ts : List Tk) : Tk := ts.headD ⟨0, 0, [], 0⟩
def isB (ts : List Tk) (x : List UInt8) : Bool := ((hdT ts).kind == 5 || (hdT ts).kind == 2) && (hdT ts).text == x
def E4 {α : Type} (ts : List Tk) (e : Int) : Except Er α := .error ((hdT ts).pos, if (hdT ts).kind = 0 then 110 else e)
def m9 (x : List UInt8) (ts : List Tk) : Except Er (List Tk) := if isB ts x = true then .ok ts.tail else E4 ts 111
def j7 (ts : List Tk) : Except Er (Nat × List Tk) := if (hdT ts).kind = 1 then .ok ((hdT ts).num, ts.tail) else E4 ts 111
def y0 {α : Type} (nest : Nat) (ts : List Tk) (x : Except Er α) : Except Er α := if nest = 200 then .error ((hdT ts).pos, 113) else x
def U1 : List UInt8 := [110, 111, 116]
def V0 : List UInt8 := [97, 110, 100]
def wOr : List UInt8 := [111, 114]
def J8 : List UInt8 := [115, 114, 99]
def I6 : List UInt8 := [100, 115, 116]
def U0 : List UInt8 := [104, 111, 115, 116]
def V6 : List UInt8 := [110, 101, 116]
def J0 : List UInt8 := [112, 111, 114, 116]
def H9 : List UInt8 := [112, 111, 114, 116, 114, 97, 110, 103, 101]
def D5 : List UInt8 := [112, 114, 111, 116, 111]
def a1F : List UInt8 := [108, 101, 110]
def a1E : List UInt8 := [105, 110, 98, 111, 117, 110, 100]
def a1G : List UInt8 := [111, 117, 116, 98, 111, 117, 110, 100]
def a2c (x : List UInt8) : Option Nat :=
 if x = [61] ∨ x = [61, 61] then some 1 else if x = [33, 61] then some 2 else if x = [60] then some 3 else if x = [60, 61] then some 4 else if x = [62] then some 5 else if x = [62, 61] then some 6 else none
def q7 (k : Nat) (x : List UInt8) : Option Nd :=
 if k = 1 then (if x = wOr ∨ x = [124, 124] then some (ndK 8) else none)
 else if k = 2 then (if x = V0 ∨ x = [38, 38] then some (ndK 7) else none)
 else if k = 4 then (a2c x).map fun o => { ndK 6 with op := o }
 else if k = 5 then (if x = [124] then some { ndK 4 with op := 7 } else none)
 else if k = 6 then (if x = [94] then some { ndK 4 with op := 8 } else none)
 else if k = 7 then (if x = [38] then some { ndK 4 with op := 6 } else none)
 else if k = 8 then (if x = [60, 60] then some { ndK 4 with op := 9 } else if x = [62, 62] then some { ndK 4 with op := 10 } else none)
 else if k = 9 then (if x = [43] then some { ndK 4 with op := 1 } else if x = [45] then some { ndK 4 with op := 2 } else none)
 else if k = 10 then (if x = [42] then some { ndK 4 with op := 3 } else if x = [47] then some { ndK 4 with op := 4 } else if x = [37] then some { ndK 4 with op := 5 } else none)
 else none
def D7 (x : List UInt8) : Nat :=
 if x = [112, 112, 112] then 1 else if x = [105, 112] then 2 else if x = [105, 112, 54] then 3 else if x = [116, 99, 112] then 4 else if x = [117, 100, 112] then 5
 else if x = [105, 99, 109, 112] then 6 else if x = [105, 99, 109, 112, 54] then 7 else if x = [108, 99, 112] then 8 else if x = [112, 97, 112] then 9 else if x = [99, 104, 97, 112] then 10
 else if x = [105, 112, 99, 112] then 11 else if x = [105, 112, 54, 99, 112] then 12 else if x = [109, 112] then 13 else 0
def Z3 (kind : Nat) (ts : List Tk) : Except Er (Nd × List Tk) :=
 if (hdT ts).kind = 3 then (match M2 (hdT ts).text with
  | some a => .ok ({ ndK kind with of := 2, addr := a ++ List.replicate 12 0 }, ts.tail)
  | none => E4 ts 112)
 else if (hdT ts).kind = 4 then (match J7 (hdT ts).text with
  | some a => .ok ({ ndK kind with of := 3, addr := a }, ts.tail)
  | none => E4 ts 112)
 else E4 ts 111
def r9 (ts : List Tk) : Nat := if isB ts J8 = true then 1 else if isB ts I6 = true then 2 else 0
def s8 (ts : List Tk) : List Tk := if r9 ts = 0 then ts else ts.tail
def S2 (of at' side : Nat) (ts : List Tk) : Out :=
 if isB ts J0 = true then d7 (j7 ts.tail) fun p => .ok ([({ ndK 16 with of := of, side := side, n := p.1, m := p.1 }, at')], p.2)
 else if isB ts H9 = true then d7 (j7 ts.tail) fun p => d7 (m9 [45] p.2) fun r => d7 (j7 r) fun q => .ok ([({ ndK 16 with of := of, side := side, n := p.1, m := q.1 }, at')], q.2)
 else if of = 0 ∧ isB ts U0 = true then d7 (Z3 14 ts.tail) fun p => .ok ([({ p.1 with side := side }, at')], p.2)
 else if of = 0 ∧ isB ts V6 = true then d7 (Z3 15 ts.tail) fun p => d7 (m9 [47] p.2) fun r => d7 (j7 r) fun q => .ok ([({ p.1 with bits := q.1, side := side }, at')], q.2)
 else E4 ts 111
def a0n (of at' : Nat) (ts : List Tk) : Out := S2 of at' (r9 ts) (s8 ts)
def P8 (ts : List Tk) : Out :=
 if (hdT ts).text = a1F then .ok ([(ndK 2, (hdT ts).pos)], ts.tail)
 else if (hdT ts).text = a1E then .ok ([({ ndK 10 with side := 1 }, (hdT ts).pos)], ts.tail)
 else if (hdT ts).text = a1G then .ok ([({ ndK 10 with side := 2 }, (hdT ts).pos)], ts.tail)
 else if (hdT ts).text = D5 then d7 (j7 ts.tail) fun p => .ok ([({ ndK 12 with n := p.1 }, (hdT ts).pos)], p.2)
 else if (hdT ts).text ∈ [J8, I6, U0, V6, J0, H9] then a0n 0 (hdT ts).pos ts
 else E4 ts 111
def a0c (ts : List Tk) : Except Er (Nat × List Tk) :=
 if isB ts [58] = true then d7 (j7 ts.tail) fun p => d7 (m9 [93] p.2) fun r => .ok (p.1, r)
 else d7 (m9 [93] ts) fun r => .ok (1, r)
def M1 (rec : Nat → List Tk → Out) (nest of at' : Nat) (ts : List Tk) : Out :=
 if isB ts [91] = true ∧ of ≠ 13 then y0 nest ts (d7 (rec (nest + 1) ts.tail) fun p => d7 (a0c p.2) fun q => .ok (p.1 ++ [({ ndK 3 with of := of, size := q.1 }, at')], q.2))
 else if of = 1 then E4 ts 111
 else if (of = 2 ∨ of = 3) ∧ isB ts D5 = true then d7 (j7 ts.tail) fun p => .ok ([({ ndK 13 with of := of, n := p.1 }, at')], p.2)
 else if (of = 4 ∨ of = 5) ∧ (isB ts J8 = true ∨ isB ts I6 = true ∨ isB ts J0 = true ∨ isB ts H9 = true) then a0n of at' ts
 else .ok ([({ ndK 11 with of := of }, at')], ts)
def s9 (rec : Nat → List Tk → Out) (nest : Nat) (ts : List Tk) : Out :=
 if (hdT ts).kind = 1 then .ok ([({ ndK 1 with n := (hdT ts).num }, (hdT ts).pos)], ts.tail)
 else if isB ts [40] = true then y0 nest ts (d7 (rec (nest + 1) ts.tail) fun p => d7 (m9 [41] p.2) fun r => .ok (p.1, r))
 else if (hdT ts).kind ≠ 2 then E4 ts 111
 else if D7 (hdT ts).text ≠ 0 then M1 rec nest (D7 (hdT ts).text) (hdT ts).pos ts.tail
 else P8 ts
def opT (k : Nat) (ts : List Tk) : Option Nd := if (hdT ts).kind = 5 ∨ (hdT ts).kind = 2 then q7 k (hdT ts).text else none
def q9 (rec : List Tk → Out) (k : Nat) : Nat → List (Nd × Nat) → List Tk → Out
 | 0, ns, ts => .ok (ns, ts)
 | f + 1, ns, ts => match opT k ts with
  | none => .ok (ns, ts)
  | some nd => d7 (rec ts.tail) fun p => if k = 4 then .ok (ns ++ p.1 ++ [(nd, (hdT ts).pos)], p.2) else q9 rec k f (ns ++ p.1 ++ [(nd, (hdT ts).pos)]) p.2
def L0 (rec : Nat → Nat → List Tk → Out) (k nest : Nat) (ts : List Tk) : Out :=
 if k = 3 ∧ (isB ts U1 = true ∨ isB ts [33] = true) then y0 nest ts (d7 (rec 3 (nest + 1) ts.tail) fun p => .ok (p.1 ++ [(ndK 9, (hdT ts).pos)], p.2))
 else if k = 11 ∧ isB ts [45] = true then y0 nest ts (d7 (rec 11 (nest + 1) ts.tail) fun p => .ok (p.1 ++ [(ndK 5, (hdT ts).pos)], p.2))
 else if k = 3 ∨ k = 11 then rec (k + 1) nest ts
 else if k = 12 then s9 (rec 1) nest ts
 else d7 (rec (k + 1) nest ts) fun p => q9 (rec (k + 1) nest) k p.2.length p.1 p.2
def d6 : Nat → Nat → Nat → List Tk → Out
 | 0 => fun _ _ _ => .error (0, 0)
 | f + 1 => L0 (d6 f)
theorem J9 (f k nest : Nat) (ts : List Tk) : d6 (f + 1) k nest ts = L0 (d6 f) k nest ts := rfl
def a0m (k : Nat) (ts : List Tk) : Nat := 13 * ts.length + (13 - k)
def a1p (ts : List Tk) : Except Er (List (Nd × Nat)) := d7 (d6 (a0m 1 ts) 1 0 ts) fun p => if (hdT p.2).kind = 0 then .ok p.1 else E4 p.2 111
def a08 (s : List UInt8) : Except Er (List (Nd × Nat)) := d7 (U8 s) a1p
theorem a4L {P : Program} (d : Nat) (e : TypeId) (he : P.underlying e = some (.int .u8)) (hk : P.plainKey e = true) (xs ys : List UInt8) (w : World) (hl : xs.length = ys.length) :
  ∀ (m k : Nat), k + m = xs.length → (Op.eqItems (d + 1) e 1 (xs.map bv).toArray (ys.map bv).toArray (List.range' k m)).run P w = .ok (decide (xs.drop k = ys.drop k)) w
 | 0, k, h => by
  have e1 : xs.drop k = ys.drop k := by rw [List.drop_eq_nil_of_le (by omega), List.drop_eq_nil_of_le (by omega)]
  simp only [List.range'_zero, Op.eqItems, Sem.run_pure]
  rw [decide_eq_true e1]
 | m + 1, k, h => by
  have hx : k < xs.length := by omega
  have hy : k < ys.length := by omega
  have p1 := run_part_plain (P := P) w hk (xs := (xs.map bv).toArray) (off := k * 1) (v := bv xs[k]) (by simp [hx])
  have p2 := run_part_plain (P := P) w hk (xs := (ys.map bv).toArray) (off := k * 1) (v := bv ys[k]) (by simp [hy])
  have p3 : (Op.equalIn (d + 1) e (bv xs[k]) (bv ys[k])).run P w = .ok ((xs[k].toNat : Int) == (ys[k].toNat : Int)) w := run_equalIn_int w d e .u8 .u8 _ _ he
  have ih := a4L d e he hk xs ys w hl m (k + 1) (by omega)
  rw [List.range'_succ]
  simp only [Op.eqItems, Sem.run_bind, p1, p2, p3, Result.andThen_ok]
  rw [List.drop_eq_getElem_cons hx, List.drop_eq_getElem_cons hy]
  by_cases hq : xs[k] = ys[k]
  ·rw [hq, show ((ys[k].toNat : Int) == (ys[k].toNat : Int)) = true by simp]
   simp only [Bool.not_true, Bool.false_eq_true, if_false]
   rw [ih]
   simp only [List.cons.injEq, true_and]
  ·have : ((xs[k].toNat : Int) == (ys[k].toNat : Int)) = false := by
    rw [beq_eq_false_iff_ne]
    intro e
    exact hq (UInt8.toNat_inj.1 (by omega))
   rw [this]
   simp only [Bool.not_false, if_true, Sem.run_pure]
   rw [decide_eq_false (fun e => hq (List.cons.inj e).1)]
theorem ar1 {P : Program} {t e : TypeId} {n : Nat} {i : TypeInfo} (hu : P.underlying t = some (.array n e)) (hi : P.info? e = some i) (he : P.underlying e = some (.int .u8)) (hk : P.plainKey e = true) (hc : P.cellsOf e = 1) (xs ys : List UInt8) (hx : xs.length = n) (hy : ys.length = n) (w : World) :
  (Op.equalIn 10000 t (.agg (xs.map bv).toArray) (.agg (ys.map bv).toArray)).run P w = .ok (decide (xs = ys)) w := by
 rw [show (10000 : Nat) = 9999 + 1 from rfl, run_equalIn_array w 9999 _ _ hu hi, hc, List.range_eq_range', show (9999 : Nat) = 9998 + 1 from rfl, a4L 9998 e he hk xs ys w (by omega) n 0 (by omega)]
 rfl
def adr (x : Nd) (i : Nat) : Value := .int .u8 ((x.addr.getD i 0).toNat : Int)
def Nd.cells (x : Nd) : List Value := [.int .i64 (x.kind : Int), .int .i64 (x.op : Int), .int .u32 (x.n : Int), .int .u32 (x.m : Int), .int .i64 (x.size : Int), .int .i64 (x.of : Int), .int .i64 (x.side : Int),
 adr x 0, adr x 1, adr x 2, adr x 3, adr x 4, adr x 5, adr x 6, adr x 7, adr x 8, adr x 9, adr x 10, adr x 11, adr x 12, adr x 13, adr x 14, adr x 15, .int .i64 (x.bits : Int)]
theorem Nd.cells_len (x : Nd) : x.cells.length = 24 := rfl
def a0K (xs : List Nd) : List Value := xs.flatMap Nd.cells
theorem as9 : a0K [] = [] := rfl
theorem a8B (x : Nd) (xs : List Nd) : a0K (x :: xs) = x.cells ++ a0K xs := rfl
theorem as8 (xs ys : List Nd) : a0K (xs ++ ys) = a0K xs ++ a0K ys := by simp only [a0K, List.flatMap_append]
theorem at0 (x : Nd) : a0K [x] = x.cells := by rw [a8B, as9, List.append_nil]
theorem Nd.cells_one (x : Nd) : ∀ u ∈ x.cells, u.oneCell' = true := by
 intro u hu
 simp only [Nd.cells, adr, List.mem_cons, List.not_mem_nil, or_false] at hu
 rcases hu with rfl | rfl | rfl | rfl | rfl | rfl | rfl | rfl | rfl | rfl | rfl | rfl | rfl | rfl | rfl | rfl | rfl | rfl | rfl | rfl | rfl | rfl | rfl | rfl <;> rfl
theorem a4a : (Tryz.prog.info? 43).map (·.size) = some 24 := by kernel_rfl
theorem a92 : (Tryz.prog.info? 43).map (fun i => (i.zero, i.size, i.bytes)) = some (some (.agg nd0.cells.toArray), 24, 72) := by kernel_rfl
abbrev a5J (w : World) (base : Nat) (v : Value) (xs : List Nd) : Prop := w.ownsRow base 43 24 v xs.length (a0K xs)
theorem a8p {P : Program} (d : Nat) (xs : Array Value) (w : World) : ∀ fs : List Field, (∀ f ∈ fs, ∃ a, (part f.type xs f.offset).run P w = .ok a w ∧ (Op.equalIn d f.type a a).run P w = .ok true w) → (Op.eqFields d xs xs fs).run P w = .ok true w
 | [], _ => by simp [Op.eqFields]
 | f :: fs, h => by
  obtain ⟨a, h1, h2⟩ := h f (List.mem_cons_self ..)
  have ih := a8p d xs w fs (fun g hg => h g (List.mem_cons_of_mem _ hg))
  unfold Op.eqFields
  split
  ·simp only [Sem.run_bind, h1, h2, Result.andThen_ok, Bool.not_true, Bool.false_eq_true, if_false]
   exact ih
  ·exact ih
theorem aq9 {P : Program} {t e : TypeId} {n : Nat} {i : TypeInfo} (d : Nat) (hu : P.underlying t = some (.array n e)) (hi : P.info? e = some i) (he : P.underlying e = some (.int .u8)) (hk : P.plainKey e = true) (hc : P.cellsOf e = 1) (xs : List UInt8) (hx : xs.length = n) (w : World) :
  (Op.equalIn (d + 2) t (.agg (xs.map bv).toArray) (.agg (xs.map bv).toArray)).run P w = .ok true w := by
 rw [run_equalIn_array w (d + 1) _ _ hu hi, hc, List.range_eq_range', a4L d e he hk xs xs w rfl n 0 (by omega)]
 simp
structure GB (w w' : World) (S : Nat → Prop) : Prop where
 os : w'.os = w.os
 tape : w'.tape = w.tape
 output : w'.output = w.output
 size : w.heap.size ≤ w'.heap.size
 block : ∀ i, i < w.heap.size → ¬ S i → w'.heap[i]? = w.heap[i]?
theorem GB.of {w w' : World} {row : Option Nat} {S : Nat → Prop} (h : w.grownBy w' row) (hs : ∀ x, row = some x → S x) : GB w w' S :=
 ⟨h.os, h.tape, h.output, h.size, fun i hi hn => h.block i hi (fun e => hn (hs i e.symm))⟩
theorem GB.non {w w' : World} {S : Nat → Prop} (h : w.grownBy w' none) : GB w w' S := GB.of h (fun x hx => by cases hx)
theorem GB.refl (w : World) (S : Nat → Prop) : GB w w S := ⟨rfl, rfl, rfl, Nat.le_refl _, fun _ _ _ => rfl⟩
theorem GB.trans {w w1 w2 : World} {S S' : Nat → Prop} (h : GB w w1 S) (k : GB w1 w2 S') (hs : ∀ x, x < w.heap.size → S' x → S x) : GB w w2 S :=
 ⟨k.os.trans h.os, k.tape.trans h.tape, k.output.trans h.output, Nat.le_trans h.size k.size, fun i hi hn => (k.block i (Nat.lt_of_lt_of_le hi h.size) (fun e => hn (hs i hi e))).trans (h.block i hi hn)⟩
theorem GB.mono {w w' : World} {S S' : Nat → Prop} (h : GB w w' S) (hs : ∀ x, S x → S' x) : GB w w' S' := ⟨h.os, h.tape, h.output, h.size, fun i hi hn => h.block i hi (fun e => hn (hs i e))⟩
theorem GB.grown {w w' : World} {S : Nat → Prop} (h : GB w w' S) (hs : ∀ x, x < w.heap.size → ¬ S x) : w.grownBy w' none := ⟨h.os, h.tape, h.output, h.size, fun i hi _ => h.block i hi (hs i hi)⟩
theorem GB.one {w w' : World} {S : Nat → Prop} {g : Nat} (h : GB w w' S) (hs : ∀ x, x < w.heap.size → S x → x = g) : w.grownBy w' (some g) := ⟨h.os, h.tape, h.output, h.size, fun i hi hn => h.block i hi (fun e => hn (congrArg some (hs i hi e)))⟩
theorem GB.vat {w w' : World} {S : Nat → Prop} {g t : Nat} {cs : Array Value} (h : GB w w' S) (A : VAt w g t cs) (hg : ¬ S g) : VAt w' g t cs := by
 have := h.block g A.lt hg
 unfold VAt at *
 rw [this, A]
theorem GB.owns {w w' : World} {S : Nat → Prop} {base e size n : Nat} {v : Value} {vs : List Value} (h : GB w w' S) (O : w.ownsRow base e size v n vs) (hv : ∀ x, v.ownBlock = some x → ¬ S x) : w'.ownsRow base e size v n vs := by
 refine ⟨O.1, ?_⟩
 rcases O.2 with h0 | ⟨g, cap, cur, hv', hb, hg, r⟩
 ·exact .inl h0
 ·right
  refine ⟨g, cap, cur, hv', hb, ?_, r⟩
  have hlt : g < w.heap.size := by
   by_cases hh : g < w.heap.size
   ·exact hh
   ·rw [Array.getElem?_eq_none (by omega)] at hg; cases hg
  rw [h.block g hlt (hv g (by rw [hv']; rfl)), hg]
theorem GB.cell {w w' : World} {S : Nat → Prop} {ad : Addr} {v : Value} (h : GB w w' S) (hc : w.cell? ad = some v) (ha : ¬ S ad.block) (hlt : ad.block < w.heap.size) : w'.cell? ad = some v := by
 have := h.block ad.block hlt ha
 unfold World.cell? at *
 rw [this]
 exact hc
theorem GB.cells {w w' : World} {S : Nat → Prop} {ao : Option Addr} {xs : List UInt8} (h : GB w w' S) (hc : Cells w ao xs) (ha : ∀ ad, ao = some ad → xs ≠ [] → ¬ S ad.block) : Cells w' ao xs := by
 have hu := hc.under
 refine hc.same fun b off i hb hi => ?_
 have hne : xs ≠ [] := by
  intro e
  rw [e] at hi
  simp at hi
 have h1 := ha _ hb hne
 have h2 := hu _ hb hne
 have := h.block b h2 h1
 unfold World.cell?
 simp only [this]
structure Ng where
 kind : Int
 op : Int
 n : Nat
 m : Nat
 size : Int
 of : Int
 side : Int
 addr : List UInt8
 bits : Int
def adg (x : Ng) (i : Nat) : Value := .int .u8 ((x.addr.getD i 0).toNat : Int)
def Ng.cells (x : Ng) : List Value := [.int .i64 x.kind, .int .i64 x.op, .int .u32 (x.n : Int), .int .u32 (x.m : Int), .int .i64 x.size, .int .i64 x.of, .int .i64 x.side,
 adg x 0, adg x 1, adg x 2, adg x 3, adg x 4, adg x 5, adg x 6, adg x 7, adg x 8, adg x 9, adg x 10, adg x 11, adg x 12, adg x 13, adg x 14, adg x 15, .int .i64 x.bits]
theorem Ng.cells_len (x : Ng) : x.cells.length = 24 := rfl
def D6 (xs : List Ng) : List Value := xs.flatMap Ng.cells
theorem a6e (x : Ng) (xs : List Ng) : D6 (x :: xs) = x.cells ++ D6 xs := rfl
theorem a8A (xs : List Ng) : (D6 xs).length = xs.length * 24 := by
 induction xs with
 | nil => rfl
 | cons x xs ih => rw [a6e, List.length_append, ih, List.length_cons, Ng.cells_len]; omega
theorem as6 (xs : List Ng) (i j : Nat) (hi : i < xs.length) (hj : j < 24) : (D6 xs)[i * 24 + j]? = (xs[i].cells)[j]? := by
 induction xs generalizing i with
 | nil => simp at hi
 | cons x xs ih =>
  rw [a6e]
  have hl : x.cells.length = 24 := rfl
  cases i with
  | zero => rw [List.getElem?_append_left (by omega)]; simp
  | succ i =>
   rw [List.getElem?_append_right (by omega), hl, show (i + 1) * 24 + j - 24 = i * 24 + j by omega, ih i (by simpa using hi)]
   simp
theorem Ng.cells_one (x : Ng) : ∀ u ∈ x.cells, u.oneCell' = true := by
 intro u hu
 simp only [Ng.cells, adg, List.mem_cons, List.not_mem_nil, or_false] at hu
 rcases hu with rfl | rfl | rfl | rfl | rfl | rfl | rfl | rfl | rfl | rfl | rfl | rfl | rfl | rfl | rfl | rfl | rfl | rfl | rfl | rfl | rfl | rfl | rfl | rfl <;> rfl
theorem as7 (xs : List Ng) : ∀ u ∈ D6 xs, u.oneCell' = true := by
 intro u hu
 obtain ⟨x, _, hx⟩ := List.mem_flatMap.1 hu
 exact x.cells_one u hx
theorem CV.ngs {w : World} {ao : Option Addr} {xs : List Ng} (h : CV w ao (D6 xs)) {k : Nat} (hk : k < xs.length) :
  ∃ b off, ao = some ⟨b, off, none⟩ ∧ ∀ i (hi : i < xs.length), w.rangeAt b (off + i * 24) xs[i].cells := by
 have hl := a8A xs
 obtain ⟨b, off, hao, hc⟩ := h.addr (k := k * 24) (by omega)
 refine ⟨b, off, hao, fun i hi j v hv => ?_⟩
 have hj : j < 24 := (List.getElem?_eq_some_iff.1 hv).1
 rw [← as6 xs i j hi hj] at hv
 rw [Nat.add_assoc, hc (i * 24 + j) (by omega), ← hv, List.getElem?_eq_getElem (by omega)]
abbrev a4l (w : World) (base : Nat) (v : Value) (xs : List Ng) : Prop := w.ownsRow base 43 24 v xs.length (D6 xs)
def l0 (x : Ng) : List UInt8 := [x.addr.getD 0 0, x.addr.getD 1 0, x.addr.getD 2 0, x.addr.getD 3 0, x.addr.getD 4 0, x.addr.getD 5 0, x.addr.getD 6 0, x.addr.getD 7 0, x.addr.getD 8 0, x.addr.getD 9 0, x.addr.getD 10 0, x.addr.getD 11 0, x.addr.getD 12 0, x.addr.getD 13 0, x.addr.getD 14 0, x.addr.getD 15 0]
theorem aH6 : (Tryz.prog.fieldsOf 43).toList.map (fun f => (f.type, f.offset)) = [(3, 0), (3, 1), (40, 2), (40, 3), (3, 4), (3, 5), (3, 6), (41, 7), (3, 23)] := by kernel_rfl
theorem aH5 (x : Ng) (w : World) : (Op.equalIn 10000 43 (.agg x.cells.toArray) (.agg x.cells.toArray)).run Tryz.prog w = .ok true w := by
 obtain ⟨i0, hi, -⟩ := info_parts a1i
 rw [show (10000 : Nat) = 9999 + 1 from rfl, run_equalIn_struct w 9999 _ _ _ (by kernel_rfl) (by kernel_rfl)]
 refine a8p 9999 _ w _ (fun f hf => ?_)
 have hm : (f.type, f.offset) ∈ (Tryz.prog.fieldsOf 43).toList.map (fun f => (f.type, f.offset)) := List.mem_map_of_mem hf
 rw [aH6] at hm
 generalize f.type = ft at *
 generalize f.offset = fo at *
 simp only [List.mem_cons, Prod.mk.injEq, List.not_mem_nil, or_false] at hm
 rcases hm with ⟨rfl, rfl⟩ | ⟨rfl, rfl⟩ | ⟨rfl, rfl⟩ | ⟨rfl, rfl⟩ | ⟨rfl, rfl⟩ | ⟨rfl, rfl⟩ | ⟨rfl, rfl⟩ | ⟨rfl, rfl⟩ | ⟨rfl, rfl⟩
 ·exact ⟨.int .i64 x.kind, by kernel_rfl, by rw [run_equalIn_int w 9998 _ _ .i64 _ _ Tryz.underlying3]; simp⟩
 ·exact ⟨.int .i64 x.op, by kernel_rfl, by rw [run_equalIn_int w 9998 _ _ .i64 _ _ Tryz.underlying3]; simp⟩
 ·exact ⟨.int .u32 (x.n : Int), by kernel_rfl, by rw [run_equalIn_int w 9998 _ _ .u32 _ _ Tryz.underlying40]; simp⟩
 ·exact ⟨.int .u32 (x.m : Int), by kernel_rfl, by rw [run_equalIn_int w 9998 _ _ .u32 _ _ Tryz.underlying40]; simp⟩
 ·exact ⟨.int .i64 x.size, by kernel_rfl, by rw [run_equalIn_int w 9998 _ _ .i64 _ _ Tryz.underlying3]; simp⟩
 ·exact ⟨.int .i64 x.of, by kernel_rfl, by rw [run_equalIn_int w 9998 _ _ .i64 _ _ Tryz.underlying3]; simp⟩
 ·exact ⟨.int .i64 x.side, by kernel_rfl, by rw [run_equalIn_int w 9998 _ _ .i64 _ _ Tryz.underlying3]; simp⟩
 ·exact ⟨.agg ((l0 x).map bv).toArray, by kernel_rfl, aq9 9997 Tryz.underlying41 hi Tryz.underlying5 (by kernel_rfl) (by kernel_rfl) (l0 x) rfl w⟩
 ·exact ⟨.int .i64 x.bits, by kernel_rfl, by rw [run_equalIn_int w 9998 _ _ .i64 _ _ Tryz.underlying3]; simp⟩
theorem av7 (a b : Option Addr) (ca cb : Nat) (xs : List Ng) (w : World) (ha : CV w a (D6 xs)) (hb : CV w b (D6 xs)) (hm : xs.length ≤ 9223372036854775807) :
  Calls Tryz.prog 18 #[.slice a xs.length ca, .slice b xs.length cb] w fun e w' => e = .returned (.bool true) ∧ ∃ n, w' = w.drewN n := by
 have hne : ((xs.length : Int) != (xs.length : Int)) = false := by simp
 go_enter Tryz.func18, Tryz.ntmps18
 go_wp2
 go_loopw [5] (fun i wr => ∃ k : Nat, k ≤ xs.length ∧ i = .int .i64 k ∧ ∃ n, wr = w.drewN n) (fun i _ => xs.length - (intOf i).toNat)
 case atStart => exact ⟨0, Nat.zero_le _, rfl, 0, rfl⟩
 case round =>
  obtain ⟨k, hk, rfl, n, rfl⟩ := hrel
  by_cases hlt : k < xs.length
  ·obtain ⟨b1, o1, rfl, -⟩ := ha.ngs hlt
   obtain ⟨b2, o2, rfl, -⟩ := hb.ngs hlt
   have HA : Hid (∀ W, (∃ n, W = w.drewN n) → W.rangeAt b1 (o1 + k * 24) xs[k].cells) := fun W ⟨n, hW⟩ => by
    obtain ⟨b, o, e, h⟩ := (ha.keptNone (hW ▸ f4 w n none)).ngs hlt
    simp only [Option.some.injEq, Addr.mk.injEq] at e
    obtain ⟨rfl, rfl, -⟩ := e
    exact h k hlt
   have HB : Hid (∀ W, (∃ n, W = w.drewN n) → W.rangeAt b2 (o2 + k * 24) xs[k].cells) := fun W ⟨n, hW⟩ => by
    obtain ⟨b, o, e, h⟩ := (hb.keptNone (hW ▸ f4 w n none)).ngs hlt
    simp only [Option.some.injEq, Addr.mk.injEq] at e
    obtain ⟨rfl, rfl, -⟩ := e
    exact h k hlt
   have HEQ := fun W => aH5 xs[k] W
   have HSZ : xs[k].cells.length = 24 := rfl
   have HS : Hid ((Tryz.prog.info? 43).map (·.size) = some xs[k].cells.length) := a4a
   clear ha hb HSZ
   generalize xs[k].cells = cs at *
   have hl : (k : Int) < (xs.length : Int) := by omega
   have z0 : (0 : Int) ≤ (k : Int) := by omega
   go_upto_region 6 with fail
   refine wp_region_held_drew (S := fun W => ∃ n, W = w.drewN n) (by kernel_rfl) ⟨n + 1, rfl⟩ (fun hHeld => ?_)
   refine wpT (i := 0) (v := .slice (some ⟨b1, o1, none⟩) xs.length ca) rfl (Or.inl ⟨by rfl, fun W hW => ?_⟩) hHeld ?_
   ·clear hW
    go_simp
   try simp only [Act.put, a0, a1, a3, a4, a5]
   refine wpT (i := 1) (v := .int .i64 (k : Int)) rfl (Or.inl ⟨by rfl, fun W hW => ?_⟩) hHeld ?_
   ·clear hW
    go_simp
   try simp only [Act.put, a0, a1, a2, a3, a4, a5]
   refine wpT (i := 2) (v := .pointer (some ⟨b1, o1 + k * 24, none⟩)) rfl (Or.inl ⟨by rfl, fun W hW => ?_⟩) hHeld ?_
   ·clear hW
    go_simp
   try simp only [Act.put, a0, a1, a2, a3, a4, a5]
   refine wpT (i := 3) (v := .agg cs.toArray) rfl (yieldsIf_load_mid (by rfl) _ _ rfl _ _ rfl cs _ (fun W hW => HA.out W hW) Tryz.underlying43 rfl HS.out) hHeld ?_
   try simp only [Act.put, a0, a1, a2, a3, a4, a5]
   refine wpT (i := 4) (v := .slice (some ⟨b2, o2, none⟩) xs.length cb) rfl (Or.inl ⟨by rfl, fun W hW => ?_⟩) hHeld ?_
   ·clear hW
    go_simp
   try simp only [Act.put, a0, a1, a2, a3, a4, a5]
   refine wpT (i := 5) (v := .int .i64 (k : Int)) rfl (Or.inl ⟨by rfl, fun W hW => ?_⟩) hHeld ?_
   ·clear hW
    go_simp
   try simp only [Act.put, a0, a1, a2, a3, a4, a5]
   refine wpT (i := 6) (v := .pointer (some ⟨b2, o2 + k * 24, none⟩)) rfl (Or.inl ⟨by rfl, fun W hW => ?_⟩) hHeld ?_
   ·clear hW
    go_simp
   try simp only [Act.put, a0, a1, a2, a3, a4, a5]
   refine wpT (i := 7) (v := .agg cs.toArray) rfl (yieldsIf_load_mid (by rfl) _ _ rfl _ _ rfl cs _ (fun W hW => HB.out W hW) Tryz.underlying43 rfl HS.out) hHeld ?_
   try simp only [Act.put, a0, a1, a2, a3, a4, a5]
   refine wpT (i := 8) (v := .bool false) rfl (Or.inl ⟨by rfl, fun W hW => ?_⟩) hHeld ?_
   ·clear hW
    go_simp
   try simp only [Act.put, a0, a1, a2, a3, a4, a5]
   refine wpAnyH_done (by kernel_rfl) ?_ _
   clear HA HB HS HEQ
   go_wp2
   go_roundw
   case rel => exact ⟨k + 1, by omega, by go_num, hHeld⟩
   case measure => simp [intOf]; omega
  ·go_wp2
   go_ret
   exact ⟨rfl, n, rfl⟩
theorem au1 (a : Option Addr) (ca : Nat) (xs : List Ng) (w : World) (ha : CV w a (D6 xs)) (hc0 : a = none → ca = 0) (hm : xs.length * 72 ≤ 140737488355328) :
  Calls Tryz.prog 15 #[.slice a xs.length ca] w fun e w' => ∃ v, e = .returned v ∧ a4l w' w.heap.size v xs ∧ w.grownBy w' none := by
 obtain ⟨i0, hi, hz0, hz1, hz2⟩ := info_parts a92
 have H : Hid (CV w a (D6 xs)) := ha
 clear ha
 go_enter Tryz.func15, Tryz.ntmps15
 go_wp2_with (at_builtin; refine a19 rfl (.tmp 3) (.tmp 4) 22 rfl 43 i0 _ 24 72 Tryz.underlying22 hi hz0 hz1 hz2 rfl (by decide) w.heap.size _ 0 [] rfl ?q1 a xs.length ca (D6 xs) rfl (a8A xs) hc0 ?q2 (as7 xs) ?q3 ?q4 ?q5 ?q6)
 case q1 => exact World.ownsRow_made w #[] 0 (Nat.le_refl _) (Nat.zero_le _) rfl
 case q2 => exact H.out.keptNone (World.grownBy_alloc _ _ _)
 case q3 => unfold maxLen; omega
 case q4 => omega
 case q5 => simp
 case q6 =>
  intro v' w' h1 h2
  have G : w.grownBy w' none := a00 (World.grownBy_alloc w _ _) h2 (by intro x hx; simp [Value.ownBlock] at hx; omega)
  have O : a4l w' w.heap.size v' xs := by simpa using h1
  clear h2 h1
  go_wp2
  go_ret
  exact ⟨v', rfl, O, G⟩
def Nd.g (x : Nd) : Ng := ⟨x.kind, x.op, x.n, x.m, x.size, x.of, x.side, x.addr, x.bits⟩
theorem Nd.g_cells (x : Nd) : x.g.cells = x.cells := rfl
theorem as5 (xs : List Nd) : D6 (xs.map Nd.g) = a0K xs := by
 induction xs with
 | nil => rfl
 | cons x xs ih => rw [List.map_cons, a6e, ih, a8B, Nd.g_cells]
def a0Y (n : Nat) (x : UInt8) : UInt8 := if n = 0 then 0 else if n < 8 then UInt8.ofNat (x.toNat / 2 ^ (8 - n) * 2 ^ (8 - n)) else x
def a06 : Nat → List UInt8 → List UInt8
 | _, [] => []
 | n, x :: r => a0Y n x :: a06 (n - 8) r
theorem a26 (n : Nat) (xs : List UInt8) : (a06 n xs).length = xs.length := by
 induction xs generalizing n with
 | nil => rfl
 | cons x r ih => rw [a06, List.length_cons, List.length_cons, ih]
theorem aD6 (n : Nat) (xs : List UInt8) (j : Nat) (h : j < xs.length) : (a06 n xs)[j]'(by rw [a26]; exact h) = a0Y (n - 8 * j) xs[j] := by
 induction xs generalizing n j with
 | nil => simp at h
 | cons x r ih =>
  cases j with
  | zero => rfl
  | succ j =>
   simp only [a06, List.getElem_cons_succ]
   rw [ih (n - 8) j (by simpa using h)]
   congr 1
   omega
def a1l (n : Nat) (bits : Int) : Int := if n ≠ 4 ∧ n ≠ 16 then 60 else if bits < 0 ∨ 8 * (n : Int) < bits then 61 else 0
def a1R (xs : List UInt8) (bits : Int) : List UInt8 := if a1l xs.length bits = 0 then a06 bits.toNat xs else []
def a1A (a b : Nat) (left : Bool) : Nat := if 31 < b then 0 else if left = true then a * 2 ^ b % 4294967296 else a / 2 ^ b
theorem ab4 (a b : Nat) (left : Bool) (ha : a ≤ 4294967295) : a1A a b left ≤ 4294967295 := by
 unfold a1A
 split
 ·omega
 ·split
  ·omega
  ·exact Nat.le_trans (Nat.div_le_self _ _) ha

end Go.Proofs.YtklipelnjgpnjaaGreatDoor
