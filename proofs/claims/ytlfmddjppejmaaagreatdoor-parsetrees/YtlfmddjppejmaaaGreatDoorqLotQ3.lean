import Derived.Test.YtlfmddjppejmaaaGreatDoorqLotQ2
import Derived.Test.YtlfmddjppejmaaaGreatDoorqLotQ1
namespace Go.Proofs.YtlfmddjppejmaaaGreatDoor
open Go.RowKit
set_option maxRecDepth 100000
def y9 (c : UInt8) : Bool := c == 32 || c == 9 || c == 10 || c == 13
def M1 (c : UInt8) : Bool := decide (97 ≤ c.toNat) && decide (c.toNat ≤ 122)
def o4 (c : UInt8) : Bool := v6 c.toNat || c == 58
def p7 (c : UInt8) : Bool := s8 c || c == 46
def j9 (c : UInt8) : Bool := s8 c || M1 c
def N5 : Nat → List UInt8 → Option Nat
 | v, [] => some v
 | v, c :: r => if v6 c.toNat = true then (if 4294967295 < 16 * v + m9 c.toNat then none else N5 (16 * v + m9 c.toNat) r) else none
def E1 (s : List UInt8) : Option Nat := if 2 < s.length ∧ s.getD 0 0 = 48 ∧ s.getD 1 0 = 120 then N5 0 (s.drop 2) else k9 4294967295 s
def L6 : List (List UInt8) := [[60, 60], [62, 62], [60, 61], [62, 61], [61, 61], [33, 61], [38, 38], [124, 124]]
def X9 : List UInt8 := [40, 41, 91, 93, 58, 43, 45, 42, 47, 37, 38, 124, 94, 60, 62, 61, 33]
def t6 (s : List UInt8) : List UInt8 := if s.take 2 ∈ L6 then s.take 2 else if s.head?.all (X9.contains ·) = true then s.take 1 else []
def o7 (s : List UInt8) : Except Int (Nat × List UInt8 × Nat) :=
 if 2 ≤ (s.takeWhile o4).count 58 then .ok (4, s.takeWhile o4, 0)
 else if s.head?.any s8 = true then
  (if 46 ∈ s.takeWhile p7 then .ok (3, s.takeWhile p7, 0)
  else match E1 (s.takeWhile j9) with
   | none => .error 102
   | some n => .ok (1, s.takeWhile j9, n))
 else if s.head?.any M1 = true then .ok (2, s.takeWhile j9, 0)
 else if t6 s = [] then .error 101 else .ok (5, t6 s, 0)
structure Tk where
 kind : Nat
 pos : Nat
 text : List UInt8
 num : Nat
def U8 : Nat → Nat → List UInt8 → Except (Nat × Int) (List Tk)
 | 0, p, _ => .ok [⟨0, p, [], 0⟩]
 | _ + 1, p, [] => .ok [⟨0, p, [], 0⟩]
 | k + 1, p, c :: r =>
  if y9 c = true then U8 k (p + 1) r
  else match o7 (c :: r) with
   | .error e => .error (p, e)
   | .ok (q, t, n) => match U8 k (p + t.length) ((c :: r).drop t.length) with
    | .error e => .error e
    | .ok ts => .ok (⟨q, p, t, n⟩ :: ts)
def A9 (p : Nat) (s : List UInt8) : Except (Nat × Int) (List Tk) := U8 s.length p s
def E4 (s : List UInt8) : Except (Nat × Int) (List Tk) := if 65536 < s.length then .error (0, 100) else A9 0 s
theorem Y1 {α : Type} (p : α → Bool) : ∀ (l : List α), (l.takeWhile p).length ≤ l.length
 | [] => Nat.le_refl _
 | x :: r => by
  rw [List.takeWhile_cons]
  split
  ·simp only [List.length_cons]
   exact Nat.succ_le_succ (Y1 p r)
  ·simp
theorem a1t {α : Type} (p : α → Bool) (l : List α) : l.takeWhile p = l.take (l.takeWhile p).length := by
 induction l with
 | nil => rfl
 | cons x r ih =>
  rw [List.takeWhile_cons]
  split
  ·simp only [List.length_cons, List.take_succ_cons]
   rw [← ih]
  ·simp
theorem a27 {α : Type} (p : α → Bool) (l : List α) : (l.takeWhile p).takeWhile p = l.takeWhile p := by
 induction l with
 | nil => rfl
 | cons x r ih =>
  by_cases h : p x = true
  ·rw [List.takeWhile_cons_of_pos h, List.takeWhile_cons_of_pos h, ih]
  ·rw [List.takeWhile_cons_of_neg h]
   rfl
theorem a0Z {α : Type} (p : α → Bool) (l : List α) {x : α} (h : x ∈ l.takeWhile p) : p x = true := by
 induction l with
 | nil => simp at h
 | cons y r ih =>
  by_cases hy : p y = true
  ·rw [List.takeWhile_cons_of_pos hy] at h
   rcases List.mem_cons.1 h with rfl | h
   ·exact hy
   ·exact ih h
  ·rw [List.takeWhile_cons_of_neg hy] at h
   simp at h
theorem a5v {α : Type} (p : α → Bool) (c : α) (r : List α) (h : p c = true) : ∃ t, (c :: r).takeWhile p = c :: t := ⟨_, List.takeWhile_cons_of_pos h⟩
def E2 (b : UInt8) : List UInt8 → List UInt8 → List (List UInt8)
 | cur, [] => [cur]
 | cur, c :: r => if c = b then cur :: E2 b [] r else E2 b (cur ++ [c]) r
def f9 (b : UInt8) (s : List UInt8) : List (List UInt8) := E2 b [] s
theorem a1r (b : UInt8) (cur s : List UInt8) : (E2 b cur s).length ≤ s.length + 1 := by
 induction s generalizing cur with
 | nil => simp [E2]
 | cons c r ih =>
  rw [E2]
  split
  ·have := ih []; simp; omega
  ·have := ih (cur ++ [c]); simp; omega
theorem a5r (b : UInt8) (cur s : List UInt8) : ∀ l ∈ E2 b cur s, l.length ≤ cur.length + s.length := by
 induction s generalizing cur with
 | nil => intro l hl; simp [E2] at hl; subst hl; simp
 | cons c r ih =>
  intro l hl
  rw [E2] at hl
  split at hl
  ·rcases List.mem_cons.1 hl with rfl | hl
   ·simp
   ·have := ih [] l hl; simp at *; omega
  ·have := ih (cur ++ [c]) l hl; simp at *; omega
theorem ag6 (b : UInt8) (cur x : List UInt8) (h : b ∉ x) : E2 b cur x = [cur ++ x] := by
 induction x generalizing cur with
 | nil => simp [E2]
 | cons c r ih =>
  have hc : c ≠ b := fun e => h (by rw [e]; simp)
  rw [E2, if_neg hc, ih _ (fun e => h (by simp [e]))]
  simp
theorem ag5 (b : UInt8) (cur x r : List UInt8) (h : b ∉ x) : E2 b cur (x ++ b :: r) = (cur ++ x) :: E2 b [] r := by
 induction x generalizing cur with
 | nil => simp [E2]
 | cons c x ih =>
  have hc : c ≠ b := fun e => h (by rw [e]; simp)
  rw [List.cons_append, E2, if_neg hc, ih _ (fun e => h (by simp [e]))]
  simp
def t7 {α β : Type} (f : α → Option β) : List α → Option (List β)
 | [] => some []
 | x :: r => (f x).bind fun v => (t7 f r).map fun vs => v :: vs
theorem a3s {α β : Type} (f : α → Option β) (xs : List α) (y : α) : t7 f (xs ++ [y]) = (t7 f xs).bind fun vs => (f y).map fun v => vs ++ [v] := by
 induction xs with
 | nil => simp only [List.nil_append, t7]; cases f y <;> rfl
 | cons x r ih =>
  simp only [List.cons_append, t7, ih]
  cases f x with
  | none => rfl
  | some v =>
   cases t7 f r with
   | none => rfl
   | some vs => cases f y <;> rfl
theorem a3r {α β : Type} {f : α → Option β} {xs : List α} {vs : List β} (h : t7 f xs = some vs) : vs.length = xs.length := by
 induction xs generalizing vs with
 | nil => simp [t7] at h; subst h; rfl
 | cons x r ih =>
  simp only [t7] at h
  cases hx : f x with
  | none => rw [hx] at h; cases h
  | some v =>
   rw [hx] at h
   cases hr : t7 f r with
   | none => rw [hr] at h; cases h
   | some us =>
    rw [hr] at h
    simp only [Option.bind_some, Option.map_some, Option.some.injEq] at h
    subst h
    simp [ih hr]
theorem a2d {α β : Type} {f : α → Option β} {xs : List α} {i : Nat} (hi : i < xs.length) (h : f xs[i] = none) : t7 f xs = none := by
 induction xs generalizing i with
 | nil => simp at hi
 | cons x r ih =>
  simp only [t7]
  cases i with
  | zero => rw [show f x = none from h]; rfl
  | succ i =>
   rw [ih (i := i) (by simpa using hi) (by simpa using h)]
   cases f x <;> rfl
def x1 (s : List UInt8) : Option (List UInt8) := if (f9 46 s).length = 4 then (t7 (k9 255) (f9 46 s)).map fun ns => ns.map UInt8.ofNat else none
def J7 : Nat → List UInt8 → Option Nat
 | v, [] => some v
 | v, c :: r => if v6 c.toNat = true then J7 (16 * v + m9 c.toNat) r else none
def o5 (s : List UInt8) : Option Nat := if s.length < 1 ∨ 4 < s.length then none else J7 0 s
def k6 (s : List UInt8) : Option (List Nat) := if s = [] then some [] else if 8 < (f9 58 s).length then none else t7 o5 (f9 58 s)
def x7 : List UInt8 → Option Nat
 | [] => none
 | a :: r => if a = 58 ∧ r.head? = some 58 then some 0 else (x7 r).map fun k => k + 1
def j2 (gs : List Nat) : List UInt8 := gs.flatMap fun g => [UInt8.ofNat (g / 256), UInt8.ofNat g]
def x3 (s : List UInt8) : Option (List UInt8) := match x7 s with
 | none => (k6 s).bind fun x => if x.length = 8 then some (j2 x) else none
 | some k => (k6 (s.take k)).bind fun x => (k6 (s.drop (k + 2))).bind fun y => if x.length + y.length ≤ 7 then some (j2 (x ++ List.replicate (8 - x.length - y.length) 0 ++ y)) else none
theorem a74 (s : List UInt8) (k : Nat) (h : x7 s = some k) : k + 2 ≤ s.length := by
 induction s generalizing k with
 | nil => cases h
 | cons a r ih =>
  rw [x7] at h
  split at h
  ·rename_i hc
   simp only [Option.some.injEq] at h
   subst h
   cases r with
   | nil => simp at hc
   | cons b r => simp
  ·cases hg : x7 r with
   | none => rw [hg] at h; cases h
   | some m =>
    rw [hg] at h
    simp only [Option.map_some, Option.some.injEq] at h
    subst h
    have := ih m hg
    simp only [List.length_cons]
    omega
structure Nd where
 kind : Nat
 op : Nat
 n : Nat
 m : Nat
 size : Nat
 of : Nat
 side : Nat
 addr : List UInt8
 bits : Nat
def nd0 : Nd := ⟨0, 0, 0, 0, 0, 0, 0, List.replicate 16 0, 0⟩
def ndK (k : Nat) : Nd := { nd0 with kind := k }
abbrev Er := Nat × Int
abbrev Out := Except Er (List (Nd × Nat) × List Tk)
def d8 {α β : Type} (x : Except Er α) (f : α → Except Er β) : Except Er β := match x with
 | .error e => .error e
 | .ok y => f y
theorem q9 {α β : Type} (y : α) (f : α → Except Er β) : d8 (.ok y) f = f y := rfl
theorem N2 {α β : Type} (e : Er) (f : α → Except Er β) : d8 (.error e : Except Er α) f = .error e := rfl
def hdT (ts : List Tk) : Tk := ts.headD ⟨0, 0, [], 0⟩
def isB (ts : List Tk) (x : List UInt8) : Bool := ((hdT ts).kind == 5 || (hdT ts).kind == 2) && (hdT ts).text == x
def x6 {α : Type} (ts : List Tk) (e : Int) : Except Er α := .error ((hdT ts).pos, if (hdT ts).kind = 0 then 110 else e)
def l5 (x : List UInt8) (ts : List Tk) : Except Er (List Tk) := if isB ts x = true then .ok ts.tail else x6 ts 111
def j8 (ts : List Tk) : Except Er (Nat × List Tk) := if (hdT ts).kind = 1 then .ok ((hdT ts).num, ts.tail) else x6 ts 111
def s9 {α : Type} (nest : Nat) (ts : List Tk) (x : Except Er α) : Except Er α := if nest = 200 then .error ((hdT ts).pos, 113) else x
def T4 : List UInt8 := [110, 111, 116]
def a29 : List UInt8 := [97, 110, 100]
def wOr : List UInt8 := [111, 114]
def g9 : List UInt8 := [115, 114, 99]
def j5 : List UInt8 := [100, 115, 116]
def p9 : List UInt8 := [104, 111, 115, 116]
def C9 : List UInt8 := [110, 101, 116]
def j1 : List UInt8 := [112, 111, 114, 116]
def j4 : List UInt8 := [112, 111, 114, 116, 114, 97, 110, 103, 101]
def q7 : List UInt8 := [112, 114, 111, 116, 111]
def W5 : List UInt8 := [108, 101, 110]
def W4 : List UInt8 := [105, 110, 98, 111, 117, 110, 100]
def W6 : List UInt8 := [111, 117, 116, 98, 111, 117, 110, 100]
def a1Z (x : List UInt8) : Option Nat :=
 if x = [61] ∨ x = [61, 61] then some 1 else if x = [33, 61] then some 2 else if x = [60] then some 3 else if x = [60, 61] then some 4 else if x = [62] then some 5 else if x = [62, 61] then some 6 else none
def l0 (k : Nat) (x : List UInt8) : Option Nd :=
 if k = 1 then (if x = wOr ∨ x = [124, 124] then some (ndK 8) else none)
 else if k = 2 then (if x = a29 ∨ x = [38, 38] then some (ndK 7) else none)
 else if k = 4 then (a1Z x).map fun o => { ndK 6 with op := o }
 else if k = 5 then (if x = [124] then some { ndK 4 with op := 7 } else none)
 else if k = 6 then (if x = [94] then some { ndK 4 with op := 8 } else none)
 else if k = 7 then (if x = [38] then some { ndK 4 with op := 6 } else none)
 else if k = 8 then (if x = [60, 60] then some { ndK 4 with op := 9 } else if x = [62, 62] then some { ndK 4 with op := 10 } else none)
 else if k = 9 then (if x = [43] then some { ndK 4 with op := 1 } else if x = [45] then some { ndK 4 with op := 2 } else none)
 else if k = 10 then (if x = [42] then some { ndK 4 with op := 3 } else if x = [47] then some { ndK 4 with op := 4 } else if x = [37] then some { ndK 4 with op := 5 } else none)
 else none
def l9 (x : List UInt8) : Nat :=
 if x = [112, 112, 112] then 1 else if x = [105, 112] then 2 else if x = [105, 112, 54] then 3 else if x = [116, 99, 112] then 4 else if x = [117, 100, 112] then 5
 else if x = [105, 99, 109, 112] then 6 else if x = [105, 99, 109, 112, 54] then 7 else if x = [108, 99, 112] then 8 else if x = [112, 97, 112] then 9 else if x = [99, 104, 97, 112] then 10
 else if x = [105, 112, 99, 112] then 11 else if x = [105, 112, 54, 99, 112] then 12 else if x = [109, 112] then 13 else 0
def S7 (kind : Nat) (ts : List Tk) : Except Er (Nd × List Tk) :=
 if (hdT ts).kind = 3 then (match x1 (hdT ts).text with
  | some a => .ok ({ ndK kind with of := 2, addr := a ++ List.replicate 12 0 }, ts.tail)
  | none => x6 ts 112)
 else if (hdT ts).kind = 4 then (match x3 (hdT ts).text with
  | some a => .ok ({ ndK kind with of := 3, addr := a }, ts.tail)
  | none => x6 ts 112)
 else x6 ts 111
def p8 (ts : List Tk) : Nat := if isB ts g9 = true then 1 else if isB ts j5 = true then 2 else 0
def o9 (ts : List Tk) : List Tk := if p8 ts = 0 then ts else ts.tail
def sidedB (of at' side : Nat) (ts : List Tk) : Out :=
 if isB ts j1 = true then d8 (j8 ts.tail) fun p => .ok ([({ ndK 16 with of := of, side := side, n := p.1, m := p.1 }, at')], p.2)
 else if isB ts j4 = true then d8 (j8 ts.tail) fun p => d8 (l5 [45] p.2) fun r => d8 (j8 r) fun q => .ok ([({ ndK 16 with of := of, side := side, n := p.1, m := q.1 }, at')], q.2)
 else if of = 0 ∧ isB ts p9 = true then d8 (S7 14 ts.tail) fun p => .ok ([({ p.1 with side := side }, at')], p.2)
 else if of = 0 ∧ isB ts C9 = true then d8 (S7 15 ts.tail) fun p => d8 (l5 [47] p.2) fun r => d8 (j8 r) fun q => .ok ([({ p.1 with bits := q.1, side := side }, at')], q.2)
 else x6 ts 111
def Z9 (of at' : Nat) (ts : List Tk) : Out := sidedB of at' (p8 ts) (o9 ts)
def K9 (ts : List Tk) : Out :=
 if (hdT ts).text = W5 then .ok ([(ndK 2, (hdT ts).pos)], ts.tail)
 else if (hdT ts).text = W4 then .ok ([({ ndK 10 with side := 1 }, (hdT ts).pos)], ts.tail)
 else if (hdT ts).text = W6 then .ok ([({ ndK 10 with side := 2 }, (hdT ts).pos)], ts.tail)
 else if (hdT ts).text = q7 then d8 (j8 ts.tail) fun p => .ok ([({ ndK 12 with n := p.1 }, (hdT ts).pos)], p.2)
 else if (hdT ts).text ∈ [g9, j5, p9, C9, j1, j4] then Z9 0 (hdT ts).pos ts
 else x6 ts 111
def O6 (ts : List Tk) : Except Er (Nat × List Tk) :=
 if isB ts [58] = true then d8 (j8 ts.tail) fun p => d8 (l5 [93] p.2) fun r => .ok (p.1, r)
 else d8 (l5 [93] ts) fun r => .ok (1, r)
def N7 (rec : Nat → List Tk → Out) (nest of at' : Nat) (ts : List Tk) : Out :=
 if isB ts [91] = true ∧ of ≠ 13 then s9 nest ts (d8 (rec (nest + 1) ts.tail) fun p => d8 (O6 p.2) fun q => .ok (p.1 ++ [({ ndK 3 with of := of, size := q.1 }, at')], q.2))
 else if of = 1 then x6 ts 111
 else if (of = 2 ∨ of = 3) ∧ isB ts q7 = true then d8 (j8 ts.tail) fun p => .ok ([({ ndK 13 with of := of, n := p.1 }, at')], p.2)
 else if (of = 4 ∨ of = 5) ∧ (isB ts g9 = true ∨ isB ts j5 = true ∨ isB ts j1 = true ∨ isB ts j4 = true) then Z9 of at' ts
 else .ok ([({ ndK 11 with of := of }, at')], ts)
def J2 (rec : Nat → List Tk → Out) (nest : Nat) (ts : List Tk) : Out :=
 if (hdT ts).kind = 1 then .ok ([({ ndK 1 with n := (hdT ts).num }, (hdT ts).pos)], ts.tail)
 else if isB ts [40] = true then s9 nest ts (d8 (rec (nest + 1) ts.tail) fun p => d8 (l5 [41] p.2) fun r => .ok (p.1, r))
 else if (hdT ts).kind ≠ 2 then x6 ts 111
 else if l9 (hdT ts).text ≠ 0 then N7 rec nest (l9 (hdT ts).text) (hdT ts).pos ts.tail
 else K9 ts
def opT (k : Nat) (ts : List Tk) : Option Nd := if (hdT ts).kind = 5 ∨ (hdT ts).kind = 2 then l0 k (hdT ts).text else none
def x0 (rec : List Tk → Out) (k : Nat) : Nat → List (Nd × Nat) → List Tk → Out
 | 0, ns, ts => .ok (ns, ts)
 | f + 1, ns, ts => match opT k ts with
  | none => .ok (ns, ts)
  | some nd => d8 (rec ts.tail) fun p => if k = 4 then .ok (ns ++ p.1 ++ [(nd, (hdT ts).pos)], p.2) else x0 rec k f (ns ++ p.1 ++ [(nd, (hdT ts).pos)]) p.2
def J9 (rec : Nat → Nat → List Tk → Out) (k nest : Nat) (ts : List Tk) : Out :=
 if k = 3 ∧ (isB ts T4 = true ∨ isB ts [33] = true) then s9 nest ts (d8 (rec 3 (nest + 1) ts.tail) fun p => .ok (p.1 ++ [(ndK 9, (hdT ts).pos)], p.2))
 else if k = 11 ∧ isB ts [45] = true then s9 nest ts (d8 (rec 11 (nest + 1) ts.tail) fun p => .ok (p.1 ++ [(ndK 5, (hdT ts).pos)], p.2))
 else if k = 3 ∨ k = 11 then rec (k + 1) nest ts
 else if k = 12 then J2 (rec 1) nest ts
 else d8 (rec (k + 1) nest ts) fun p => x0 (rec (k + 1) nest) k p.2.length p.1 p.2
def d7 : Nat → Nat → Nat → List Tk → Out
 | 0 => fun _ _ _ => .error (0, 0)
 | f + 1 => J9 (d7 f)
theorem M3 (f k nest : Nat) (ts : List Tk) : d7 (f + 1) k nest ts = J9 (d7 f) k nest ts := rfl
def D4 (k : Nat) (ts : List Tk) : Nat := 13 * ts.length + (13 - k)
def V7 (ts : List Tk) : Except Er (List (Nd × Nat)) := d8 (d7 (D4 1 ts) 1 0 ts) fun p => if (hdT p.2).kind = 0 then .ok p.1 else x6 p.2 111
def J1 (s : List UInt8) : Except Er (List (Nd × Nat)) := d8 (E4 s) V7

end Go.Proofs.YtlfmddjppejmaaaGreatDoor
