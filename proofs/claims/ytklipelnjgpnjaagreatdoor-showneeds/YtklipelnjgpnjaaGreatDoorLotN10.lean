import Derived.Test.YtklipelnjgpnjaaGreatDoorLotN9
import Derived.Test.YtklipelnjgpnjaaGreatDoorLotN2
import Derived.Test.YtklipelnjgpnjaaGreatDoorLotN1
import Derived.Test.YtklipelnjgpnjaaGreatDoorLotN4
import Derived.Deep.RegionHeld3
import Derived.Test.YtklipelnjgpnjaaGreatDoorLotN6
import Derived.Test.YtklipelnjgpnjaaGreatDoorLotN5
import Derived.Test.YtklipelnjgpnjaaGreatDoorLotN8
namespace Go.Proofs.YtklipelnjgpnjaaGreatDoor
open Go.RowKit
set_option maxRecDepth 100000
def d5 (x : Ng) : Int :=
 if x.kind = 8 then 1 else if x.kind = 7 then 2 else if x.kind = 9 then 3 else if x.kind = 6 then 4 else if x.kind = 5 then 11 else if x.kind ≠ 4 then 12
 else if x.op = 7 then 5 else if x.op = 8 then 6 else if x.op = 6 then 7 else if x.op = 9 ∨ x.op = 10 then 8 else if x.op = 1 ∨ x.op = 2 then 9 else 10
def t7 (k : Int) : List UInt8 :=
 if k = 1 then [112, 112, 112] else if k = 2 then [105, 112] else if k = 3 then [105, 112, 54] else if k = 4 then [116, 99, 112] else if k = 5 then [117, 100, 112] else if k = 6 then [105, 99, 109, 112] else if k = 7 then [105, 99, 109, 112, 54] else if k = 8 then [108, 99, 112] else if k = 9 then [112, 97, 112] else if k = 10 then [99, 104, 97, 112] else if k = 11 then [105, 112, 99, 112] else if k = 12 then [105, 112, 54, 99, 112] else if k = 13 then [109, 112] else []
def a2u (k : Int) : List UInt8 :=
 if k = 1 then [61] else if k = 2 then [33, 61] else if k = 3 then [60] else if k = 4 then [60, 61] else if k = 5 then [62] else if k = 6 then [62, 61] else []
def a2n (k : Int) : List UInt8 :=
 if k = 1 then [43] else if k = 2 then [45] else if k = 3 then [42] else if k = 4 then [47] else if k = 5 then [37] else if k = 6 then [38] else if k = 7 then [124] else if k = 8 then [94] else if k = 9 then [60, 60] else if k = 10 then [62, 62] else []
def U4 (x : Ng) : List UInt8 := if x.kind = 7 then [97, 110, 100] else if x.kind = 8 then [111, 114] else if x.kind = 6 then a2u x.op else a2n x.op
def a0P (k : Int) : List UInt8 := if k = 1 then [115, 114, 99, 32] else if k = 2 then [100, 115, 116, 32] else []
def I0 (x : Ng) : List UInt8 := if x.of = 3 then a01 (d8 (k8 x)) else T3 ((k8 x).take 4)
def x6 (x : Ng) : List UInt8 :=
 if x.kind = 1 then dec x.n
 else if x.kind = 2 then [108, 101, 110]
 else if x.kind = 10 then (if x.side = 1 then [105, 110, 98, 111, 117, 110, 100] else [111, 117, 116, 98, 111, 117, 110, 100])
 else if x.kind = 11 then t7 x.of
 else if x.kind = 12 then [112, 114, 111, 116, 111, 32] ++ dec x.n
 else if x.kind = 13 then t7 x.of ++ [32, 112, 114, 111, 116, 111, 32] ++ dec x.n
 else if x.kind = 14 then a0P x.side ++ [104, 111, 115, 116, 32] ++ I0 x
 else if x.kind = 15 then a0P x.side ++ [110, 101, 116, 32] ++ I0 x ++ [47] ++ dec x.bits.toNat
 else (if x.of = 0 then [] else t7 x.of ++ [32]) ++ a0P x.side ++ (if x.n = x.m then [112, 111, 114, 116, 32] ++ dec x.n else [112, 111, 114, 116, 114, 97, 110, 103, 101, 32] ++ dec x.n ++ [45] ++ dec x.m)
def U5 (n : Int) : List UInt8 := if n = 1 then [] else [58] ++ dec n.toNat

inductive Tr where
 | leaf (x : Ng)
 | one (x : Ng) (p : Tr)
 | two (x : Ng) (p q : Tr)
def Tr.root : Tr → Ng
 | .leaf x => x
 | .one x _ => x
 | .two x _ _ => x
def Tr.flat : Tr → List Ng
 | .leaf x => [x]
 | .one x p => p.flat ++ [x]
 | .two x p q => p.flat ++ q.flat ++ [x]
def Tr.Wf : Tr → Prop
 | .leaf x => arG x.kind = some 0
 | .one x p => arG x.kind = some 1 ∧ p.Wf
 | .two x p q => arG x.kind = some 2 ∧ p.Wf ∧ q.Wf
def y9 (want : Bool) (r : List UInt8 × Nat) : List UInt8 × Nat := if want = true then ([40] ++ r.1 ++ [41], r.2 + 1) else r
def D2 (full : Bool) (row least : Int) : Bool := (full && decide (row < 12)) || decide (row < least)
def Tr.txt (full : Bool) : Tr → List UInt8 × Nat
 | .leaf x => (x6 x, 0)
 | .one x p =>
  if x.kind = 3 then (t7 x.of ++ [91] ++ (p.txt full).1 ++ U5 x.size ++ [93], (p.txt full).2 + 1)
  else ((if x.kind = 9 then [110, 111, 116, 32] else [45]) ++ (y9 (D2 full (d5 p.root) (d5 x)) (p.txt full)).1, (y9 (D2 full (d5 p.root) (d5 x)) (p.txt full)).2 + 1)
 | .two x p q =>
  ((y9 (D2 full (d5 p.root) (if d5 x = 4 then 5 else d5 x)) (p.txt full)).1 ++ [32] ++ U4 x ++ [32] ++ (y9 (D2 full (d5 q.root) (d5 x + 1)) (q.txt full)).1,
   max (y9 (D2 full (d5 p.root) (if d5 x = 4 then 5 else d5 x)) (p.txt full)).2 (y9 (D2 full (d5 q.root) (d5 x + 1)) (q.txt full)).2)
theorem Tr.flat_last (T : Tr) : ∃ l, T.flat = l ++ [T.root] := by
 cases T with
 | leaf x => exact ⟨[], rfl⟩
 | one x p => exact ⟨p.flat, rfl⟩
 | two x p q => exact ⟨p.flat ++ q.flat, rfl⟩
theorem Tr.flat_ne (T : Tr) : T.flat ≠ [] := by
 obtain ⟨l, h⟩ := T.flat_last
 rw [h]
 simp
theorem Tr.flat_left : ∀ {T : Tr}, T.Wf → s9 0 T.flat = some 1
 | .leaf x, h => by
  have h : arG x.kind = some 0 := h
  simp [Tr.flat, s9, h]
 | .one x p, h => by
  obtain ⟨h1, h2⟩ : arG x.kind = some 1 ∧ p.Wf := h
  refine a2e p.flat [x] 0 1 1 (Tr.flat_left h2) ?_
  simp [s9, h1]
 | .two x p q, h => by
  obtain ⟨h1, h2, h3⟩ : arG x.kind = some 2 ∧ p.Wf ∧ q.Wf := h
  refine a2e (p.flat ++ q.flat) [x] 0 2 1 (a2e p.flat q.flat 0 1 2 (Tr.flat_left h2) ?_) ?_
  ·exact a5Z q.flat 0 1 1 (Tr.flat_left h3)
  ·simp [s9, h1]
theorem a4R : ∀ (n : Nat) (t : List Ng), t.length ≤ n → s9 0 t = some 1 → ∃ T : Tr, T.Wf ∧ T.flat = t
 | 0, t, hn, h => by
  obtain rfl : t = [] := List.eq_nil_of_length_eq_zero (by omega)
  cases h
 | n + 1, t, hn, h => by
  obtain ⟨pss, hp⟩ := aM6.1 h
  obtain ⟨x, a, ht, ha, hl, -⟩ := a9r hp
  have htr := a9t hp
  have hlen : pss.flatten.length ≤ n := by
   have := congrArg List.length ht
   rw [List.length_append, List.length_singleton] at this
   omega
  match pss, hl, ht, htr, hlen with
  | [], hl, ht, _, _ =>
   exact ⟨.leaf x, by show arG x.kind = some 0; rw [ha, ← hl]; rfl, by rw [ht]; rfl⟩
  | [p], hl, ht, htr, hlen =>
   obtain ⟨P, hP, hPf⟩ := a4R n p (by simpa using hlen) (htr p (by simp))
   exact ⟨.one x P, ⟨by rw [ha, ← hl]; rfl, hP⟩, by rw [ht, Tr.flat, hPf]; simp⟩
  | [p, q], hl, ht, htr, hlen =>
   simp only [List.flatten_cons, List.flatten_nil, List.append_nil, List.length_append] at hlen
   obtain ⟨P, hP, hPf⟩ := a4R n p (by omega) (htr p (by simp))
   obtain ⟨Q, hQ, hQf⟩ := a4R n q (by omega) (htr q (by simp))
   exact ⟨.two x P Q, ⟨by rw [ha, ← hl]; rfl, hP, hQ⟩, by rw [ht, Tr.flat, hPf, hQf]; simp⟩
  | p :: q :: r :: s, hl, _, _, _ =>
   have := a1G ha
   simp only [List.length_cons] at hl
   omega
def BW (w W : World) (B : Nat) (y : Ng) : Prop := NB W B y ∧ NB W (B + 1) ngZ ∧ w.grownBy W none
theorem a94 {W : World} {B C j : Nat} {x : Ng} {v : Value} (h : NB W B x) (hk : B ≠ C) : NB (W.setCell ⟨C, j, none⟩ v) B x := by
 unfold NB VAt at *
 simp only [World.setCell, Array.getElem?_modify, if_neg (Ne.symm hk)]
 exact h
theorem BW.set {w W : World} {B : Nat} {y z : Ng} (h : BW w W B y) (hB : w.heap.size ≤ B) (j : Nat) (v : Value) (e : y.cells.toArray.setIfInBounds j v = z.cells.toArray) : BW w (W.setCell ⟨B, j, none⟩ v) B z := by
 refine ⟨?_, a94 h.2.1 (by omega), N8 h.2.2 _ _ (.inr hB)⟩
 have := VAt.set h.1 j v
 rw [e] at this
 exact this
theorem BW.kept {w W W' : World} {B : Nat} {y : Ng} (h : BW w W B y) (K : W.grownBy W' none) : BW w W' B y := ⟨h.1.kept K, h.2.1.kept K, d3 h.2.2 K⟩

end Go.Proofs.YtklipelnjgpnjaaGreatDoor
