import Derived.Test.YtlfmddjppejmaaaGreatDoorqLotQ14
namespace Go.Proofs.YtlfmddjppejmaaaGreatDoor
open Go.RowKit
set_option maxRecDepth 100000
structure Rt where
 ts : List Tk
 nest : Int
 ns : List (Nd × Nat)
 er : Option Er
def tkZ : Tk := ⟨0, 0, [], 0⟩
def Rt.now (s : Rt) : Tk := if s.er = none then hdT s.ts else tkZ
def Rt.is (s : Rt) (x : List UInt8) : Bool := (s.now.kind == 5 || s.now.kind == 2) && s.now.text == x
def Rt.kind (s : Rt) (k : Nat) : Bool := s.er.isNone && s.now.kind == k
def Rt.next (s : Rt) : Rt := if s.er = none then { s with ts := s.ts.tail } else s
def Rt.fail (s : Rt) (e : Int) : Rt := if s.er = none then { s with er := some (s.now.pos, if s.now.kind = 0 then 110 else e) } else s
def Rt.must (s : Rt) (x : List UInt8) : Rt := if s.is x = true then s.next else s.fail 111
def Rt.num (s : Rt) : Nat := if s.kind 1 = true then s.now.num else 0
def Rt.number (s : Rt) : Rt := if s.kind 1 = true then s.next else s.fail 111
def Rt.lay (s : Rt) (n : Nd) (p : Nat) : Rt := if s.er = none then { s with ns := s.ns ++ [(n, p)] } else s
def Rt.opn (s : Rt) : Rt := if s.er = none ∧ s.nest = 200 then { s with er := some (s.now.pos, 113) } else ({ s with nest := s.nest + 1 } : Rt).next
def Rt.down (s : Rt) : Rt := { s with nest := s.nest - 1 }
def j6 (k : Nat) (t : Tk) : Option Nd :=
 if t.kind = 3 then (x1 t.text).map fun a => { ndK k with of := 2, addr := a ++ List.replicate 12 0 }
 else if t.kind = 4 then (x3 t.text).map fun a => { ndK k with of := 3, addr := a }
 else none
def Rt.address (s : Rt) : Rt := if (j6 0 s.now).isSome = true then s.next else if s.now.kind = 3 ∨ s.now.kind = 4 then s.fail 112 else s.fail 111
def Rt.side (s : Rt) : Nat := if s.is g9 = true then 1 else if s.is j5 = true then 2 else 0
def Rt.sideS (s : Rt) : Rt := if s.is g9 = true then s.next else if s.is j5 = true then s.next else s
def Rt.sidedB (s : Rt) (of at' side : Nat) : Rt :=
 if s.is j1 = true then s.next.number.lay { ndK 16 with of := of, side := side, n := s.next.num, m := s.next.num } at'
 else if s.is j4 = true then (s.next.number.must [45]).number.lay { ndK 16 with of := of, side := side, n := s.next.num, m := (s.next.number.must [45]).num } at'
 else if of = 0 ∧ s.is p9 = true then s.next.address.lay { ((j6 14 s.next.now).getD nd0) with side := side } at'
 else if of = 0 ∧ s.is C9 = true then (s.next.address.must [47]).number.lay { ((j6 15 s.next.now).getD nd0) with bits := (s.next.address.must [47]).num, side := side } at'
 else s.fail 111
def Rt.sided (s : Rt) (of at' : Nat) : Rt := s.sideS.sidedB of at' s.side
def Rt.word (s : Rt) : Rt :=
 if s.now.text = W5 then s.next.lay (ndK 2) s.now.pos
 else if s.now.text = W4 then s.next.lay { ndK 10 with side := 1 } s.now.pos
 else if s.now.text = W6 then s.next.lay { ndK 10 with side := 2 } s.now.pos
 else if s.now.text = q7 then s.next.number.lay { ndK 12 with n := s.next.num } s.now.pos
 else if s.now.text ∈ [g9, j5, p9, C9, j1, j4] then s.sided 0 s.now.pos
 else s.fail 111
def Rt.sizeN (s : Rt) : Nat := if s.is [58] = true then s.next.num else 1
def Rt.sizeS (s : Rt) : Rt := if s.is [58] = true then s.next.number else s
def Rt.name (rec : Rt → Rt) (s : Rt) (of at' : Nat) : Rt :=
 if s.is [91] = true ∧ of ≠ 13 then ((((rec s.opn).sizeS).must [93]).down).lay { ndK 3 with of := of, size := (rec s.opn).sizeN } at'
 else if of = 1 then s.fail 111
 else if (of = 2 ∨ of = 3) ∧ s.is q7 = true then s.next.number.lay { ndK 13 with of := of, n := s.next.num } at'
 else if (of = 4 ∨ of = 5) ∧ (s.is g9 = true ∨ s.is j5 = true ∨ s.is j1 = true ∨ s.is j4 = true) then s.sided of at'
 else s.lay { ndK 11 with of := of } at'
def Rt.part (rec : Rt → Rt) (s : Rt) : Rt :=
 if s.now.kind = 1 then s.next.lay { ndK 1 with n := s.now.num } s.now.pos
 else if s.is [40] = true then ((rec s.opn).must [41]).down
 else if s.now.kind ≠ 2 then s.fail 111
 else if l9 s.now.text ≠ 0 then s.next.name rec (l9 s.now.text) s.now.pos
 else s.word
def Rt.loop (rec : Rt → Rt) (k : Nat) : Nat → Rt → Rt
 | 0, s => s
 | f + 1, s =>
  if s.er = none ∧ (s.now.kind = 5 ∨ s.now.kind = 2) then (match l0 k s.now.text with
   | none => s
   | some n => if k = 4 then (rec s.next).lay n s.now.pos else Rt.loop rec k f ((rec s.next).lay n s.now.pos))
  else s
def Rt.row : Nat → Nat → Rt → Rt
 | 0, _, s => s
 | f + 1, k, s =>
  if s.er ≠ none then s
  else if k = 3 ∧ (s.is T4 = true ∨ s.is [33] = true) then ((Rt.row f 3 s.opn).down).lay (ndK 9) s.now.pos
  else if k = 11 ∧ s.is [45] = true then ((Rt.row f 11 s.opn).down).lay (ndK 5) s.now.pos
  else if k = 3 ∨ k = 11 then Rt.row f (k + 1) s
  else if k = 12 then s.part (Rt.row f 1)
  else (Rt.row f (k + 1) s).loop (Rt.row f (k + 1)) k (Rt.row f (k + 1) s).ts.length
def L7 (s : Rt) (x : Out) (s' : Rt) : Prop := match x with
 | .ok (ns, r) => s' = { s with ts := r, ns := s.ns ++ ns }
 | .error e => s'.er = some e
theorem E9 {s : Rt} (h : s.er = none) : s.now = hdT s.ts := by unfold Rt.now; rw [if_pos h]
theorem I2 {s : Rt} (h : s.er = none) (x : List UInt8) : s.is x = isB s.ts x := by unfold Rt.is isB; rw [E9 h]
theorem x8 {s : Rt} (h : s.er = none) : s.next = { s with ts := s.ts.tail } := by unfold Rt.next; rw [if_pos h]
theorem a07 {s : Rt} (h : s.er = none) : s.next.er = none := by rw [x8 h]; exact h
theorem a0j {s : Rt} (h : s.er = none) (k : Nat) : s.kind k = ((hdT s.ts).kind == k) := by unfold Rt.kind; rw [E9 h, h]; simp
theorem a0f {s : Rt} (h : s.er = none) (e : Int) : (s.fail e).er = some ((hdT s.ts).pos, if (hdT s.ts).kind = 0 then 110 else e) := by unfold Rt.fail; rw [if_pos h, E9 h]
theorem a1D {s : Rt} {x : Er} (h : s.er = some x) (e : Int) : s.fail e = s := by unfold Rt.fail; rw [if_neg (by rw [h]; simp)]
theorem a2H {s : Rt} {x : Er} (h : s.er = some x) : s.next = s := by unfold Rt.next; rw [if_neg (by rw [h]; simp)]
theorem a1p {s : Rt} {x : Er} (h : s.er = some x) : s.now = tkZ := by unfold Rt.now; rw [if_neg (by rw [h]; simp)]
theorem a2y {s : Rt} {x : Er} (h : s.er = some x) (y : List UInt8) : s.is y = false := by unfold Rt.is; rw [a1p h]; rfl
theorem a2z {s : Rt} {x : Er} (h : s.er = some x) (k : Nat) : s.kind k = false := by unfold Rt.kind; rw [h]; rfl
theorem a0l {s : Rt} {x : Er} (h : s.er = some x) (y : List UInt8) : s.must y = s := by unfold Rt.must; rw [a2y h, if_neg (by simp), a1D h]
theorem a1R {s : Rt} {x : Er} (h : s.er = some x) : s.number = s := by unfold Rt.number; rw [a2z h, if_neg (by simp), a1D h]
theorem P8 {s : Rt} {x : Er} (h : s.er = some x) (n : Nd) (p : Nat) : s.lay n p = s := by unfold Rt.lay; rw [if_neg (by rw [h]; simp)]
theorem X3 {s : Rt} (h : s.er = none) (n : Nd) (p : Nat) : s.lay n p = { s with ns := s.ns ++ [(n, p)] } := by unfold Rt.lay; rw [if_pos h]
theorem a5n {s : Rt} {x : Er} (h : s.er = some x) : s.sizeS = s := by unfold Rt.sizeS; rw [a2y h, if_neg (by simp)]
theorem a23 (f k : Nat) {s : Rt} {x : Er} (h : s.er = some x) : Rt.row f k s = s := by
 cases f with
 | zero => rfl
 | succ f => rw [Rt.row, if_pos (by rw [h]; simp)]
theorem a2L {s : Rt} (h : s.er = none) : (∀ n r, j8 s.ts = .ok (n, r) → s.num = n ∧ s.number = { s with ts := r }) ∧ ∀ e, j8 s.ts = .error e → s.number.er = some e := by
 unfold j8 Rt.num Rt.number
 rw [a0j h]
 by_cases hk : (hdT s.ts).kind = 1
 ·rw [if_pos hk]
  refine ⟨fun n r e => ?_, fun e he => by cases he⟩
  cases e
  rw [if_pos (by simpa using hk), if_pos (by simpa using hk), E9 h, x8 h]
  exact ⟨rfl, rfl⟩
 ·rw [if_neg hk]
  refine ⟨fun n r e => (by unfold x6 at e; cases e), fun e he => ?_⟩
  unfold x6 at he
  cases he
  rw [if_neg (by simpa using hk), a0f h]
theorem a1m {s : Rt} (h : s.er = none) (x : List UInt8) : (∀ r, l5 x s.ts = .ok r → s.must x = { s with ts := r }) ∧ ∀ e, l5 x s.ts = .error e → (s.must x).er = some e := by
 unfold l5 Rt.must
 rw [I2 h]
 by_cases hk : isB s.ts x = true
 ·rw [if_pos hk, if_pos hk]
  refine ⟨fun r e => ?_, fun e he => by cases he⟩
  cases e
  exact x8 h
 ·rw [if_neg hk, if_neg hk]
  refine ⟨fun r e => (by unfold x6 at e; cases e), fun e he => ?_⟩
  unfold x6 at he
  cases he
  rw [a0f h]
theorem a3n (k : Nat) {s : Rt} (h : s.er = none) : (∀ d r, S7 k s.ts = .ok (d, r) → j6 k s.now = some d ∧ s.address = { s with ts := r }) ∧ ∀ e, S7 k s.ts = .error e → s.address.er = some e := by
 have hs : (j6 0 s.now).isSome = (j6 k s.now).isSome := by
  unfold j6
  split
  ·cases x1 s.now.text <;> rfl
  ·split
   ·cases x3 s.now.text <;> rfl
   ·rfl
 unfold Rt.address
 rw [hs, E9 h]
 unfold S7 j6
 by_cases h3 : (hdT s.ts).kind = 3
 ·rw [if_pos h3, if_pos h3]
  cases hp : x1 (hdT s.ts).text with
  | none =>
   refine ⟨fun d r e => (by unfold x6 at e; cases e), fun e he => ?_⟩
   unfold x6 at he
   cases he
   rw [if_neg (by simp), if_pos (.inl h3), a0f h]
  | some a =>
   refine ⟨fun d r e => ?_, fun e he => (by cases he)⟩
   cases e
   refine ⟨rfl, ?_⟩
   rw [if_pos (by simp), x8 h]
 ·rw [if_neg h3, if_neg h3]
  by_cases h4 : (hdT s.ts).kind = 4
  ·rw [if_pos h4, if_pos h4]
   cases hp : x3 (hdT s.ts).text with
   | none =>
    refine ⟨fun d r e => (by unfold x6 at e; cases e), fun e he => ?_⟩
    unfold x6 at he
    cases he
    rw [if_neg (by simp), if_pos (.inr h4), a0f h]
   | some a =>
    refine ⟨fun d r e => ?_, fun e he => (by cases he)⟩
    cases e
    refine ⟨rfl, ?_⟩
    rw [if_pos (by simp), x8 h]
  ·rw [if_neg h4, if_neg h4]
   refine ⟨fun d r e => (by unfold x6 at e; cases e), fun e he => ?_⟩
   unfold x6 at he
   cases he
   rw [if_neg (by simp), if_neg (by omega), a0f h]
theorem a1A {s : Rt} (h : s.er = none) (e : Int) : L7 s (x6 s.ts e) (s.fail e) := a0f h e
theorem a1c {s : Rt} (h : s.er = none) (nd : Nat → Nd) (at' : Nat) : L7 s (d8 (j8 s.ts) fun p => .ok ([(nd p.1, at')], p.2)) (s.number.lay (nd s.num) at') := by
 obtain ⟨h1, h2⟩ := a2L h
 cases hn : j8 s.ts with
 | error e =>
  have := h2 e hn
  rw [N2, P8 this]
  exact this
 | ok p =>
  obtain ⟨n, r⟩ := p
  obtain ⟨g1, g2⟩ := h1 n r hn
  rw [q9, g1, g2, X3 (by exact h)]
  rfl
theorem a0e {s s1 : Rt} {x : Out} {s' : Rt} (hn : s1.nest = s.nest) (hs : s1.ns = s.ns) (he : s1.er = s.er) (h : L7 s1 x s') : L7 s x s' := by
 unfold L7 at *
 split at h
 ·rw [h, hn, hs, he]
 ·exact h
theorem ae7 {s : Rt} (h : s.er = none) (of at' side : Nat) : L7 s (sidedB of at' side s.ts) (s.sidedB of at' side) := by
 unfold sidedB Rt.sidedB
 rw [I2 h, I2 h, I2 h, I2 h]
 have hn := a07 h
 have e1 : s.next.ts = s.ts.tail := by rw [x8 h]
 have hc : ∀ x s', L7 s.next x s' → L7 s x s' := fun x s' => a0e (by rw [x8 h]) (by rw [x8 h]) (by rw [hn, h])
 split
 ·have := a1c hn (fun n => { ndK 16 with of := of, side := side, n := n, m := n }) at'
  rw [e1] at this
  exact hc _ _ this
 ·split
  ·obtain ⟨n1, n2⟩ := a2L hn
   rw [e1] at n1 n2
   cases hx : j8 s.ts.tail with
   | error e =>
    have := n2 e hx
    rw [N2, a0l this, a1R this, P8 this]
    exact this
   | ok p =>
    obtain ⟨n, r⟩ := p
    obtain ⟨g1, g2⟩ := n1 n r hx
    rw [q9, g1, g2]
    have hr : ({ s.next with ts := r } : Rt).er = none := hn
    obtain ⟨m1, m2⟩ := a1m hr [45]
    cases hy : l5 [45] r with
    | error e =>
     have := m2 e hy
     rw [N2, a1R this, P8 this]
     exact this
    | ok r2 =>
     rw [q9, m1 r2 hy]
     have := a1c (s := { s.next with ts := r2 }) hn (fun m => { ndK 16 with of := of, side := side, n := n, m := m }) at'
     exact hc _ _ (a0e rfl rfl rfl this)
  ·split
   ·obtain ⟨a1, a2⟩ := a3n 14 hn
    rw [e1] at a1 a2
    cases hx : S7 14 s.ts.tail with
    | error e =>
     have := a2 e hx
     rw [N2, P8 this]
     exact this
    | ok p =>
     obtain ⟨d, r⟩ := p
     obtain ⟨g1, g2⟩ := a1 d r hx
     rw [q9, g1, g2, X3 (by exact hn)]
     show _ = _
     rw [x8 h]
     rfl
   ·split
    ·obtain ⟨a1, a2⟩ := a3n 15 hn
     rw [e1] at a1 a2
     cases hx : S7 15 s.ts.tail with
     | error e =>
      have := a2 e hx
      rw [N2, a0l this, a1R this, P8 this]
      exact this
     | ok p =>
      obtain ⟨d, r⟩ := p
      obtain ⟨g1, g2⟩ := a1 d r hx
      rw [q9, g1, g2]
      have hr : ({ s.next with ts := r } : Rt).er = none := hn
      obtain ⟨m1, m2⟩ := a1m hr [47]
      cases hy : l5 [47] r with
      | error e =>
       have := m2 e hy
       rw [N2, a1R this, P8 this]
       exact this
      | ok r2 =>
       rw [q9, m1 r2 hy]
       have := a1c (s := { s.next with ts := r2 }) hn (fun b => { d with bits := b, side := side }) at'
       exact hc _ _ (a0e rfl rfl rfl this)
    ·exact a1A h _
theorem a5j {s : Rt} (h : s.er = none) (of at' : Nat) : L7 s (Z9 of at' s.ts) (s.sided of at') := by
 have hs : s.side = p8 s.ts := by unfold Rt.side p8; rw [I2 h, I2 h]
 have hS : s.sideS = { s with ts := o9 s.ts } := by
  unfold Rt.sideS o9 p8
  rw [I2 h, I2 h, x8 h]
  split
  ·rw [if_neg (by simp)]
  ·split
   ·rw [if_neg (by simp)]
   ·rw [if_pos rfl]
 unfold Z9 Rt.sided
 rw [hs, hS]
 exact a0e rfl rfl rfl (ae7 (s := { s with ts := o9 s.ts }) h of at' _)
theorem ai1 {s : Rt} (h : s.er = none) : L7 s (K9 s.ts) s.word := by
 unfold K9 Rt.word
 rw [E9 h]
 have hn := a07 h
 have e1 : s.next.ts = s.ts.tail := by rw [x8 h]
 have hl : ∀ n p, L7 s (.ok ([(n, p)], s.ts.tail)) (s.next.lay n p) := fun n p => by
  rw [X3 hn]
  show _ = _
  rw [x8 h]
 split
 ·exact hl _ _
 ·split
  ·exact hl _ _
  ·split
   ·exact hl _ _
   ·split
    ·have := a1c hn (fun n => { ndK 12 with n := n }) (hdT s.ts).pos
     rw [e1] at this
     exact a0e (by rw [x8 h]) (by rw [x8 h]) (by rw [hn, h]) this
    ·split
     ·exact a5j h _ _
     ·exact a1A h _
theorem a7K {s : Rt} {x : Er} (h : s.er = some x) (y : List UInt8) : (s.must y).er = some x := by rw [a0l h]; exact h
theorem a1T {s : Rt} (h : s.er = none) (hn : s.nest = 200) : s.opn.er = some ((hdT s.ts).pos, 113) := by
 unfold Rt.opn
 rw [if_pos ⟨h, hn⟩, E9 h]
theorem a0p {s : Rt} (h : s.er = none) (hn : s.nest ≠ 200) : s.opn = { s with nest := s.nest + 1, ts := s.ts.tail } := by
 unfold Rt.opn
 rw [if_neg (fun x => hn x.2)]
 exact x8 (s := { s with nest := s.nest + 1 }) h
theorem ag0 {s : Rt} (h : s.er = none) : (∀ n r, O6 s.ts = .ok (n, r) → s.sizeN = n ∧ s.sizeS.must [93] = { s with ts := r }) ∧ ∀ e, O6 s.ts = .error e → (s.sizeS.must [93]).er = some e := by
 unfold O6 Rt.sizeN Rt.sizeS
 rw [I2 h]
 by_cases hb : isB s.ts [58] = true
 ·rw [if_pos hb, if_pos hb, if_pos hb]
  have hn := a07 h
  have e1 : s.next.ts = s.ts.tail := by rw [x8 h]
  obtain ⟨n1, n2⟩ := a2L hn
  rw [e1] at n1 n2
  cases hx : j8 s.ts.tail with
  | error e =>
   rw [N2]
   refine ⟨fun n r e => (by cases e), fun e' he => ?_⟩
   cases he
   exact a7K (n2 e hx) _
  | ok p =>
   obtain ⟨n, r⟩ := p
   obtain ⟨g1, g2⟩ := n1 n r hx
   rw [q9, g1, g2]
   obtain ⟨m1, m2⟩ := a1m (s := { s.next with ts := r }) hn [93]
   cases hy : l5 [93] r with
   | error e =>
    rw [N2]
    refine ⟨fun n r e => (by cases e), fun e' he => ?_⟩
    cases he
    exact m2 e hy
   | ok r2 =>
    rw [q9]
    refine ⟨fun n' r' e => ?_, fun e' he => (by cases he)⟩
    cases e
    refine ⟨rfl, ?_⟩
    rw [m1 r2 hy, x8 h]
 ·rw [if_neg hb, if_neg hb, if_neg hb]
  obtain ⟨m1, m2⟩ := a1m h [93]
  cases hy : l5 [93] s.ts with
  | error e =>
   rw [N2]
   refine ⟨fun n r e => (by cases e), fun e' he => ?_⟩
   cases he
   exact m2 e hy
  | ok r2 =>
   rw [q9]
   refine ⟨fun n' r' e => ?_, fun e' he => (by cases he)⟩
   cases e
   exact ⟨rfl, m1 r2 hy⟩
def RcO (rec : Nat → List Tk → Out) (recR : Rt → Rt) : Prop :=
 (∀ s x, s.er = some x → recR s = s) ∧ ∀ (s : Rt) (n : Nat), s.er = none → s.nest = (n : Int) → rec n s.ts ≠ .error exP → L7 s (rec n s.ts) (recR s)
theorem a7N {rec : Nat → List Tk → Out} {recR : Rt → Rt} (hr : RcO rec recR) {s : Rt} (h : s.er = none) {n : Nat} (hn : s.nest = (n : Int)) (of at' : Nat) (hx : N7 rec n of at' s.ts ≠ .error exP) : L7 s (N7 rec n of at' s.ts) (s.name recR of at') := by
 unfold N7 Rt.name at *
 rw [I2 h, I2 h, I2 h, I2 h, I2 h, I2 h]
 by_cases hb : isB s.ts [91] = true ∧ of ≠ 13
 ·rw [if_pos hb] at hx ⊢
  rw [if_pos hb]
  unfold s9 at *
  by_cases h200 : n = 200
  ·rw [if_pos h200] at hx ⊢
   have ho := a1T h (by rw [hn, h200]; rfl)
   rw [hr.1 _ _ ho, a5n ho, a0l ho]
   have hd : (s.opn.down).er = some ((hdT s.ts).pos, 113) := ho
   rw [P8 hd]
   exact hd
  ·rw [if_neg h200] at hx ⊢
   have ho := a0p h (by rw [hn]; omega)
   have hc := hr.2 s.opn (n + 1) (by rw [ho]; exact h) (by rw [ho]; show s.nest + 1 = _; rw [hn]; rfl)
   rw [show s.opn.ts = s.ts.tail by rw [ho]] at hc
   cases hz : rec (n + 1) s.ts.tail with
   | error e =>
    rw [hz] at hx hc
    rw [N2] at hx ⊢
    have he : (recR s.opn).er = some e := hc (fun h => hx (by cases h; rfl))
    rw [a5n he, a0l he]
    have hd : ((recR s.opn).down).er = some e := he
    rw [P8 hd]
    exact hd
   | ok p =>
    obtain ⟨ns, r⟩ := p
    rw [hz] at hx hc
    rw [q9] at hx ⊢
    have he : recR s.opn = { s.opn with ts := r, ns := s.opn.ns ++ ns } := hc (by simp)
    have he0 : (recR s.opn).er = none := by rw [he, ho]; exact h
    obtain ⟨z1, z2⟩ := ag0 he0
    rw [show (recR s.opn).ts = r by rw [he]] at z1 z2
    cases hq : O6 r with
    | error e =>
     have := z2 e hq
     rw [N2]
     have hd : (((recR s.opn).sizeS.must [93]).down).er = some e := this
     rw [P8 hd]
     exact hd
    | ok q =>
     obtain ⟨m, r2⟩ := q
     obtain ⟨y1, y2⟩ := z1 m r2 hq
     rw [q9, y1, y2, X3 (by exact he0)]
     show _ = _
     rw [he, ho]
     unfold Rt.down
     simp
 ·rw [if_neg hb] at hx ⊢
  rw [if_neg hb]
  by_cases h1 : of = 1
  ·rw [if_pos h1, if_pos h1]
   exact a1A h _
  ·rw [if_neg h1] at hx ⊢
   rw [if_neg h1]
   by_cases h2 : (of = 2 ∨ of = 3) ∧ isB s.ts q7 = true
   ·rw [if_pos h2, if_pos h2]
    have hne := a07 h
    have := a1c hne (fun m => { ndK 13 with of := of, n := m }) at'
    rw [show s.next.ts = s.ts.tail by rw [x8 h]] at this
    exact a0e (by rw [x8 h]) (by rw [x8 h]) (by rw [hne, h]) this
   ·rw [if_neg h2] at hx ⊢
    rw [if_neg h2]
    by_cases h4 : (of = 4 ∨ of = 5) ∧ (isB s.ts g9 = true ∨ isB s.ts j5 = true ∨ isB s.ts j1 = true ∨ isB s.ts j4 = true)
    ·rw [if_pos h4, if_pos h4]
     exact a5j h _ _
    ·rw [if_neg h4, if_neg h4, X3 h]
     show _ = _
     rfl
theorem a8z {rec : Nat → List Tk → Out} {recR : Rt → Rt} (hr : RcO rec recR) {s : Rt} (h : s.er = none) {n : Nat} (hn : s.nest = (n : Int)) (hx : J2 rec n s.ts ≠ .error exP) : L7 s (J2 rec n s.ts) (s.part recR) := by
 unfold J2 Rt.part at *
 rw [I2 h, E9 h]
 by_cases h1 : (hdT s.ts).kind = 1
 ·rw [if_pos h1, if_pos h1, X3 (a07 h)]
  show _ = _
  rw [x8 h]
 ·rw [if_neg h1] at hx ⊢
  rw [if_neg h1]
  by_cases hb : isB s.ts [40] = true
  ·rw [if_pos hb] at hx ⊢
   rw [if_pos hb]
   unfold s9 at *
   by_cases h200 : n = 200
   ·rw [if_pos h200] at hx ⊢
    have ho := a1T h (by rw [hn, h200]; rfl)
    rw [hr.1 _ _ ho, a0l ho]
    exact ho
   ·rw [if_neg h200] at hx ⊢
    have ho := a0p h (by rw [hn]; omega)
    have hc := hr.2 s.opn (n + 1) (by rw [ho]; exact h) (by rw [ho]; show s.nest + 1 = _; rw [hn]; rfl)
    rw [show s.opn.ts = s.ts.tail by rw [ho]] at hc
    cases hz : rec (n + 1) s.ts.tail with
    | error e =>
     rw [hz] at hx hc
     rw [N2] at hx ⊢
     have he : (recR s.opn).er = some e := hc (fun h => hx (by cases h; rfl))
     rw [a0l he]
     exact he
    | ok p =>
     obtain ⟨ns, r⟩ := p
     rw [hz] at hx hc
     rw [q9] at hx ⊢
     have he : recR s.opn = { s.opn with ts := r, ns := s.opn.ns ++ ns } := hc (by simp)
     have he0 : (recR s.opn).er = none := by rw [he, ho]; exact h
     obtain ⟨m1, m2⟩ := a1m he0 [41]
     rw [show (recR s.opn).ts = r by rw [he]] at m1 m2
     cases hq : l5 [41] r with
     | error e => exact m2 e hq
     | ok r2 =>
      rw [q9, m1 r2 hq]
      show _ = _
      rw [he, ho]
      unfold Rt.down
      simp
  ·rw [if_neg hb] at hx ⊢
   rw [if_neg hb]
   by_cases h2 : (hdT s.ts).kind ≠ 2
   ·rw [if_pos h2, if_pos h2]
    exact a1A h _
   ·rw [if_neg h2] at hx ⊢
    rw [if_neg h2]
    by_cases hm : l9 (hdT s.ts).text ≠ 0
    ·rw [if_pos hm] at hx ⊢
     rw [if_pos hm]
     have hne := a07 h
     have e1 : s.next.ts = s.ts.tail := by rw [x8 h]
     have := a7N hr hne (n := n) (by rw [x8 h]; exact hn) (l9 (hdT s.ts).text) (hdT s.ts).pos (by rw [e1]; exact hx)
     rw [e1] at this
     exact a0e (by rw [x8 h]) (by rw [x8 h]) (by rw [hne, h]) this
    ·rw [if_neg hm, if_neg hm]
     exact ai1 h
theorem a4o {rec : List Tk → Out} {recR : Rt → Rt} {n : Nat} (h1 : ∀ s x, s.er = some x → recR s = s) (h2 : ∀ s : Rt, s.er = none → s.nest = (n : Int) → rec s.ts ≠ .error exP → L7 s (rec s.ts) (recR s)) (k : Nat) :
  ∀ (f : Nat) (b ns : List (Nd × Nat)) (s : Rt), s.er = none → s.nest = (n : Int) → s.ns = b ++ ns → x0 rec k f ns s.ts ≠ .error exP →
   (∀ ms r, x0 rec k f ns s.ts = .ok (ms, r) → s.loop recR k f = { s with ts := r, ns := b ++ ms }) ∧ ∀ e, x0 rec k f ns s.ts = .error e → (s.loop recR k f).er = some e
 | 0, b, ns, s, h, hn, hb, hx => by
  refine ⟨fun ms r e => ?_, fun e he => (by cases he)⟩
  cases e
  rw [Rt.loop, ← hb]
 | f + 1, b, ns, s, h, hn, hb, hx => by
  unfold x0 at *
  rw [Rt.loop, E9 h]
  unfold opT at *
  by_cases hk : (hdT s.ts).kind = 5 ∨ (hdT s.ts).kind = 2
  ·rw [if_pos (show s.er = none ∧ ((hdT s.ts).kind = 5 ∨ (hdT s.ts).kind = 2) from ⟨h, hk⟩)]
   simp only [if_pos hk] at hx ⊢
   cases hbin : l0 k (hdT s.ts).text with
   | none =>
    refine ⟨fun ms r e => ?_, fun e he => (by cases he)⟩
    cases e
    rw [← hb]
   | some nd =>
    try rw [hbin] at hx
    dsimp only at hx ⊢
    have hne := a07 h
    have e1 : s.next.ts = s.ts.tail := by rw [x8 h]
    have hc := h2 s.next hne (by rw [x8 h]; exact hn)
    rw [e1] at hc
    cases hz : rec s.ts.tail with
    | error e =>
     rw [hz] at hx hc
     rw [N2] at hx ⊢
     have he : (recR s.next).er = some e := hc (fun h => hx (by cases h; rfl))
     refine ⟨fun ms r e => (by cases e), fun e' he' => ?_⟩
     cases he'
     rw [P8 he]
     split
     ·exact he
     ·have hl : ∀ g (s' : Rt), s'.er = some e → (s'.loop recR k g).er = some e := fun g s' hs => by
       cases g with
       | zero => exact hs
       | succ g => rw [Rt.loop, if_neg (by rw [hs]; simp)]; exact hs
      exact hl f _ he
    | ok p =>
     obtain ⟨n1, r1⟩ := p
     rw [hz] at hx hc
     rw [q9] at hx ⊢
     have he : recR s.next = { s.next with ts := r1, ns := s.next.ns ++ n1 } := hc (by simp)
     have hl : (recR s.next).lay nd (hdT s.ts).pos = { s with ts := r1, ns := b ++ (ns ++ n1 ++ [(nd, (hdT s.ts).pos)]) } := by
      rw [X3 (by rw [he]; exact hne), he, x8 h, hb]
      simp
     rw [hl]
     dsimp only at hx ⊢
     by_cases h4 : k = 4
     ·rw [if_pos h4] at hx ⊢
      rw [if_pos h4]
      refine ⟨fun ms r e => ?_, fun e he => (by cases he)⟩
      cases e
      rfl
     ·rw [if_neg h4] at hx ⊢
      rw [if_neg h4]
      have ih := a4o h1 h2 k f b (ns ++ n1 ++ [(nd, (hdT s.ts).pos)]) { s with ts := r1, ns := b ++ (ns ++ n1 ++ [(nd, (hdT s.ts).pos)]) } h hn rfl hx
      exact ih
  ·rw [if_neg (show ¬ (s.er = none ∧ ((hdT s.ts).kind = 5 ∨ (hdT s.ts).kind = 2)) from fun x => hk x.2)]
   simp only [if_neg hk] at hx ⊢
   refine ⟨fun ms r e => ?_, fun e he => (by cases he)⟩
   cases e
   rw [← hb]
theorem a0t : ∀ (f k : Nat), RcO (fun n ts => d7 f k n ts) (Rt.row f k)
 | 0, k => ⟨fun s x h => a23 0 k h, fun s n h hn hx => absurd rfl hx⟩
 | f + 1, k => by
  refine ⟨fun s x h => a23 (f + 1) k h, fun s n h hn hx => ?_⟩
  dsimp only at hx ⊢
  rw [M3] at hx ⊢
  rw [Rt.row, if_neg (by simp [h])]
  unfold J9 at *
  rw [I2 h, I2 h, I2 h, E9 h]
  have hopn : ∀ (kk : Nat) (nd : Nd), (s9 n s.ts (d8 (d7 f kk (n + 1) s.ts.tail) fun p => .ok (p.1 ++ [(nd, (hdT s.ts).pos)], p.2)) : Out) ≠ .error exP →
    L7 s (s9 n s.ts (d8 (d7 f kk (n + 1) s.ts.tail) fun p => .ok (p.1 ++ [(nd, (hdT s.ts).pos)], p.2))) (((Rt.row f kk s.opn).down).lay nd (hdT s.ts).pos) := fun kk nd hx => by
   unfold s9 at *
   by_cases h200 : n = 200
   ·rw [if_pos h200] at hx ⊢
    have ho := a1T h (by rw [hn, h200]; rfl)
    rw [a23 f kk ho]
    have hd : (s.opn.down).er = some ((hdT s.ts).pos, 113) := ho
    rw [P8 hd]
    exact hd
   ·rw [if_neg h200] at hx ⊢
    have ho := a0p h (by rw [hn]; omega)
    have hc := (a0t f kk).2 s.opn (n + 1) (by rw [ho]; exact h) (by rw [ho]; show s.nest + 1 = _; rw [hn]; rfl)
    dsimp only at hc
    rw [show s.opn.ts = s.ts.tail by rw [ho]] at hc
    cases hz : d7 f kk (n + 1) s.ts.tail with
    | error e =>
     rw [hz] at hx hc
     rw [N2] at hx ⊢
     have he : (Rt.row f kk s.opn).er = some e := hc (fun h => hx (by cases h; rfl))
     have hd : ((Rt.row f kk s.opn).down).er = some e := he
     rw [P8 hd]
     exact hd
    | ok p =>
     obtain ⟨ns, r⟩ := p
     rw [hz] at hx hc
     rw [q9]
     have he : Rt.row f kk s.opn = { s.opn with ts := r, ns := s.opn.ns ++ ns } := hc (by simp)
     have hd0 : ((Rt.row f kk s.opn).down).er = none := by rw [he, ho]; exact h
     rw [X3 hd0]
     show _ = _
     rw [he, ho]
     unfold Rt.down
     simp
  by_cases h3 : k = 3 ∧ (isB s.ts T4 = true ∨ isB s.ts [33] = true)
  ·rw [if_pos h3] at hx ⊢
   rw [if_pos h3]
   exact hopn 3 (ndK 9) hx
  ·rw [if_neg h3] at hx ⊢
   rw [if_neg h3]
   by_cases h11 : k = 11 ∧ isB s.ts [45] = true
   ·rw [if_pos h11] at hx ⊢
    rw [if_pos h11]
    exact hopn 11 (ndK 5) hx
   ·rw [if_neg h11] at hx ⊢
    rw [if_neg h11]
    by_cases hk : k = 3 ∨ k = 11
    ·rw [if_pos hk] at hx ⊢
     rw [if_pos hk]
     exact (a0t f (k + 1)).2 s n h hn hx
    ·rw [if_neg hk] at hx ⊢
     rw [if_neg hk]
     by_cases h12 : k = 12
     ·rw [if_pos h12] at hx ⊢
      rw [if_pos h12]
      exact a8z (a0t f 1) h hn hx
     ·rw [if_neg h12] at hx ⊢
      rw [if_neg h12]
      have hc := (a0t f (k + 1)).2 s n h hn
      dsimp only at hc
      cases hz : d7 f (k + 1) n s.ts with
      | error e =>
       rw [hz] at hx hc
       rw [N2] at hx ⊢
       have he : (Rt.row f (k + 1) s).er = some e := hc (fun h => hx (by cases h; rfl))
       have hl : ∀ g (s' : Rt), s'.er = some e → (s'.loop (Rt.row f (k + 1)) k g).er = some e := fun g s' hs => by
        cases g with
        | zero => exact hs
        | succ g => rw [Rt.loop, if_neg (by rw [hs]; simp)]; exact hs
       exact hl _ _ he
      | ok p =>
       obtain ⟨ns, r⟩ := p
       rw [hz] at hx hc
       rw [q9] at hx ⊢
       have he : Rt.row f (k + 1) s = { s with ts := r, ns := s.ns ++ ns } := hc (by simp)
       have hlc := a4o (rec := d7 f (k + 1) n) (recR := Rt.row f (k + 1)) (n := n) (a0t f (k + 1)).1 (fun s' h' hn' hx' => (a0t f (k + 1)).2 s' n h' hn' hx') k r.length s.ns ns { s with ts := r, ns := s.ns ++ ns } h hn rfl hx
       rw [he]
       dsimp only at hlc hx ⊢
       cases hq : x0 (d7 f (k + 1) n) k r.length ns r with
       | error e =>
        exact hlc.2 e hq
       | ok q =>
        obtain ⟨ms, r2⟩ := q
        exact hlc.1 ms r2 hq
def erC (s : Rt) : Int := match s.er with | none => 0 | some e => e.2
def erP (s : Rt) : Int := match s.er with | none => 0 | some e => (e.1 : Int)
structure RB (c : PC) (w : World) (i : Nat) (vt vp : Value) (nest code place : Int) (xs : List Nd) (zs : List Int) : Prop where
 grown : c.w0.grownBy w none
 blk : VAt w c.g 38 #[c.tv, .int .i64 (i : Int), vt, vp, .int .i64 nest, .int .i64 code, .int .i64 place]
 new : c.w0.heap.size ≤ c.g
 toks : D9 w c.w0.heap.size c.tv c.all
 tree : S2 w c.w0.heap.size vt xs
 places : U6 w c.w0.heap.size vp zs
structure RT (c : PC) (w : World) (i : Nat) (vt vp : Value) (s : Rt) (bud : Nat) (pl : Int) : Prop where
 tab : x5 c.w0
 mem : RB c w i vt vp s.nest (erC s) pl (s.ns.map Prod.fst) (s.ns.map plc)
 drop : c.all.drop i = s.ts
 good : I0 s.ts
 len : c.all.length ≤ 65537
 hi : s.nest ≤ 200
 lo : -1 ≤ s.nest
 lo0 : s.er = none → 0 ≤ s.nest
 bud_le : s.er = none → s.ns.length + s.ts.length + bud ≤ 65537
 erz : ∀ e, s.er = some e → 1 ≤ e.2 ∧ e.2 ≤ 1000
abbrev RS (c : PC) (w : World) (i : Nat) (vt vp : Value) (s : Rt) (bud : Nat) : Prop := RT c w i vt vp s bud (erP s)

section
variable {c : PC} {w w' : World} {i bud : Nat} {vt vp : Value} {nest code place : Int} {xs : List Nd} {zs : List Int} {s : Rt} {pl : Int}
theorem RB.lt (h : RB c w i vt vp nest code place xs zs) {x : Nat} (hx : d3 c.g vt vp x) : x < w.heap.size := by
 rcases hx with rfl | hx | hx
 ·exact h.blk.lt
 ·exact (h.tree.lt x hx).2
 ·exact (h.places.lt x hx).2
theorem RB.ge (h : RB c w i vt vp nest code place xs zs) {x : Nat} (hx : d3 c.g vt vp x) : c.w0.heap.size ≤ x := by
 rcases hx with rfl | hx | hx
 ·exact h.new
 ·exact (h.tree.lt x hx).1
 ·exact (h.places.lt x hx).1
theorem RB.ne_tree (h : RB c w i vt vp nest code place xs zs) : ¬ vt.ownBlock = some c.g := J0 h.tree h.blk (by decide)
theorem RB.ne_places (h : RB c w i vt vp nest code place xs zs) : ¬ vp.ownBlock = some c.g := J0 h.places h.blk (by decide)
theorem RB.keep (h : RB c w i vt vp nest code place xs zs) (G : w.grownBy w' none) : RB c w' i vt vp nest code place xs zs :=
 ⟨d5 h.grown G, h.blk.kept G, h.new, y8 h.toks G, y8 h.tree G, y8 h.places G⟩
theorem RT.keep (h : RT c w i vt vp s bud pl) (G : w.grownBy w' none) : RT c w' i vt vp s bud pl := { h with mem := h.mem.keep G }
theorem RT.less (h : RT c w i vt vp s bud pl) {b : Nat} (hb : b ≤ bud) : RT c w i vt vp s b pl := { h with bud_le := fun e => by have := h.bud_le e; omega }
theorem RT.tabw (h : RT c w i vt vp s bud pl) : x5 w := h.tab.grown h.mem.grown
theorem RT.gb (h : RT c w i vt vp s bud pl) (G : GB w w' (d3 c.g vt vp)) : c.w0.grownBy w' none :=
 ⟨G.os.trans h.mem.grown.os, G.tape.trans h.mem.grown.tape, G.output.trans h.mem.grown.output, Nat.le_trans h.mem.grown.size G.size, fun k hk _ =>
  (G.block k (Nat.lt_of_lt_of_le hk h.mem.grown.size) (fun hf => by have := h.mem.ge hf; omega)).trans (h.mem.grown.block k hk (by simp))⟩
theorem RT.idx (h : RT c w i vt vp s bud pl) : ∃ hi : i < c.all.length, c.all[i] = hdT s.ts ∧ c.all.drop (i + 1) = s.ts.tail := by
 have hne := h.good.ne
 have hd := h.drop
 have hi : i < c.all.length := by
  by_cases hh : i < c.all.length
  ·exact hh
  ·rw [List.drop_eq_nil_of_le (by omega)] at hd
   exact absurd hd.symm hne
 rw [List.drop_eq_getElem_cons hi] at hd
 refine ⟨hi, ?_, ?_⟩
 ·rw [← hd]; rfl
 ·rw [← hd]; rfl
theorem RT.reads (h : RT c w i vt vp s bud pl) : ∃ b off ca, c.tv = .slice (some ⟨b, off, none⟩) c.all.length ca ∧ i < c.all.length ∧ w.cell? ⟨c.g, 0, none⟩ = some (.slice (some ⟨b, off, none⟩) c.all.length ca) ∧ w.cell? ⟨c.g, 1, none⟩ = some (.int .i64 (i : Int)) ∧
  w.cell? ⟨b, off + i * 4, none⟩ = some (.int .i64 ((hdT s.ts).kind : Int)) ∧ w.cell? ⟨b, off + i * 4 + 1, none⟩ = some (.int .i64 ((hdT s.ts).pos : Int)) ∧ w.cell? ⟨b, off + i * 4 + 2, none⟩ = some (str (hdT s.ts).text) ∧ w.cell? ⟨b, off + i * 4 + 3, none⟩ = some (.int .u32 ((hdT s.ts).num : Int)) := by
 obtain ⟨hi, ht, -⟩ := h.idx
 obtain ⟨a, ca, htv, hC, -⟩ := h.mem.toks.items
 obtain ⟨b, off, rfl, hc⟩ := hC.toks hi
 obtain ⟨k0, k1, k2, k3⟩ := hc i hi
 rw [ht] at k0 k1 k2 k3
 have c0 : w.cell? ⟨c.g, 0, none⟩ = some c.tv := h.mem.blk.cell 0
 rw [htv] at c0
 exact ⟨b, off, ca, htv, hi, c0, h.mem.blk.cell 1, k0, k1, k2, k3⟩
theorem RT.erC_ne (h : RT c w i vt vp s bud pl) {e : Er} (he : s.er = some e) : 1 ≤ erC s ∧ erC s ≤ 1000 := by
 unfold erC
 rw [he]
 exact h.erz e he
theorem L3 (he : s.er = none) : erC s = 0 := by unfold erC; rw [he]
theorem a3O (he : s.er = none) : erP s = 0 := by unfold erP; rw [he]
theorem RB.store (h : RB c w i vt vp nest code place xs zs) (j : Nat) (v : Value) {i' : Nat} {nest' code' place' : Int} (hc : (#[c.tv, .int .i64 (i : Int), vt, vp, .int .i64 nest, .int .i64 code, .int .i64 place] : Array Value).setIfInBounds j v = #[c.tv, .int .i64 (i' : Int), vt, vp, .int .i64 nest', .int .i64 code', .int .i64 place']) :
  RB c (w.setCell ⟨c.g, j, none⟩ v) i' vt vp nest' code' place' xs zs := by
 have G := D3 w c.g j v
 exact ⟨z6 h.grown G (fun x hx => by cases hx; exact h.new), by have := h.blk.set j v; rw [hc] at this; exact this, h.new, H9 h.toks G (J0 h.toks h.blk (by decide)), H9 h.tree G h.ne_tree, H9 h.places G h.ne_places⟩
theorem RT.putP (h : RT c w i vt vp s bud pl) (p : Int) : RT c (w.setCell ⟨c.g, 6, none⟩ (.int .i64 p)) i vt vp s bud p := { h with mem := h.mem.store 6 _ rfl }
theorem RT.putC {p : Nat} {e : Int} (h : RT c w i vt vp s bud (p : Int)) (h1 : 1 ≤ e) (h2 : e ≤ 1000) : RS c (w.setCell ⟨c.g, 5, none⟩ (.int .i64 e)) i vt vp { s with er := some (p, e) } bud :=
 { h with mem := h.mem.store 5 _ rfl, lo0 := fun x => (by cases x), bud_le := fun x => (by cases x), erz := fun x hx => by cases hx; exact ⟨h1, h2⟩ }
theorem RT.putN {n : Int} (h : RT c w i vt vp s bud pl) (h1 : n ≤ 200) (h2 : -1 ≤ n) (h3 : s.er = none → 0 ≤ n) : RT c (w.setCell ⟨c.g, 4, none⟩ (.int .i64 n)) i vt vp { s with nest := n } bud pl :=
 { h with mem := h.mem.store 4 _ rfl, hi := h1, lo := h2, lo0 := h3 }
def c8 (c : PC) (w : World) (vt vp : Value) (s' : Rt) (bud' : Nat) (w' : World) : Prop :=
 ∃ i' vt' vp', RS c w' i' vt' vp' s' bud' ∧ GB w w' (d3 c.g vt vp) ∧ ∀ x, x < w.heap.size → d3 c.g vt' vp' x → d3 c.g vt vp x
theorem c8.same (h : RS c w' i vt vp s bud) (G : GB w w' (d3 c.g vt vp)) : c8 c w vt vp s bud w' := ⟨i, vt, vp, h, G, fun _ _ k => k⟩
theorem c8.of {w1 : World} {vt1 vp1 : Value} (G : GB w w1 (d3 c.g vt vp)) (hf : ∀ x, x < w.heap.size → d3 c.g vt1 vp1 x → d3 c.g vt vp x) (R : c8 c w1 vt1 vp1 s bud w') : c8 c w vt vp s bud w' := by
 obtain ⟨i', vt', vp', h, G', hf'⟩ := R
 exact ⟨i', vt', vp', h, G.trans G' hf, fun x hx k => hf x hx (hf' x (Nat.lt_of_lt_of_le hx G.size) k)⟩
theorem c8.less (R : c8 c w vt vp s bud w') {b : Nat} (hb : b ≤ bud) : c8 c w vt vp s b w' := by
 obtain ⟨i', vt', vp', h, r⟩ := R
 exact ⟨i', vt', vp', h.less hb, r⟩
theorem c8.keep (R : c8 c w vt vp s bud w') {w2 : World} (G : w'.grownBy w2 none) : c8 c w vt vp s bud w2 := by
 obtain ⟨i', vt', vp', h, g, hf⟩ := R
 exact ⟨i', vt', vp', h.keep G, g.trans (GB.non G) (fun x hx k => hf x hx k), hf⟩
end

end Go.Proofs.YtlfmddjppejmaaaGreatDoor
