import Derived.Test.YtklipelnjgpnjaaGreatDoorLotA6
import Derived.Test.YtklipelnjgpnjaaGreatDoorLotA2
import Derived.Test.YtklipelnjgpnjaaGreatDoorLotA3
import Derived.ChangeKeysEq
import Derived.Test.YtklipelnjgpnjaaGreatDoorLotA1
import Derived.Laws.StructEq
import Derived.Deep.MidRow
import Derived.Test.YtklipelnjgpnjaaGreatDoorLotA5
import Derived.BigQuiet
import Derived.Deep.RegionHeld
namespace Go.Proofs.YtklipelnjgpnjaaGreatDoor
open Go.RowKit
set_option maxRecDepth 100000
structure WPos (M B7 p2 p3 p5 p6 p7 p8 : Nat) : Prop where
 m5 : M ≤ p5
 m6 : M ≤ p6
 l2 : p2 < B7 ∧ p2 ≠ p5 ∧ p2 ≠ p6
 l3 : p3 < B7 ∧ p3 ≠ p5 ∧ p3 ≠ p6
 l5 : p5 < B7 ∧ p5 ≠ p6
 l6 : p6 < B7
 l7 : p7 < B7 ∧ p7 ≠ p5 ∧ p7 ≠ p6
 l8 : p8 < B7 ∧ p8 ≠ p5 ∧ p8 ≠ p6
structure WEnv (w : World) (M B7 p2 p3 p5 p6 p7 p8 : Nat) (sl : Value) (bf : Nat) (W : World) (v : Value) (ts : List (List UInt8)) (ne dp : Int) (left : Nat) : Prop where
 up : Below M w W
 sz : B7 ≤ W.heap.size
 c2 : W.cell? ⟨p2, 0, none⟩ = some sl
 c3 : W.cell? ⟨p3, 0, none⟩ = some (.func (.func bf) #[] #[])
 c7 : W.cell? ⟨p7, 0, none⟩ = some (.func (.func 97) #[] #[.pointer (some ⟨p2, 0, none⟩), .pointer (some ⟨p6, 0, none⟩), .pointer (some ⟨p8, 0, none⟩), .pointer (some ⟨p3, 0, none⟩), .pointer (some ⟨p7, 0, none⟩), .pointer (some ⟨p5, 0, none⟩)])
 c8 : W.cell? ⟨p8, 0, none⟩ = some (.func (.func 94) #[] #[.pointer (some ⟨p5, 0, none⟩), .pointer (some ⟨p7, 0, none⟩)])
 lf : VAt W p6 3 #[.int .i64 (left : Int)]
 out : WtV W B7 p5 v ts ne dp
 nd : 0 ≤ ne ∧ ne ≤ dp
def WS (p5 p6 : Nat) (v : Value) (k : Nat) : Prop := k ≠ p5 ∧ k ≠ p6 ∧ v.ownBlock ≠ some k

section
variable {w : World} {M B7 p2 p3 p5 p6 p7 p8 : Nat} {sl : Value} {bf : Nat} {W W' : World} {v v' : Value} {ts ts' : List (List UInt8)} {ne dp ne' dp' : Int} {left left' : Nat}
theorem WEnv.own (E : WEnv w M B7 p2 p3 p5 p6 p7 p8 sl bf W v ts ne dp left) {k : Nat} (h : k < B7) : v.ownBlock ≠ some k := fun e => by have := (E.out.2.lt k e).1; omega
theorem WEnv.next (P : WPos M B7 p2 p3 p5 p6 p7 p8) (E : WEnv w M B7 p2 p3 p5 p6 p7 p8 sl bf W v ts ne dp left) (K : Kp M (WS p5 p6 v) W W') (lf : VAt W' p6 3 #[.int .i64 (left' : Int)]) (out : WtV W' B7 p5 v' ts' ne' dp') (nd : 0 ≤ ne' ∧ ne' ≤ dp') :
  WEnv w M B7 p2 p3 p5 p6 p7 p8 sl bf W' v' ts' ne' dp' left' where
 up := E.up.trans K.1
 sz := Nat.le_trans E.sz K.1.size
 c2 := K.cell (.inr ⟨P.l2.2.1, P.l2.2.2, E.own P.l2.1⟩) E.c2
 c3 := K.cell (.inr ⟨P.l3.2.1, P.l3.2.2, E.own P.l3.1⟩) E.c3
 c7 := K.cell (.inr ⟨P.l7.2.1, P.l7.2.2, E.own P.l7.1⟩) E.c7
 c8 := K.cell (.inr ⟨P.l8.2.1, P.l8.2.2, E.own P.l8.1⟩) E.c8
 lf := lf
 out := out
 nd := nd
theorem WEnv.kept (P : WPos M B7 p2 p3 p5 p6 p7 p8) (hM : M ≤ B7) (E : WEnv w M B7 p2 p3 p5 p6 p7 p8 sl bf W v ts ne dp left) (G : W.grownBy W' none) : WEnv w M B7 p2 p3 p5 p6 p7 p8 sl bf W' v ts ne dp left :=
 E.next P (Kp.none G (by have := E.sz; omega)) (E.lf.kept G) (E.out.kept G) E.nd
theorem WEnv.wrote (P : WPos M B7 p2 p3 p5 p6 p7 p8) (E : WEnv w M B7 p2 p3 p5 p6 p7 p8 sl bf W v ts ne dp left) (K : Kp M (fun k => k ≠ p5 ∧ v.ownBlock ≠ some k) W W') (out : WtV W' B7 p5 v' ts' ne' dp') (nd : 0 ≤ ne' ∧ ne' ≤ dp') :
  WEnv w M B7 p2 p3 p5 p6 p7 p8 sl bf W' v' ts' ne' dp' left :=
 E.next P (K.weak (fun _ h => ⟨h.1, h.2.2⟩)) (K.2 p6 _ ⟨fun e => P.l5.2 e.symm, E.own P.l6⟩ E.lf rfl) out nd
end
def WP (w : World) (M B7 p2 p3 p5 p6 p7 p8 : Nat) (sl : Value) (bf : Nat) (W : World) (v : Value) (ts : List (List UInt8)) (ne dp : Int) (left : Nat) (r : List UInt8) (d n k : Nat) (e : Ending) (W' : World) : Prop :=
 e = .returned (.tuple #[]) ∧ ∃ v' R, WEnv w M B7 p2 p3 p5 p6 p7 p8 sl bf W' v' (ts ++ R) ne (max dp (ne + (d : Int))) (left - n) ∧ OwnGo W.heap.size v.ownBlock v' ∧ Kp M (WS p5 p6 v) W W' ∧ R.reverse.flatten = r ∧ R.length ≤ k
theorem kp_then {M p5 p6 : Nat} {v v1 : Value} {A B C : World} (h : Kp M (WS p5 p6 v) A B) (g : OwnGo A.heap.size v.ownBlock v1) (k : Kp M (WS p5 p6 v1) B C) : Kp M (WS p5 p6 v) A C :=
 ⟨h.1.trans k.1, fun i o hi ho hc => k.2 i o ⟨hi.1, hi.2.1, g.ne (Array.getElem?_eq_some_iff.1 ho).1 hi.2.2⟩ (h.2 i o hi ho hc) hc⟩
theorem kp_wr {M p5 p6 : Nat} {v : Value} {A B : World} (h : Kp M (fun k => k ≠ p5 ∧ v.ownBlock ≠ some k) A B) : Kp M (WS p5 p6 v) A B := h.weak (fun _ h => ⟨h.1, h.2.2⟩)
set_option maxRecDepth 100000 in
set_option maxHeartbeats 4000000 in
theorem nested_any13 {w : World} {M B7 p2 p3 p5 p6 p7 p8 : Nat} (P : WPos M B7 p2 p3 p5 p6 p7 p8) {sl : Value} {bf : Nat} {W : World} {v : Value} {ts : List (List UInt8)} {ne dp : Int} {left : Nat} (E : WEnv w M B7 p2 p3 p5 p6 p7 p8 sl bf W v ts ne dp left) (ahead behind : List UInt8) (least : Int) (r : List UInt8) (d n k : Nat) (hne : ne ≤ 900000) (hts : ts.length + k ≤ 900000)
  (H : ∀ W1 v1, WEnv w M B7 p2 p3 p5 p6 p7 p8 sl bf W1 v1 (ts ++ [behind]) (ne + 1) (max dp (ne + 1)) left → Calls Tryz.prog 97 #[.int .i64 least, .pointer (some ⟨p2, 0, none⟩), .pointer (some ⟨p6, 0, none⟩), .pointer (some ⟨p8, 0, none⟩), .pointer (some ⟨p3, 0, none⟩), .pointer (some ⟨p7, 0, none⟩), .pointer (some ⟨p5, 0, none⟩)] W1
   (WP w M B7 p2 p3 p5 p6 p7 p8 sl bf W1 v1 (ts ++ [behind]) (ne + 1) (max dp (ne + 1)) left r d n k)) :
  Calls Tryz.prog 94 #[str ahead, .int .i64 least, str behind, .pointer (some ⟨p5, 0, none⟩), .pointer (some ⟨p7, 0, none⟩)] W
   (WP w M B7 p2 p3 p5 p6 p7 p8 sl bf W v ts ne dp left (ahead ++ r ++ behind) (d + 1) n (k + 2)) := by
 have HE : Hid (WEnv w M B7 p2 p3 p5 p6 p7 p8 sl bf W v ts ne dp left) := E
 have hn0 := E.nd.1
 have hC := close_any13 M B7 p5 behind ts v ne dp W P.m5 P.l5.1 E.sz E.out (by omega) ⟨hn0, by omega⟩
 clear E
 go_enter Tryz.func94, Tryz.ntmps94
 go_wp2_with (first
  | (refine hC.mono ?_; rintro e W1 ⟨rfl, ⟨v1, hO1, g1⟩, K1⟩; have E1 := HE.out.wrote P K1 hO1 (by have := HE.out.nd; omega); have c7 := E1.c7; clear hC)
  | (refine (H _ _ E1).mono ?_; rintro e W2 ⟨rfl, v2, R, E2, g2, K2, hr, hk⟩; have HE2 : Hid (WEnv w M B7 p2 p3 p5 p6 p7 p8 sl bf W2 v2 (ts ++ [behind] ++ R) (ne + 1) (max (max dp (ne + 1)) (ne + 1 + (d : Int))) (left - n)) := E2; clear E2 H c7)
  | (refine (open_any13 M B7 p5 ahead _ _ _ _ W2 P.m5 P.l5.1 HE2.out.sz HE2.out.out (by simp; omega) ⟨by omega, by omega⟩).mono ?_; rintro e W3 ⟨rfl, ⟨v3, hO3, g3⟩, K3⟩))
 go_end0
 have s1 := K1.1.size
 have s2 := K2.1.size
 have K12 := kp_then (kp_wr (p6 := p6) K1) g1 K2
 have g12 := g1.trans g2 s1
 have E3 := HE2.out.wrote P K3 hO3 (by have := HE2.out.nd; omega)
 have e1 : ne + 1 - 1 = ne := by omega
 have e2 : max (max dp (ne + 1)) (ne + 1 + (d : Int)) = max dp (ne + ((d + 1 : Nat) : Int)) := by omega
 rw [e1, e2, show ts ++ [behind] ++ R ++ [ahead] = ts ++ ([behind] ++ R ++ [ahead]) by simp] at E3
 exact ⟨rfl, v3, [behind] ++ R ++ [ahead], E3, g12.trans g3 (by omega), kp_then K12 g12 (kp_wr K3), by simp [hr], by simp; omega⟩
def blankB (c : UInt8) : Bool := c == 32 || c == 9 || c == 10 || c == 13
def letB (c : UInt8) : Bool := decide (97 ≤ c.toNat) && decide (c.toNat ≤ 122)
def sixB (c : UInt8) : Bool := digOk c.toNat || c == 58
def quadB (c : UInt8) : Bool := isDig c || c == 46
def wordB (c : UInt8) : Bool := isDig c || letB c
def hexL : Nat → List UInt8 → Option Nat
 | v, [] => some v
 | v, c :: r => if digOk c.toNat = true then (if 4294967295 < 16 * v + digV c.toNat then none else hexL (16 * v + digV c.toNat) r) else none
def numV (s : List UInt8) : Option Nat := if 2 < s.length ∧ s.getD 0 0 = 48 ∧ s.getD 1 0 = 120 then hexL 0 (s.drop 2) else numberV 4294967295 s
def twosL : List (List UInt8) := [[60, 60], [62, 62], [60, 61], [62, 61], [61, 61], [33, 61], [38, 38], [124, 124]]
def onesL : List UInt8 := [40, 41, 91, 93, 58, 43, 45, 42, 47, 37, 38, 124, 94, 60, 62, 61, 33]
def signV (s : List UInt8) : List UInt8 := if s.take 2 ∈ twosL then s.take 2 else if s.head?.all (onesL.contains ·) = true then s.take 1 else []
def tokV (s : List UInt8) : Except Int (Nat × List UInt8 × Nat) :=
 if 2 ≤ (s.takeWhile sixB).count 58 then .ok (4, s.takeWhile sixB, 0)
 else if s.head?.any isDig = true then
  (if 46 ∈ s.takeWhile quadB then .ok (3, s.takeWhile quadB, 0)
  else match numV (s.takeWhile wordB) with
   | none => .error 102
   | some n => .ok (1, s.takeWhile wordB, n))
 else if s.head?.any letB = true then .ok (2, s.takeWhile wordB, 0)
 else if signV s = [] then .error 101 else .ok (5, signV s, 0)
structure Tk where
 kind : Nat
 pos : Nat
 text : List UInt8
 num : Nat
def lexF : Nat → Nat → List UInt8 → Except (Nat × Int) (List Tk)
 | 0, p, _ => .ok [⟨0, p, [], 0⟩]
 | _ + 1, p, [] => .ok [⟨0, p, [], 0⟩]
 | k + 1, p, c :: r =>
  if blankB c = true then lexF k (p + 1) r
  else match tokV (c :: r) with
   | .error e => .error (p, e)
   | .ok (q, t, n) => match lexF k (p + t.length) ((c :: r).drop t.length) with
    | .error e => .error e
    | .ok ts => .ok (⟨q, p, t, n⟩ :: ts)
def lexR (p : Nat) (s : List UInt8) : Except (Nat × Int) (List Tk) := lexF s.length p s
def lexV (s : List UInt8) : Except (Nat × Int) (List Tk) := if 65536 < s.length then .error (0, 100) else lexR 0 s
theorem blank_not {c : UInt8} (h : blankB c = true) : sixB c = false ∧ quadB c = false ∧ wordB c = false ∧ isDig c = false ∧ letB c = false ∧ onesL.contains c = false := by
 unfold blankB at h
 simp only [Bool.or_eq_true, beq_iff_eq] at h
 rcases h with ((rfl | rfl) | rfl) | rfl <;> decide
theorem takeWhile_len {α : Type} (p : α → Bool) : ∀ (l : List α), (l.takeWhile p).length ≤ l.length
 | [] => Nat.le_refl _
 | x :: r => by
  rw [List.takeWhile_cons]
  split
  ·simp only [List.length_cons]
   exact Nat.succ_le_succ (takeWhile_len p r)
  ·simp
theorem takeWhile_pre {α : Type} (p : α → Bool) (l : List α) : l.takeWhile p = l.take (l.takeWhile p).length := by
 induction l with
 | nil => rfl
 | cons x r ih =>
  rw [List.takeWhile_cons]
  split
  ·simp only [List.length_cons, List.take_succ_cons]
   rw [← ih]
  ·simp
theorem takeWhile_end {α : Type} (p : α → Bool) (t r : List α) (h : r = [] ∨ ∃ b r', r = b :: r' ∧ p b = false) : (t ++ r).takeWhile p = t.takeWhile p := by
 induction t with
 | nil =>
  rcases h with rfl | ⟨b, r', rfl, hb⟩
  ·rfl
  ·rw [List.nil_append, List.takeWhile_cons_of_neg (by rw [hb]; simp)]
   rfl
 | cons x t ih =>
  rw [List.cons_append]
  by_cases hx : p x = true
  ·rw [List.takeWhile_cons_of_pos hx, List.takeWhile_cons_of_pos hx, ih]
  ·rw [List.takeWhile_cons_of_neg hx, List.takeWhile_cons_of_neg hx]
theorem takeWhile_all {α : Type} (p : α → Bool) (l : List α) (h : ∀ x ∈ l, p x = true) : l.takeWhile p = l := by
 induction l with
 | nil => rfl
 | cons x r ih =>
  rw [List.takeWhile_cons_of_pos (h x (List.mem_cons_self ..)), ih (fun y hy => h y (List.mem_cons_of_mem _ hy))]
theorem takeWhile_head {α : Type} (p : α → Bool) (c : α) (r : List α) (h : p c = true) : ∃ t, (c :: r).takeWhile p = c :: t := ⟨_, List.takeWhile_cons_of_pos h⟩
structure Nd where
 kind : Nat
 op : Nat
 n : Nat
 m : Nat
 size : Nat
 of : Nat
 side : Nat
 addr : List UInt8
 bits : Nat
def nd0 : Nd := ⟨0, 0, 0, 0, 0, 0, 0, List.replicate 16 0, 0⟩
def ndK (k : Nat) : Nd := { nd0 with kind := k }
abbrev Er := Nat × Int
abbrev Out := Except Er (List (Nd × Nat) × List Tk)
def thenE {α β : Type} (x : Except Er α) (f : α → Except Er β) : Except Er β := match x with
 | .error e => .error e
 | .ok y => f y
theorem thenE_ok {α β : Type} (y : α) (f : α → Except Er β) : thenE (.ok y) f = f y := rfl
def hdT (ts : List Tk) : Tk := ts.headD ⟨0, 0, [], 0⟩
def isB (ts : List Tk) (x : List UInt8) : Bool := ((hdT ts).kind == 5 || (hdT ts).kind == 2) && (hdT ts).text == x
def failV {α : Type} (ts : List Tk) (e : Int) : Except Er α := .error ((hdT ts).pos, if (hdT ts).kind = 0 then 110 else e)
def mustV (x : List UInt8) (ts : List Tk) : Except Er (List Tk) := if isB ts x = true then .ok ts.tail else failV ts 111
def numT (ts : List Tk) : Except Er (Nat × List Tk) := if (hdT ts).kind = 1 then .ok ((hdT ts).num, ts.tail) else failV ts 111
def opnV {α : Type} (nest : Nat) (ts : List Tk) (x : Except Er α) : Except Er α := if nest = 200 then .error ((hdT ts).pos, 113) else x
def wNot : List UInt8 := [110, 111, 116]
def wAnd : List UInt8 := [97, 110, 100]
def wOr : List UInt8 := [111, 114]
def wSrc : List UInt8 := [115, 114, 99]
def wDst : List UInt8 := [100, 115, 116]
def wHost : List UInt8 := [104, 111, 115, 116]
def wNet : List UInt8 := [110, 101, 116]
def wPort : List UInt8 := [112, 111, 114, 116]
def wPortrange : List UInt8 := [112, 111, 114, 116, 114, 97, 110, 103, 101]
def wProto : List UInt8 := [112, 114, 111, 116, 111]
def wLen : List UInt8 := [108, 101, 110]
def wInbound : List UInt8 := [105, 110, 98, 111, 117, 110, 100]
def wOutbound : List UInt8 := [111, 117, 116, 98, 111, 117, 110, 100]
def relV (x : List UInt8) : Option Nat :=
 if x = [61] ∨ x = [61, 61] then some 1 else if x = [33, 61] then some 2 else if x = [60] then some 3 else if x = [60, 61] then some 4 else if x = [62] then some 5 else if x = [62, 61] then some 6 else none
def binV (k : Nat) (x : List UInt8) : Option Nd :=
 if k = 1 then (if x = wOr ∨ x = [124, 124] then some (ndK 8) else none)
 else if k = 2 then (if x = wAnd ∨ x = [38, 38] then some (ndK 7) else none)
 else if k = 4 then (relV x).map fun o => { ndK 6 with op := o }
 else if k = 5 then (if x = [124] then some { ndK 4 with op := 7 } else none)
 else if k = 6 then (if x = [94] then some { ndK 4 with op := 8 } else none)
 else if k = 7 then (if x = [38] then some { ndK 4 with op := 6 } else none)
 else if k = 8 then (if x = [60, 60] then some { ndK 4 with op := 9 } else if x = [62, 62] then some { ndK 4 with op := 10 } else none)
 else if k = 9 then (if x = [43] then some { ndK 4 with op := 1 } else if x = [45] then some { ndK 4 with op := 2 } else none)
 else if k = 10 then (if x = [42] then some { ndK 4 with op := 3 } else if x = [47] then some { ndK 4 with op := 4 } else if x = [37] then some { ndK 4 with op := 5 } else none)
 else none
def nameN (x : List UInt8) : Nat :=
 if x = [112, 112, 112] then 1 else if x = [105, 112] then 2 else if x = [105, 112, 54] then 3 else if x = [116, 99, 112] then 4 else if x = [117, 100, 112] then 5
 else if x = [105, 99, 109, 112] then 6 else if x = [105, 99, 109, 112, 54] then 7 else if x = [108, 99, 112] then 8 else if x = [112, 97, 112] then 9 else if x = [99, 104, 97, 112] then 10
 else if x = [105, 112, 99, 112] then 11 else if x = [105, 112, 54, 99, 112] then 12 else if x = [109, 112] then 13 else 0
def addrT (kind : Nat) (ts : List Tk) : Except Er (Nd × List Tk) :=
 if (hdT ts).kind = 3 then (match parse4V (hdT ts).text with
  | some a => .ok ({ ndK kind with of := 2, addr := a ++ List.replicate 12 0 }, ts.tail)
  | none => failV ts 112)
 else if (hdT ts).kind = 4 then (match parse6V (hdT ts).text with
  | some a => .ok ({ ndK kind with of := 3, addr := a }, ts.tail)
  | none => failV ts 112)
 else failV ts 111
def sideN (ts : List Tk) : Nat := if isB ts wSrc = true then 1 else if isB ts wDst = true then 2 else 0
def sideR (ts : List Tk) : List Tk := if sideN ts = 0 then ts else ts.tail
def sidedB (of at' side : Nat) (ts : List Tk) : Out :=
 if isB ts wPort = true then thenE (numT ts.tail) fun p => .ok ([({ ndK 16 with of := of, side := side, n := p.1, m := p.1 }, at')], p.2)
 else if isB ts wPortrange = true then thenE (numT ts.tail) fun p => thenE (mustV [45] p.2) fun r => thenE (numT r) fun q => .ok ([({ ndK 16 with of := of, side := side, n := p.1, m := q.1 }, at')], q.2)
 else if of = 0 ∧ isB ts wHost = true then thenE (addrT 14 ts.tail) fun p => .ok ([({ p.1 with side := side }, at')], p.2)
 else if of = 0 ∧ isB ts wNet = true then thenE (addrT 15 ts.tail) fun p => thenE (mustV [47] p.2) fun r => thenE (numT r) fun q => .ok ([({ p.1 with bits := q.1, side := side }, at')], q.2)
 else failV ts 111
def sidedV (of at' : Nat) (ts : List Tk) : Out := sidedB of at' (sideN ts) (sideR ts)
def wordF (ts : List Tk) : Out :=
 if (hdT ts).text = wLen then .ok ([(ndK 2, (hdT ts).pos)], ts.tail)
 else if (hdT ts).text = wInbound then .ok ([({ ndK 10 with side := 1 }, (hdT ts).pos)], ts.tail)
 else if (hdT ts).text = wOutbound then .ok ([({ ndK 10 with side := 2 }, (hdT ts).pos)], ts.tail)
 else if (hdT ts).text = wProto then thenE (numT ts.tail) fun p => .ok ([({ ndK 12 with n := p.1 }, (hdT ts).pos)], p.2)
 else if (hdT ts).text ∈ [wSrc, wDst, wHost, wNet, wPort, wPortrange] then sidedV 0 (hdT ts).pos ts
 else failV ts 111
def sizeF (ts : List Tk) : Except Er (Nat × List Tk) :=
 if isB ts [58] = true then thenE (numT ts.tail) fun p => thenE (mustV [93] p.2) fun r => .ok (p.1, r)
 else thenE (mustV [93] ts) fun r => .ok (1, r)
def nameF (rec : Nat → List Tk → Out) (nest of at' : Nat) (ts : List Tk) : Out :=
 if isB ts [91] = true ∧ of ≠ 13 then opnV nest ts (thenE (rec (nest + 1) ts.tail) fun p => thenE (sizeF p.2) fun q => .ok (p.1 ++ [({ ndK 3 with of := of, size := q.1 }, at')], q.2))
 else if of = 1 then failV ts 111
 else if (of = 2 ∨ of = 3) ∧ isB ts wProto = true then thenE (numT ts.tail) fun p => .ok ([({ ndK 13 with of := of, n := p.1 }, at')], p.2)
 else if (of = 4 ∨ of = 5) ∧ (isB ts wSrc = true ∨ isB ts wDst = true ∨ isB ts wPort = true ∨ isB ts wPortrange = true) then sidedV of at' ts
 else .ok ([({ ndK 11 with of := of }, at')], ts)
def partF (rec : Nat → List Tk → Out) (nest : Nat) (ts : List Tk) : Out :=
 if (hdT ts).kind = 1 then .ok ([({ ndK 1 with n := (hdT ts).num }, (hdT ts).pos)], ts.tail)
 else if isB ts [40] = true then opnV nest ts (thenE (rec (nest + 1) ts.tail) fun p => thenE (mustV [41] p.2) fun r => .ok (p.1, r))
 else if (hdT ts).kind ≠ 2 then failV ts 111
 else if nameN (hdT ts).text ≠ 0 then nameF rec nest (nameN (hdT ts).text) (hdT ts).pos ts.tail
 else wordF ts
def opT (k : Nat) (ts : List Tk) : Option Nd := if (hdT ts).kind = 5 ∨ (hdT ts).kind = 2 then binV k (hdT ts).text else none
def loopG (rec : List Tk → Out) (k : Nat) : Nat → List (Nd × Nat) → List Tk → Out
 | 0, ns, ts => .ok (ns, ts)
 | f + 1, ns, ts => match opT k ts with
  | none => .ok (ns, ts)
  | some nd => thenE (rec ts.tail) fun p => if k = 4 then .ok (ns ++ p.1 ++ [(nd, (hdT ts).pos)], p.2) else loopG rec k f (ns ++ p.1 ++ [(nd, (hdT ts).pos)]) p.2
def stepR (rec : Nat → Nat → List Tk → Out) (k nest : Nat) (ts : List Tk) : Out :=
 if k = 3 ∧ (isB ts wNot = true ∨ isB ts [33] = true) then opnV nest ts (thenE (rec 3 (nest + 1) ts.tail) fun p => .ok (p.1 ++ [(ndK 9, (hdT ts).pos)], p.2))
 else if k = 11 ∧ isB ts [45] = true then opnV nest ts (thenE (rec 11 (nest + 1) ts.tail) fun p => .ok (p.1 ++ [(ndK 5, (hdT ts).pos)], p.2))
 else if k = 3 ∨ k = 11 then rec (k + 1) nest ts
 else if k = 12 then partF (rec 1) nest ts
 else thenE (rec (k + 1) nest ts) fun p => loopG (rec (k + 1) nest) k p.2.length p.1 p.2
def rowF : Nat → Nat → Nat → List Tk → Out
 | 0 => fun _ _ _ => .error (0, 0)
 | f + 1 => stepR (rowF f)
theorem row_succ (f k nest : Nat) (ts : List Tk) : rowF (f + 1) k nest ts = stepR (rowF f) k nest ts := rfl
def needF (k : Nat) (ts : List Tk) : Nat := 13 * ts.length + (13 - k)
def parseT (ts : List Tk) : Except Er (List (Nd × Nat)) := thenE (rowF (needF 1 ts) 1 0 ts) fun p => if (hdT p.2).kind = 0 then .ok p.1 else failV p.2 111
def parseV (s : List UInt8) : Except Er (List (Nd × Nat)) := thenE (lexV s) parseT
theorem items_bytes {P : Program} (d : Nat) (e : TypeId) (he : P.underlying e = some (.int .u8)) (hk : P.plainKey e = true) (xs ys : List UInt8) (w : World) (hl : xs.length = ys.length) :
  ∀ (m k : Nat), k + m = xs.length → (Op.eqItems (d + 1) e 1 (xs.map bv).toArray (ys.map bv).toArray (List.range' k m)).run P w = .ok (decide (xs.drop k = ys.drop k)) w
 | 0, k, h => by
  have e1 : xs.drop k = ys.drop k := by rw [List.drop_eq_nil_of_le (by omega), List.drop_eq_nil_of_le (by omega)]
  simp only [List.range'_zero, Op.eqItems, Sem.run_pure]
  rw [decide_eq_true e1]
 | m + 1, k, h => by
  have hx : k < xs.length := by omega
  have hy : k < ys.length := by omega
  have p1 := run_part_plain (P := P) w hk (xs := (xs.map bv).toArray) (off := k * 1) (v := bv xs[k]) (by simp [hx])
  have p2 := run_part_plain (P := P) w hk (xs := (ys.map bv).toArray) (off := k * 1) (v := bv ys[k]) (by simp [hy])
  have p3 : (Op.equalIn (d + 1) e (bv xs[k]) (bv ys[k])).run P w = .ok ((xs[k].toNat : Int) == (ys[k].toNat : Int)) w := run_equalIn_int w d e .u8 .u8 _ _ he
  have ih := items_bytes d e he hk xs ys w hl m (k + 1) (by omega)
  rw [List.range'_succ]
  simp only [Op.eqItems, Sem.run_bind, p1, p2, p3, Result.andThen_ok]
  rw [List.drop_eq_getElem_cons hx, List.drop_eq_getElem_cons hy]
  by_cases hq : xs[k] = ys[k]
  ·rw [hq, show ((ys[k].toNat : Int) == (ys[k].toNat : Int)) = true by simp]
   simp only [Bool.not_true, Bool.false_eq_true, if_false]
   rw [ih]
   simp only [List.cons.injEq, true_and]
  ·have : ((xs[k].toNat : Int) == (ys[k].toNat : Int)) = false := by
    rw [beq_eq_false_iff_ne]
    intro e
    exact hq (UInt8.toNat_inj.1 (by omega))
   rw [this]
   simp only [Bool.not_false, if_true, Sem.run_pure]
   rw [decide_eq_false (fun e => hq (List.cons.inj e).1)]
theorem eq_bytes {P : Program} {t e : TypeId} {n : Nat} {i : TypeInfo} (hu : P.underlying t = some (.array n e)) (hi : P.info? e = some i) (he : P.underlying e = some (.int .u8)) (hk : P.plainKey e = true) (hc : P.cellsOf e = 1) (xs ys : List UInt8) (hx : xs.length = n) (hy : ys.length = n) (w : World) :
  (Op.equalIn 10000 t (.agg (xs.map bv).toArray) (.agg (ys.map bv).toArray)).run P w = .ok (decide (xs = ys)) w := by
 rw [show (10000 : Nat) = 9999 + 1 from rfl, run_equalIn_array w 9999 _ _ hu hi, hc, List.range_eq_range', show (9999 : Nat) = 9998 + 1 from rfl, items_bytes 9998 e he hk xs ys w (by omega) n 0 (by omega)]
 rfl
def adr (x : Nd) (i : Nat) : Value := .int .u8 ((x.addr.getD i 0).toNat : Int)
def Nd.cells (x : Nd) : List Value := [.int .i64 (x.kind : Int), .int .i64 (x.op : Int), .int .u32 (x.n : Int), .int .u32 (x.m : Int), .int .i64 (x.size : Int), .int .i64 (x.of : Int), .int .i64 (x.side : Int),
 adr x 0, adr x 1, adr x 2, adr x 3, adr x 4, adr x 5, adr x 6, adr x 7, adr x 8, adr x 9, adr x 10, adr x 11, adr x 12, adr x 13, adr x 14, adr x 15, .int .i64 (x.bits : Int)]
theorem Nd.cells_len (x : Nd) : x.cells.length = 24 := rfl
theorem Nd.cells_one (x : Nd) : ∀ u ∈ x.cells, u.oneCell' = true := by
 intro u hu
 simp only [Nd.cells, adr, List.mem_cons, List.not_mem_nil, or_false] at hu
 rcases hu with rfl | rfl | rfl | rfl | rfl | rfl | rfl | rfl | rfl | rfl | rfl | rfl | rfl | rfl | rfl | rfl | rfl | rfl | rfl | rfl | rfl | rfl | rfl | rfl <;> rfl
theorem size43 : (Tryz.prog.info? 43).map (·.size) = some 24 := by kernel_rfl
theorem info43 : (Tryz.prog.info? 43).map (fun i => (i.zero, i.size, i.bytes)) = some (some (.agg nd0.cells.toArray), 24, 72) := by kernel_rfl
structure GB (w w' : World) (S : Nat → Prop) : Prop where
 os : w'.os = w.os
 tape : w'.tape = w.tape
 output : w'.output = w.output
 size : w.heap.size ≤ w'.heap.size
 block : ∀ i, i < w.heap.size → ¬ S i → w'.heap[i]? = w.heap[i]?
theorem GB.of {w w' : World} {row : Option Nat} {S : Nat → Prop} (h : w.grownBy w' row) (hs : ∀ x, row = some x → S x) : GB w w' S :=
 ⟨h.os, h.tape, h.output, h.size, fun i hi hn => h.block i hi (fun e => hn (hs i e.symm))⟩
theorem GB.refl (w : World) (S : Nat → Prop) : GB w w S := ⟨rfl, rfl, rfl, Nat.le_refl _, fun _ _ _ => rfl⟩
theorem GB.trans {w w1 w2 : World} {S S' : Nat → Prop} (h : GB w w1 S) (k : GB w1 w2 S') (hs : ∀ x, x < w.heap.size → S' x → S x) : GB w w2 S :=
 ⟨k.os.trans h.os, k.tape.trans h.tape, k.output.trans h.output, Nat.le_trans h.size k.size, fun i hi hn => (k.block i (Nat.lt_of_lt_of_le hi h.size) (fun e => hn (hs i hi e))).trans (h.block i hi hn)⟩
theorem GB.mono {w w' : World} {S S' : Nat → Prop} (h : GB w w' S) (hs : ∀ x, S x → S' x) : GB w w' S' := ⟨h.os, h.tape, h.output, h.size, fun i hi hn => h.block i hi (fun e => hn (hs i e))⟩
theorem GB.grown {w w' : World} {S : Nat → Prop} (h : GB w w' S) (hs : ∀ x, x < w.heap.size → ¬ S x) : w.grownBy w' none := ⟨h.os, h.tape, h.output, h.size, fun i hi _ => h.block i hi (hs i hi)⟩
theorem GB.one {w w' : World} {S : Nat → Prop} {g : Nat} (h : GB w w' S) (hs : ∀ x, x < w.heap.size → S x → x = g) : w.grownBy w' (some g) := ⟨h.os, h.tape, h.output, h.size, fun i hi hn => h.block i hi (fun e => hn (congrArg some (hs i hi e)))⟩
theorem GB.vat {w w' : World} {S : Nat → Prop} {g t : Nat} {cs : Array Value} (h : GB w w' S) (A : VAt w g t cs) (hg : ¬ S g) : VAt w' g t cs := by
 have := h.block g A.lt hg
 unfold VAt at *
 rw [this, A]
theorem GB.cell {w w' : World} {S : Nat → Prop} {ad : Addr} {v : Value} (h : GB w w' S) (hc : w.cell? ad = some v) (ha : ¬ S ad.block) (hlt : ad.block < w.heap.size) : w'.cell? ad = some v := by
 have := h.block ad.block hlt ha
 unfold World.cell? at *
 rw [this]
 exact hc
theorem GB.cells {w w' : World} {S : Nat → Prop} {ao : Option Addr} {xs : List UInt8} (h : GB w w' S) (hc : Cells w ao xs) (ha : ∀ ad, ao = some ad → xs ≠ [] → ¬ S ad.block) : Cells w' ao xs := by
 have hu := hc.under
 refine hc.same fun b off i hb hi => ?_
 have hne : xs ≠ [] := by
  intro e
  rw [e] at hi
  simp at hi
 have h1 := ha _ hb hne
 have h2 := hu _ hb hne
 have := h.block b h2 h1
 unfold World.cell?
 simp only [this]
structure Ng where
 kind : Int
 op : Int
 n : Nat
 m : Nat
 size : Int
 of : Int
 side : Int
 addr : List UInt8
 bits : Int
def adg (x : Ng) (i : Nat) : Value := .int .u8 ((x.addr.getD i 0).toNat : Int)
def Ng.cells (x : Ng) : List Value := [.int .i64 x.kind, .int .i64 x.op, .int .u32 (x.n : Int), .int .u32 (x.m : Int), .int .i64 x.size, .int .i64 x.of, .int .i64 x.side,
 adg x 0, adg x 1, adg x 2, adg x 3, adg x 4, adg x 5, adg x 6, adg x 7, adg x 8, adg x 9, adg x 10, adg x 11, adg x 12, adg x 13, adg x 14, adg x 15, .int .i64 x.bits]
theorem Ng.cells_len (x : Ng) : x.cells.length = 24 := rfl
def flatG (xs : List Ng) : List Value := xs.flatMap Ng.cells
theorem flatG_cons (x : Ng) (xs : List Ng) : flatG (x :: xs) = x.cells ++ flatG xs := rfl
theorem flatG_len (xs : List Ng) : (flatG xs).length = xs.length * 24 := by
 induction xs with
 | nil => rfl
 | cons x xs ih => rw [flatG_cons, List.length_append, ih, List.length_cons, Ng.cells_len]; omega
theorem flatG_get (xs : List Ng) (i j : Nat) (hi : i < xs.length) (hj : j < 24) : (flatG xs)[i * 24 + j]? = (xs[i].cells)[j]? := by
 induction xs generalizing i with
 | nil => simp at hi
 | cons x xs ih =>
  rw [flatG_cons]
  have hl : x.cells.length = 24 := rfl
  cases i with
  | zero => rw [List.getElem?_append_left (by omega)]; simp
  | succ i =>
   rw [List.getElem?_append_right (by omega), hl, show (i + 1) * 24 + j - 24 = i * 24 + j by omega, ih i (by simpa using hi)]
   simp
theorem Ng.cells_one (x : Ng) : ∀ u ∈ x.cells, u.oneCell' = true := by
 intro u hu
 simp only [Ng.cells, adg, List.mem_cons, List.not_mem_nil, or_false] at hu
 rcases hu with rfl | rfl | rfl | rfl | rfl | rfl | rfl | rfl | rfl | rfl | rfl | rfl | rfl | rfl | rfl | rfl | rfl | rfl | rfl | rfl | rfl | rfl | rfl | rfl <;> rfl
theorem flatG_one (xs : List Ng) : ∀ u ∈ flatG xs, u.oneCell' = true := by
 intro u hu
 obtain ⟨x, _, hx⟩ := List.mem_flatMap.1 hu
 exact x.cells_one u hx
theorem CV.ngs {w : World} {ao : Option Addr} {xs : List Ng} (h : CV w ao (flatG xs)) {k : Nat} (hk : k < xs.length) :
  ∃ b off, ao = some ⟨b, off, none⟩ ∧ ∀ i (hi : i < xs.length), w.rangeAt b (off + i * 24) xs[i].cells := by
 have hl := flatG_len xs
 obtain ⟨b, off, hao, hc⟩ := h.addr (k := k * 24) (by omega)
 refine ⟨b, off, hao, fun i hi j v hv => ?_⟩
 have hj : j < 24 := (List.getElem?_eq_some_iff.1 hv).1
 rw [← flatG_get xs i j hi hj] at hv
 rw [Nat.add_assoc, hc (i * 24 + j) (by omega), ← hv, List.getElem?_eq_getElem (by omega)]
abbrev NgOwns (w : World) (base : Nat) (v : Value) (xs : List Ng) : Prop := w.ownsRow base 43 24 v xs.length (flatG xs)
def adgs (x : Ng) : List UInt8 := [x.addr.getD 0 0, x.addr.getD 1 0, x.addr.getD 2 0, x.addr.getD 3 0, x.addr.getD 4 0, x.addr.getD 5 0, x.addr.getD 6 0, x.addr.getD 7 0, x.addr.getD 8 0, x.addr.getD 9 0, x.addr.getD 10 0, x.addr.getD 11 0, x.addr.getD 12 0, x.addr.getD 13 0, x.addr.getD 14 0, x.addr.getD 15 0]
set_option maxHeartbeats 1000000 in
theorem gcopy_any (a : Option Addr) (ca : Nat) (xs : List Ng) (w : World) (ha : CV w a (flatG xs)) (hc0 : a = none → ca = 0) (hm : xs.length * 72 ≤ 140737488355328) :
  Calls Tryz.prog 15 #[.slice a xs.length ca] w fun e w' => ∃ v, e = .returned v ∧ NgOwns w' w.heap.size v xs ∧ w.grownBy w' none := by
 obtain ⟨i0, hi, hz0, hz1, hz2⟩ := info_parts info43
 have H : Hid (CV w a (flatG xs)) := ha
 clear ha
 go_enter Tryz.func15, Tryz.ntmps15
 go_wp2_with (at_builtin; refine wpList_append_cv rfl (.tmp 3) (.tmp 4) 22 rfl 43 i0 _ 24 72 Tryz.underlying22 hi hz0 hz1 hz2 rfl (by decide) w.heap.size _ 0 [] rfl ?q1 a xs.length ca (flatG xs) rfl (flatG_len xs) hc0 ?q2 (flatG_one xs) ?q3 ?q4 ?q5 ?q6)
 case q1 => exact World.ownsRow_made w #[] 0 (Nat.le_refl _) (Nat.zero_le _) rfl
 case q2 => exact H.out.keptNone (World.grownBy_alloc _ _ _)
 case q3 => unfold maxLen; omega
 case q4 => omega
 case q5 => simp
 case q6 =>
  intro v' w' h1 h2
  have G : w.grownBy w' none := grown_trans_new (World.grownBy_alloc w _ _) h2 (by intro x hx; simp [Value.ownBlock] at hx; omega)
  have O : NgOwns w' w.heap.size v' xs := by simpa using h1
  clear h2 h1
  go_wp2
  go_ret
  exact ⟨v', rfl, O, G⟩
def Nd.g (x : Nd) : Ng := ⟨x.kind, x.op, x.n, x.m, x.size, x.of, x.side, x.addr, x.bits⟩
end Go.Proofs.YtklipelnjgpnjaaGreatDoor
