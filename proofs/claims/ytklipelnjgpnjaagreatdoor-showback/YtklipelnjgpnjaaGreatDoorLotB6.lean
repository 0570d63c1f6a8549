import Derived.Test.YtklipelnjgpnjaaGreatDoorBAb
import Derived.Test.YtklipelnjgpnjaaGreatDoorLotB5
import Derived.Test.YtklipelnjgpnjaaGreatDoorLotB2
import Derived.Test.YtklipelnjgpnjaaGreatDoorLotB1
import Derived.Test.YtklipelnjgpnjaaGreatDoorLotB3
import Derived.ChangeKeysEq
import Derived.Laws.StructEq
import Derived.Deep.MidRow
import Derived.Test.YtklipelnjgpnjaaGreatDoorLotB4
import Derived.BigQuiet
import Derived.Deep.RegionHeld
set_option maxHeartbeats 64000000
set_option maxRecDepth 100000
namespace Go.Proofs.YtklipelnjgpnjaaGreatDoor
open Go.RowKit Go.Shelf
theorem ay2 (xs : List (List UInt8)) : ([] : List UInt8).intercalate xs = xs.flatten := by
 unfold List.intercalate
 induction xs with
 | nil => rfl
 | cons x r ih =>
  cases r with
  | nil => simp
  | cons y r => simp at ih ⊢; exact ih
theorem ab3 (g : Nat) : ∀ (vs : List Value) (o : Nat) (w : World), (w.setCells g o vs).heap.size = w.heap.size
 | [], _, _ => rfl
 | v :: r, o, w => by rw [World.setCells, ab3 g r]; simp [World.setCell]
theorem a89 {B g : Nat} (hg : B ≤ g) : ∀ (vs : List Value) (o : Nat) (w : World), Below B w (w.setCells g o vs)
 | [], _, w => Below.refl B w
 | v :: r, o, w => ((Below.refl B w).setCell (p := ⟨g, o, none⟩) hg v).trans (a89 hg r (o + 1) _)
theorem aZ9 (M B7 b : Nat) (ts : List (List UInt8)) (v : Value) (ne dp : Int) (w : World) (hgb : v.ownBlock ≠ some b) (hM : M ≤ B7) (hO : WtV w B7 b v ts ne dp) (h0 : ts ≠ []) (hts : ts.length ≤ 1000000) (hl : ts.reverse.flatten.length ≤ 100000000) :
  Calls Tryz.prog 46 #[.pointer (some ⟨b, 0, none⟩)] w fun e w' => e = .returned (.string ⟨ts.reverse.flatten.toArray⟩) ∧ Below M w w' := by
 have hc := hO.cell.1
 obtain ⟨g, cap, hv, hnc, hcm, hbg, hgl⟩ : ∃ g cap, v = .slice (some ⟨g, 0, none⟩) ts.length cap ∧ ts.length ≤ cap ∧ cap ≤ maxLen ∧ B7 ≤ g ∧ g < w.heap.size := a9F hO.2 (List.length_pos_iff.2 h0)
 subst hv
 have hgb' : b ≠ g := fun e => hgb (by rw [e]; rfl)
 have hg : ∀ i, i < ts.length → w.cell? ⟨g, 0 + i, none⟩ = some (.string ((fun i => (⟨(ts.getD i []).toArray⟩ : ByteArray)) i)) := fun i h => by
  have := World.ownsRow.cellAt hO.2 i (by omega)
  rw [Nat.zero_add, this]
  simp [List.getD, h, str]
 have hf : ∀ j, j < ts.length → w.frozen? ⟨g, 0 + j, none⟩ = false := fun j _ => World.ownsRow.frozenAt hO.2 (0 + j)
 have hvs : ∀ n, n = ts.length → (Lib.strsOf (fun i => (⟨(ts.getD i []).toArray⟩ : ByteArray)) n).reverse.map encStr = ts.reverse.map str := fun n hn => by
  have e : Lib.strsOf (fun i => (⟨(ts.getD i []).toArray⟩ : ByteArray)) n = ts := by
   unfold Lib.strsOf
   apply List.ext_getElem
   ·simp [hn]
   ·intro i h1 h2
    simp [List.getD, h2]
  rw [e]
 have hR := (Tryz.slices_Reverse_string_cells g 0 ts.length cap _ w (by unfold maxLen at hcm; omega) hg hf).mono (R' := fun e w' => e = .returned (.tuple #[]) ∧ w'.cell? ⟨b, 0, none⟩ = some (.slice (some ⟨g, 0, none⟩) ts.length cap) ∧ Below M w w' ∧ g < w'.heap.size ∧ ∀ j x, ts.reverse[j]? = some x → w'.cell? ⟨g, 0 + j, none⟩ = some (str x)) (by
  rintro e w' ⟨rfl, q, rfl⟩
  rw [hvs _ rfl]
  refine ⟨rfl, ?_, (show Below M w (w.drewN q) from ⟨rfl, rfl, rfl, Nat.le_refl _, fun _ _ => rfl⟩).trans (a89 (by omega) _ _ _), ?_, fun j x hj => ?_⟩
  ·rw [World.cell?_setCells_out g _ 0 _ _ (fun e => by simp at e; exact absurd e hgb')]
   exact hc
  ·rw [ab3]
   exact hgl
  ·obtain ⟨hj1, rfl⟩ := List.getElem?_eq_some_iff.1 hj
   rw [World.cell?_setCells_in g (ts.reverse.map str) 0 (w.drewN q) (fun i hi => ?_) j (by simpa using hj1)]
   ·simp
   ·have := hg i (by simpa using hi)
    rw [show (w.drewN q).cell? ⟨g, 0 + i, none⟩ = w.cell? ⟨g, 0 + i, none⟩ from rfl, this]
    rfl)
 have hJ : ∀ W : World, g < W.heap.size → (∀ j x, ts.reverse[j]? = some x → W.cell? ⟨g, 0 + j, none⟩ = some (str x)) → Calls Tryz.prog 105 #[.slice (some ⟨g, 0, none⟩) ts.length cap, .string ⟨#[]⟩] W fun e w' => e = .returned (.string ⟨ts.reverse.flatten.toArray⟩) ∧ Below M W w' := fun W hgW hcs => by
  have ej : Lib.join ((ts.reverse.map (fun x => (⟨x.toArray⟩ : ByteArray))).map (·.data.toList)) (⟨#[]⟩ : ByteArray).data.toList = ts.reverse.flatten := by
   unfold Lib.join
   rw [show (⟨#[]⟩ : ByteArray).data.toList = [] from rfl, ay2, List.map_map]
   simp [Function.comp_def]
  have h := Tryz.strings_Join g 0 cap (ts.reverse.map (fun x => (⟨x.toArray⟩ : ByteArray))) ⟨#[]⟩ W (fun j x hx => by
   rw [List.getElem?_map] at hx
   cases hr : ts.reverse[j]? with
   | none => rw [hr] at hx; cases hx
   | some y =>
    rw [hr] at hx
    cases hx
    exact hcs j y hr) hgW (by simp; omega) (by simpa using hnc) (by rw [ej]; omega)
  rw [ej, show (ts.reverse.map (fun x => (⟨x.toArray⟩ : ByteArray))).length = ts.length by simp] at h
  exact h.mono (fun e w' hh => ⟨hh.1, hh.2.mono (by omega)⟩)
 clear hg hf hvs
 go_enter Tryz.func46, Tryz.ntmps46
 go_wp2_with (first | (refine hR.mono ?_; rintro e w1 ⟨rfl, k1, kb, k2, k3⟩) | (refine (hJ _ k2 k3).mono ?_; rintro e w2 ⟨rfl, kc⟩))
 go_ret
 exact ⟨rfl, kb.trans kc⟩
structure a0m (M B7 p2 p3 p5 p6 p7 p8 : Nat) : Prop where
 m5 : M ≤ p5
 m6 : M ≤ p6
 l2 : p2 < B7 ∧ p2 ≠ p5 ∧ p2 ≠ p6
 l3 : p3 < B7 ∧ p3 ≠ p5 ∧ p3 ≠ p6
 l5 : p5 < B7 ∧ p5 ≠ p6
 l6 : p6 < B7
 l7 : p7 < B7 ∧ p7 ≠ p5 ∧ p7 ≠ p6
 l8 : p8 < B7 ∧ p8 ≠ p5 ∧ p8 ≠ p6
structure j8 (w : World) (M B7 p2 p3 p5 p6 p7 p8 : Nat) (sl : Value) (bf : Nat) (W : World) (v : Value) (ts : List (List UInt8)) (ne dp : Int) (left : Nat) : Prop where
 up : Below M w W
 sz : B7 ≤ W.heap.size
 c2 : W.cell? ⟨p2, 0, none⟩ = some sl
 c3 : W.cell? ⟨p3, 0, none⟩ = some (.func (.func bf) #[] #[])
 c7 : W.cell? ⟨p7, 0, none⟩ = some (.func (.func 97) #[] #[.pointer (some ⟨p2, 0, none⟩), .pointer (some ⟨p6, 0, none⟩), .pointer (some ⟨p8, 0, none⟩), .pointer (some ⟨p3, 0, none⟩), .pointer (some ⟨p7, 0, none⟩), .pointer (some ⟨p5, 0, none⟩)])
 c8 : W.cell? ⟨p8, 0, none⟩ = some (.func (.func 94) #[] #[.pointer (some ⟨p5, 0, none⟩), .pointer (some ⟨p7, 0, none⟩)])
 lf : VAt W p6 3 #[.int .i64 (left : Int)]
 out : WtV W B7 p5 v ts ne dp
 nd : 0 ≤ ne ∧ ne ≤ dp
def WS (p5 p6 : Nat) (v : Value) (k : Nat) : Prop := k ≠ p5 ∧ k ≠ p6 ∧ v.ownBlock ≠ some k

section
variable {w : World} {M B7 p2 p3 p5 p6 p7 p8 : Nat} {sl : Value} {bf : Nat} {W W' : World} {v v' : Value} {ts ts' : List (List UInt8)} {ne dp ne' dp' : Int} {left left' : Nat}
theorem j8.own (E : j8 w M B7 p2 p3 p5 p6 p7 p8 sl bf W v ts ne dp left) {k : Nat} (h : k < B7) : v.ownBlock ≠ some k := fun e => by have := (E.out.2.lt k e).1; omega
theorem j8.next (P : a0m M B7 p2 p3 p5 p6 p7 p8) (E : j8 w M B7 p2 p3 p5 p6 p7 p8 sl bf W v ts ne dp left) (K : Kp M (WS p5 p6 v) W W') (lf : VAt W' p6 3 #[.int .i64 (left' : Int)]) (out : WtV W' B7 p5 v' ts' ne' dp') (nd : 0 ≤ ne' ∧ ne' ≤ dp') :
  j8 w M B7 p2 p3 p5 p6 p7 p8 sl bf W' v' ts' ne' dp' left' where
 up := E.up.trans K.1
 sz := Nat.le_trans E.sz K.1.size
 c2 := K.cell (.inr ⟨P.l2.2.1, P.l2.2.2, E.own P.l2.1⟩) E.c2
 c3 := K.cell (.inr ⟨P.l3.2.1, P.l3.2.2, E.own P.l3.1⟩) E.c3
 c7 := K.cell (.inr ⟨P.l7.2.1, P.l7.2.2, E.own P.l7.1⟩) E.c7
 c8 := K.cell (.inr ⟨P.l8.2.1, P.l8.2.2, E.own P.l8.1⟩) E.c8
 lf := lf
 out := out
 nd := nd
theorem j8.kept (P : a0m M B7 p2 p3 p5 p6 p7 p8) (hM : M ≤ B7) (E : j8 w M B7 p2 p3 p5 p6 p7 p8 sl bf W v ts ne dp left) (G : W.grownBy W' none) : j8 w M B7 p2 p3 p5 p6 p7 p8 sl bf W' v ts ne dp left :=
 E.next P (Kp.none G (by have := E.sz; omega)) (E.lf.kept G) (E.out.kept G) E.nd
theorem j8.wrote (P : a0m M B7 p2 p3 p5 p6 p7 p8) (E : j8 w M B7 p2 p3 p5 p6 p7 p8 sl bf W v ts ne dp left) (K : Kp M (fun k => k ≠ p5 ∧ v.ownBlock ≠ some k) W W') (out : WtV W' B7 p5 v' ts' ne' dp') (nd : 0 ≤ ne' ∧ ne' ≤ dp') :
  j8 w M B7 p2 p3 p5 p6 p7 p8 sl bf W' v' ts' ne' dp' left :=
 E.next P (K.weak (fun _ h => ⟨h.1, h.2.2⟩)) (K.2 p6 _ ⟨fun e => P.l5.2 e.symm, E.own P.l6⟩ E.lf rfl) out nd
end
def WP (w : World) (M B7 p2 p3 p5 p6 p7 p8 : Nat) (sl : Value) (bf : Nat) (W : World) (v : Value) (ts : List (List UInt8)) (ne dp : Int) (left : Nat) (r : List UInt8) (d n k : Nat) (e : Ending) (W' : World) : Prop :=
 e = .returned (.tuple #[]) ∧ ∃ v' R, j8 w M B7 p2 p3 p5 p6 p7 p8 sl bf W' v' (ts ++ R) ne (max dp (ne + (d : Int))) (left - n) ∧ S0 W.heap.size v.ownBlock v' ∧ Kp M (WS p5 p6 v) W W' ∧ R.reverse.flatten = r ∧ R.length ≤ k
theorem a4R {M p5 p6 : Nat} {v v1 : Value} {A B C : World} (h : Kp M (WS p5 p6 v) A B) (g : S0 A.heap.size v.ownBlock v1) (k : Kp M (WS p5 p6 v1) B C) : Kp M (WS p5 p6 v) A C :=
 ⟨h.1.trans k.1, fun i o hi ho hc => k.2 i o ⟨hi.1, hi.2.1, g.ne (Array.getElem?_eq_some_iff.1 ho).1 hi.2.2⟩ (h.2 i o hi ho hc) hc⟩
theorem a4S {M p5 p6 : Nat} {v : Value} {A B : World} (h : Kp M (fun k => k ≠ p5 ∧ v.ownBlock ≠ some k) A B) : Kp M (WS p5 p6 v) A B := h.weak (fun _ h => ⟨h.1, h.2.2⟩)
theorem a52 {w : World} {M B7 p2 p3 p5 p6 p7 p8 : Nat} (P : a0m M B7 p2 p3 p5 p6 p7 p8) {sl : Value} {bf : Nat} {W : World} {v : Value} {ts : List (List UInt8)} {ne dp : Int} {left : Nat} (E : j8 w M B7 p2 p3 p5 p6 p7 p8 sl bf W v ts ne dp left) (ahead behind : List UInt8) (least : Int) (r : List UInt8) (d n k : Nat) (hne : ne ≤ 900000) (hts : ts.length + k ≤ 900000)
  (H : ∀ W1 v1, j8 w M B7 p2 p3 p5 p6 p7 p8 sl bf W1 v1 (ts ++ [behind]) (ne + 1) (max dp (ne + 1)) left → Calls Tryz.prog 97 #[.int .i64 least, .pointer (some ⟨p2, 0, none⟩), .pointer (some ⟨p6, 0, none⟩), .pointer (some ⟨p8, 0, none⟩), .pointer (some ⟨p3, 0, none⟩), .pointer (some ⟨p7, 0, none⟩), .pointer (some ⟨p5, 0, none⟩)] W1
   (WP w M B7 p2 p3 p5 p6 p7 p8 sl bf W1 v1 (ts ++ [behind]) (ne + 1) (max dp (ne + 1)) left r d n k)) :
  Calls Tryz.prog 94 #[str ahead, .int .i64 least, str behind, .pointer (some ⟨p5, 0, none⟩), .pointer (some ⟨p7, 0, none⟩)] W
   (WP w M B7 p2 p3 p5 p6 p7 p8 sl bf W v ts ne dp left (ahead ++ r ++ behind) (d + 1) n (k + 2)) := by
 have HE : Hid (j8 w M B7 p2 p3 p5 p6 p7 p8 sl bf W v ts ne dp left) := E
 have hn0 := E.nd.1
 have hC := ap3 M B7 p5 behind ts v ne dp W P.m5 P.l5.1 E.sz E.out (by omega) ⟨hn0, by omega⟩
 clear E
 go_enter Tryz.func94, Tryz.ntmps94
 go_wp2_with (first
  | (refine hC.mono ?_; rintro e W1 ⟨rfl, ⟨v1, hO1, g1⟩, K1⟩; have E1 := HE.out.wrote P K1 hO1 (by have := HE.out.nd; omega); have c7 := E1.c7; clear hC)
  | (refine (H _ _ E1).mono ?_; rintro e W2 ⟨rfl, v2, R, E2, g2, K2, hr, hk⟩; have HE2 : Hid (j8 w M B7 p2 p3 p5 p6 p7 p8 sl bf W2 v2 (ts ++ [behind] ++ R) (ne + 1) (max (max dp (ne + 1)) (ne + 1 + (d : Int))) (left - n)) := E2; clear E2 H c7)
  | (refine (aK4 M B7 p5 ahead _ _ _ _ W2 P.m5 P.l5.1 HE2.out.sz HE2.out.out (by simp; omega) ⟨by omega, by omega⟩).mono ?_; rintro e W3 ⟨rfl, ⟨v3, hO3, g3⟩, K3⟩))
 go_end0
 have s1 := K1.1.size
 have s2 := K2.1.size
 have K12 := a4R (a4S (p6 := p6) K1) g1 K2
 have g12 := g1.trans g2 s1
 have E3 := HE2.out.wrote P K3 hO3 (by have := HE2.out.nd; omega)
 have e1 : ne + 1 - 1 = ne := by omega
 have e2 : max (max dp (ne + 1)) (ne + 1 + (d : Int)) = max dp (ne + ((d + 1 : Nat) : Int)) := by omega
 rw [e1, e2, show ts ++ [behind] ++ R ++ [ahead] = ts ++ ([behind] ++ R ++ [ahead]) by simp] at E3
 exact ⟨rfl, v3, [behind] ++ R ++ [ahead], E3, g12.trans g3 (by omega), a4R K12 g12 (a4S K3), by simp [hr], by simp; omega⟩
def I8 (c : UInt8) : Bool := c == 32 || c == 9 || c == 10 || c == 13
def a0j (c : UInt8) : Bool := decide (97 ≤ c.toNat) && decide (c.toNat ≤ 122)
def k6 (c : UInt8) : Bool := J6 c.toNat || c == 58
def t8 (c : UInt8) : Bool := D8 c || c == 46
def l0 (c : UInt8) : Bool := D8 c || a0j c
def a2u : Nat → List UInt8 → Option Nat
 | v, [] => some v
 | v, c :: r => if J6 c.toNat = true then (if 4294967295 < 16 * v + z6 c.toNat then none else a2u (16 * v + z6 c.toNat) r) else none
def a0P (s : List UInt8) : Option Nat := if 2 < s.length ∧ s.getD 0 0 = 48 ∧ s.getD 1 0 = 120 then a2u 0 (s.drop 2) else D2 4294967295 s
def L0 : List (List UInt8) := [[60, 60], [62, 62], [60, 61], [62, 61], [61, 61], [33, 61], [38, 38], [124, 124]]
def a0Q : List UInt8 := [40, 41, 91, 93, 58, 43, 45, 42, 47, 37, 38, 124, 94, 60, 62, 61, 33]
def L6 (s : List UInt8) : List UInt8 := if s.take 2 ∈ L0 then s.take 2 else if s.head?.all (a0Q.contains ·) = true then s.take 1 else []
def k8 (s : List UInt8) : Except Int (Nat × List UInt8 × Nat) :=
 if 2 ≤ (s.takeWhile k6).count 58 then .ok (4, s.takeWhile k6, 0)
 else if s.head?.any D8 = true then
  (if 46 ∈ s.takeWhile t8 then .ok (3, s.takeWhile t8, 0)
  else match a0P (s.takeWhile l0) with
   | none => .error 102
   | some n => .ok (1, s.takeWhile l0, n))
 else if s.head?.any a0j = true then .ok (2, s.takeWhile l0, 0)
 else if L6 s = [] then .error 101 else .ok (5, L6 s, 0)
structure Tk where
 kind : Nat
 pos : Nat
 text : List UInt8
 num : Nat
def a1i : Nat → Nat → List UInt8 → Except (Nat × Int) (List Tk)
 | 0, p, _ => .ok [⟨0, p, [], 0⟩]
 | _ + 1, p, [] => .ok [⟨0, p, [], 0⟩]
 | k + 1, p, c :: r =>
  if I8 c = true then a1i k (p + 1) r
  else match k8 (c :: r) with
   | .error e => .error (p, e)
   | .ok (q, t, n) => match a1i k (p + t.length) ((c :: r).drop t.length) with
    | .error e => .error e
    | .ok ts => .ok (⟨q, p, t, n⟩ :: ts)
def N8 (p : Nat) (s : List UInt8) : Except (Nat × Int) (List Tk) := a1i s.length p s
def a03 (s : List UInt8) : Except (Nat × Int) (List Tk) := if 65536 < s.length then .error (0, 100) else N8 0 s
theorem al9 {c : UInt8} (h : I8 c = true) : k6 c = false ∧ t8 c = false ∧ l0 c = false ∧ D8 c = false ∧ a0j c = false ∧ a0Q.contains c = false := by
 unfold I8 at h
 simp only [Bool.or_eq_true, beq_iff_eq] at h
 rcases h with ((rfl | rfl) | rfl) | rfl <;> decide
theorem a2Q {α : Type} (p : α → Bool) : ∀ (l : List α), (l.takeWhile p).length ≤ l.length
 | [] => Nat.le_refl _
 | x :: r => by
  rw [List.takeWhile_cons]
  split
  ·simp only [List.length_cons]
   exact Nat.succ_le_succ (a2Q p r)
  ·simp
theorem a4f {α : Type} (p : α → Bool) (l : List α) : l.takeWhile p = l.take (l.takeWhile p).length := by
 induction l with
 | nil => rfl
 | cons x r ih =>
  rw [List.takeWhile_cons]
  split
  ·simp only [List.length_cons, List.take_succ_cons]
   rw [← ih]
  ·simp
theorem a5u {α : Type} (p : α → Bool) (l : List α) : (l.takeWhile p).takeWhile p = l.takeWhile p := by
 induction l with
 | nil => rfl
 | cons x r ih =>
  by_cases h : p x = true
  ·rw [List.takeWhile_cons_of_pos h, List.takeWhile_cons_of_pos h, ih]
  ·rw [List.takeWhile_cons_of_neg h]
   rfl
theorem ae4 {α : Type} (p : α → Bool) (t r : List α) (h : r = [] ∨ ∃ b r', r = b :: r' ∧ p b = false) : (t ++ r).takeWhile p = t.takeWhile p := by
 induction t with
 | nil =>
  rcases h with rfl | ⟨b, r', rfl, hb⟩
  ·rfl
  ·rw [List.nil_append, List.takeWhile_cons_of_neg (by rw [hb]; simp)]
   rfl
 | cons x t ih =>
  rw [List.cons_append]
  by_cases hx : p x = true
  ·rw [List.takeWhile_cons_of_pos hx, List.takeWhile_cons_of_pos hx, ih]
  ·rw [List.takeWhile_cons_of_neg hx, List.takeWhile_cons_of_neg hx]
theorem a7k {α : Type} (p : α → Bool) (l : List α) (h : ∀ x ∈ l, p x = true) : l.takeWhile p = l := by
 induction l with
 | nil => rfl
 | cons x r ih =>
  rw [List.takeWhile_cons_of_pos (h x (List.mem_cons_self ..)), ih (fun y hy => h y (List.mem_cons_of_mem _ hy))]
theorem a3A {α : Type} (p : α → Bool) (l : List α) {x : α} (h : x ∈ l.takeWhile p) : p x = true := by
 induction l with
 | nil => simp at h
 | cons y r ih =>
  by_cases hy : p y = true
  ·rw [List.takeWhile_cons_of_pos hy] at h
   rcases List.mem_cons.1 h with rfl | h
   ·exact hy
   ·exact ih h
  ·rw [List.takeWhile_cons_of_neg hy] at h
   simp at h
theorem ae5 {α : Type} (p : α → Bool) (c : α) (r : List α) (h : p c = true) : ∃ t, (c :: r).takeWhile p = c :: t := ⟨_, List.takeWhile_cons_of_pos h⟩
structure Nd where
 kind : Nat
 op : Nat
 n : Nat
 m : Nat
 size : Nat
 of : Nat
 side : Nat
 addr : List UInt8
 bits : Nat
def nd0 : Nd := ⟨0, 0, 0, 0, 0, 0, 0, List.replicate 16 0, 0⟩
def ndK (k : Nat) : Nd := { nd0 with kind := k }
abbrev Er := Nat × Int
abbrev Out := Except Er (List (Nd × Nat) × List Tk)
def d7 {α β : Type} (x : Except Er α) (f : α → Except Er β) : Except Er β := match x with
 | .error e => .error e
 | .ok y => f y
theorem D9 {α β : Type} (y : α) (f : α → Except Er β) : d7 (.ok y) f = f y := rfl
theorem b02 {α β : Type} (e : Er) (f : α → Except Er β) : d7 (.error e : Except Er α) f = .error e := rfl
def hdT (ts : List Tk) : Tk := ts.headD ⟨0, 0, [], 0⟩
def isB (ts : List Tk) (x : List UInt8) : Bool := ((hdT ts).kind == 5 || (hdT ts).kind == 2) && (hdT ts).text == x
def S5 {α : Type} (ts : List Tk) (e : Int) : Except Er α := .error ((hdT ts).pos, if (hdT ts).kind = 0 then 110 else e)
def p9 (x : List UInt8) (ts : List Tk) : Except Er (List Tk) := if isB ts x = true then .ok ts.tail else S5 ts 111
def m8 (ts : List Tk) : Except Er (Nat × List Tk) := if (hdT ts).kind = 1 then .ok ((hdT ts).num, ts.tail) else S5 ts 111
def B5 {α : Type} (nest : Nat) (ts : List Tk) (x : Except Er α) : Except Er α := if nest = 200 then .error ((hdT ts).pos, 113) else x
def U1 : List UInt8 := [110, 111, 116]
def U8 : List UInt8 := [97, 110, 100]
def wOr : List UInt8 := [111, 114]
def L3 : List UInt8 := [115, 114, 99]
def J0 : List UInt8 := [100, 115, 116]
def U0 : List UInt8 := [104, 111, 115, 116]
def U9 : List UInt8 := [110, 101, 116]
def J5 : List UInt8 := [112, 111, 114, 116]
def I3 : List UInt8 := [112, 111, 114, 116, 114, 97, 110, 103, 101]
def E0 : List UInt8 := [112, 114, 111, 116, 111]
def a1D : List UInt8 := [108, 101, 110]
def a1C : List UInt8 := [105, 110, 98, 111, 117, 110, 100]
def a1E : List UInt8 := [111, 117, 116, 98, 111, 117, 110, 100]
def a2c (x : List UInt8) : Option Nat :=
 if x = [61] ∨ x = [61, 61] then some 1 else if x = [33, 61] then some 2 else if x = [60] then some 3 else if x = [60, 61] then some 4 else if x = [62] then some 5 else if x = [62, 61] then some 6 else none
def t7 (k : Nat) (x : List UInt8) : Option Nd :=
 if k = 1 then (if x = wOr ∨ x = [124, 124] then some (ndK 8) else none)
 else if k = 2 then (if x = U8 ∨ x = [38, 38] then some (ndK 7) else none)
 else if k = 4 then (a2c x).map fun o => { ndK 6 with op := o }
 else if k = 5 then (if x = [124] then some { ndK 4 with op := 7 } else none)
 else if k = 6 then (if x = [94] then some { ndK 4 with op := 8 } else none)
 else if k = 7 then (if x = [38] then some { ndK 4 with op := 6 } else none)
 else if k = 8 then (if x = [60, 60] then some { ndK 4 with op := 9 } else if x = [62, 62] then some { ndK 4 with op := 10 } else none)
 else if k = 9 then (if x = [43] then some { ndK 4 with op := 1 } else if x = [45] then some { ndK 4 with op := 2 } else none)
 else if k = 10 then (if x = [42] then some { ndK 4 with op := 3 } else if x = [47] then some { ndK 4 with op := 4 } else if x = [37] then some { ndK 4 with op := 5 } else none)
 else none
def E4 (x : List UInt8) : Nat :=
 if x = [112, 112, 112] then 1 else if x = [105, 112] then 2 else if x = [105, 112, 54] then 3 else if x = [116, 99, 112] then 4 else if x = [117, 100, 112] then 5
 else if x = [105, 99, 109, 112] then 6 else if x = [105, 99, 109, 112, 54] then 7 else if x = [108, 99, 112] then 8 else if x = [112, 97, 112] then 9 else if x = [99, 104, 97, 112] then 10
 else if x = [105, 112, 99, 112] then 11 else if x = [105, 112, 54, 99, 112] then 12 else if x = [109, 112] then 13 else 0
def a0Z (kind : Nat) (ts : List Tk) : Except Er (Nd × List Tk) :=
 if (hdT ts).kind = 3 then (match M5 (hdT ts).text with
  | some a => .ok ({ ndK kind with of := 2, addr := a ++ List.replicate 12 0 }, ts.tail)
  | none => S5 ts 112)
 else if (hdT ts).kind = 4 then (match L1 (hdT ts).text with
  | some a => .ok ({ ndK kind with of := 3, addr := a }, ts.tail)
  | none => S5 ts 112)
 else S5 ts 111
def s8 (ts : List Tk) : Nat := if isB ts L3 = true then 1 else if isB ts J0 = true then 2 else 0
def s9 (ts : List Tk) : List Tk := if s8 ts = 0 then ts else ts.tail
def a0a (of at' side : Nat) (ts : List Tk) : Out :=
 if isB ts J5 = true then d7 (m8 ts.tail) fun p => .ok ([({ ndK 16 with of := of, side := side, n := p.1, m := p.1 }, at')], p.2)
 else if isB ts I3 = true then d7 (m8 ts.tail) fun p => d7 (p9 [45] p.2) fun r => d7 (m8 r) fun q => .ok ([({ ndK 16 with of := of, side := side, n := p.1, m := q.1 }, at')], q.2)
 else if of = 0 ∧ isB ts U0 = true then d7 (a0Z 14 ts.tail) fun p => .ok ([({ p.1 with side := side }, at')], p.2)
 else if of = 0 ∧ isB ts U9 = true then d7 (a0Z 15 ts.tail) fun p => d7 (p9 [47] p.2) fun r => d7 (m8 r) fun q => .ok ([({ p.1 with bits := q.1, side := side }, at')], q.2)
 else S5 ts 111
def a0C (of at' : Nat) (ts : List Tk) : Out := a0a of at' (s8 ts) (s9 ts)
def a00 (ts : List Tk) : Out :=
 if (hdT ts).text = a1D then .ok ([(ndK 2, (hdT ts).pos)], ts.tail)
 else if (hdT ts).text = a1C then .ok ([({ ndK 10 with side := 1 }, (hdT ts).pos)], ts.tail)
 else if (hdT ts).text = a1E then .ok ([({ ndK 10 with side := 2 }, (hdT ts).pos)], ts.tail)
 else if (hdT ts).text = E0 then d7 (m8 ts.tail) fun p => .ok ([({ ndK 12 with n := p.1 }, (hdT ts).pos)], p.2)
 else if (hdT ts).text ∈ [L3, J0, U0, U9, J5, I3] then a0C 0 (hdT ts).pos ts
 else S5 ts 111
def a0u (ts : List Tk) : Except Er (Nat × List Tk) :=
 if isB ts [58] = true then d7 (m8 ts.tail) fun p => d7 (p9 [93] p.2) fun r => .ok (p.1, r)
 else d7 (p9 [93] ts) fun r => .ok (1, r)
def S7 (rec : Nat → List Tk → Out) (nest of at' : Nat) (ts : List Tk) : Out :=
 if isB ts [91] = true ∧ of ≠ 13 then B5 nest ts (d7 (rec (nest + 1) ts.tail) fun p => d7 (a0u p.2) fun q => .ok (p.1 ++ [({ ndK 3 with of := of, size := q.1 }, at')], q.2))
 else if of = 1 then S5 ts 111
 else if (of = 2 ∨ of = 3) ∧ isB ts E0 = true then d7 (m8 ts.tail) fun p => .ok ([({ ndK 13 with of := of, n := p.1 }, at')], p.2)
 else if (of = 4 ∨ of = 5) ∧ (isB ts L3 = true ∨ isB ts J0 = true ∨ isB ts J5 = true ∨ isB ts I3 = true) then a0C of at' ts
 else .ok ([({ ndK 11 with of := of }, at')], ts)
def D4 (rec : Nat → List Tk → Out) (nest : Nat) (ts : List Tk) : Out :=
 if (hdT ts).kind = 1 then .ok ([({ ndK 1 with n := (hdT ts).num }, (hdT ts).pos)], ts.tail)
 else if isB ts [40] = true then B5 nest ts (d7 (rec (nest + 1) ts.tail) fun p => d7 (p9 [41] p.2) fun r => .ok (p.1, r))
 else if (hdT ts).kind ≠ 2 then S5 ts 111
 else if E4 (hdT ts).text ≠ 0 then S7 rec nest (E4 (hdT ts).text) (hdT ts).pos ts.tail
 else a00 ts
def opT (k : Nat) (ts : List Tk) : Option Nd := if (hdT ts).kind = 5 ∨ (hdT ts).kind = 2 then t7 k (hdT ts).text else none
def A9 (rec : List Tk → Out) (k : Nat) : Nat → List (Nd × Nat) → List Tk → Out
 | 0, ns, ts => .ok (ns, ts)
 | f + 1, ns, ts => match opT k ts with
  | none => .ok (ns, ts)
  | some nd => d7 (rec ts.tail) fun p => if k = 4 then .ok (ns ++ p.1 ++ [(nd, (hdT ts).pos)], p.2) else A9 rec k f (ns ++ p.1 ++ [(nd, (hdT ts).pos)]) p.2
def N6 (rec : Nat → Nat → List Tk → Out) (k nest : Nat) (ts : List Tk) : Out :=
 if k = 3 ∧ (isB ts U1 = true ∨ isB ts [33] = true) then B5 nest ts (d7 (rec 3 (nest + 1) ts.tail) fun p => .ok (p.1 ++ [(ndK 9, (hdT ts).pos)], p.2))
 else if k = 11 ∧ isB ts [45] = true then B5 nest ts (d7 (rec 11 (nest + 1) ts.tail) fun p => .ok (p.1 ++ [(ndK 5, (hdT ts).pos)], p.2))
 else if k = 3 ∨ k = 11 then rec (k + 1) nest ts
 else if k = 12 then D4 (rec 1) nest ts
 else d7 (rec (k + 1) nest ts) fun p => A9 (rec (k + 1) nest) k p.2.length p.1 p.2
def d6 : Nat → Nat → Nat → List Tk → Out
 | 0 => fun _ _ _ => .error (0, 0)
 | f + 1 => N6 (d6 f)
theorem N0 (f k nest : Nat) (ts : List Tk) : d6 (f + 1) k nest ts = N6 (d6 f) k nest ts := rfl
def a15 (k : Nat) (ts : List Tk) : Nat := 13 * ts.length + (13 - k)
def a44 (ts : List Tk) : Except Er (List (Nd × Nat)) := d7 (d6 (a15 1 ts) 1 0 ts) fun p => if (hdT p.2).kind = 0 then .ok p.1 else S5 p.2 111
def a1Q (s : List UInt8) : Except Er (List (Nd × Nat)) := d7 (a03 s) a44
theorem a4Q {P : Program} (d : Nat) (e : TypeId) (he : P.underlying e = some (.int .u8)) (hk : P.plainKey e = true) (xs ys : List UInt8) (w : World) (hl : xs.length = ys.length) :
  ∀ (m k : Nat), k + m = xs.length → (Op.eqItems (d + 1) e 1 (xs.map bv).toArray (ys.map bv).toArray (List.range' k m)).run P w = .ok (decide (xs.drop k = ys.drop k)) w
 | 0, k, h => by
  have e1 : xs.drop k = ys.drop k := by rw [List.drop_eq_nil_of_le (by omega), List.drop_eq_nil_of_le (by omega)]
  simp only [List.range'_zero, Op.eqItems, Sem.run_pure]
  rw [decide_eq_true e1]
 | m + 1, k, h => by
  have hx : k < xs.length := by omega
  have hy : k < ys.length := by omega
  have p1 := run_part_plain (P := P) w hk (xs := (xs.map bv).toArray) (off := k * 1) (v := bv xs[k]) (by simp [hx])
  have p2 := run_part_plain (P := P) w hk (xs := (ys.map bv).toArray) (off := k * 1) (v := bv ys[k]) (by simp [hy])
  have p3 : (Op.equalIn (d + 1) e (bv xs[k]) (bv ys[k])).run P w = .ok ((xs[k].toNat : Int) == (ys[k].toNat : Int)) w := run_equalIn_int w d e .u8 .u8 _ _ he
  have ih := a4Q d e he hk xs ys w hl m (k + 1) (by omega)
  rw [List.range'_succ]
  simp only [Op.eqItems, Sem.run_bind, p1, p2, p3, Result.andThen_ok]
  rw [List.drop_eq_getElem_cons hx, List.drop_eq_getElem_cons hy]
  by_cases hq : xs[k] = ys[k]
  ·rw [hq, show ((ys[k].toNat : Int) == (ys[k].toNat : Int)) = true by simp]
   simp only [Bool.not_true, Bool.false_eq_true, if_false]
   rw [ih]
   simp only [List.cons.injEq, true_and]
  ·have : ((xs[k].toNat : Int) == (ys[k].toNat : Int)) = false := by
    rw [beq_eq_false_iff_ne]
    intro e
    exact hq (UInt8.toNat_inj.1 (by omega))
   rw [this]
   simp only [Bool.not_false, if_true, Sem.run_pure]
   rw [decide_eq_false (fun e => hq (List.cons.inj e).1)]
theorem as0 {P : Program} {t e : TypeId} {n : Nat} {i : TypeInfo} (hu : P.underlying t = some (.array n e)) (hi : P.info? e = some i) (he : P.underlying e = some (.int .u8)) (hk : P.plainKey e = true) (hc : P.cellsOf e = 1) (xs ys : List UInt8) (hx : xs.length = n) (hy : ys.length = n) (w : World) :
  (Op.equalIn 10000 t (.agg (xs.map bv).toArray) (.agg (ys.map bv).toArray)).run P w = .ok (decide (xs = ys)) w := by
 rw [show (10000 : Nat) = 9999 + 1 from rfl, run_equalIn_array w 9999 _ _ hu hi, hc, List.range_eq_range', show (9999 : Nat) = 9998 + 1 from rfl, a4Q 9998 e he hk xs ys w (by omega) n 0 (by omega)]
 rfl
def adr (x : Nd) (i : Nat) : Value := .int .u8 ((x.addr.getD i 0).toNat : Int)
def Nd.cells (x : Nd) : List Value := [.int .i64 (x.kind : Int), .int .i64 (x.op : Int), .int .u32 (x.n : Int), .int .u32 (x.m : Int), .int .i64 (x.size : Int), .int .i64 (x.of : Int), .int .i64 (x.side : Int),
 adr x 0, adr x 1, adr x 2, adr x 3, adr x 4, adr x 5, adr x 6, adr x 7, adr x 8, adr x 9, adr x 10, adr x 11, adr x 12, adr x 13, adr x 14, adr x 15, .int .i64 (x.bits : Int)]
theorem Nd.cells_len (x : Nd) : x.cells.length = 24 := rfl
def a0K (xs : List Nd) : List Value := xs.flatMap Nd.cells
theorem at8 : a0K [] = [] := rfl
theorem a8G (x : Nd) (xs : List Nd) : a0K (x :: xs) = x.cells ++ a0K xs := rfl
theorem at7 (xs ys : List Nd) : a0K (xs ++ ys) = a0K xs ++ a0K ys := by simp only [a0K, List.flatMap_append]
theorem at9 (x : Nd) : a0K [x] = x.cells := by rw [a8G, at8, List.append_nil]
theorem Nd.cells_one (x : Nd) : ∀ u ∈ x.cells, u.oneCell' = true := by
 intro u hu
 simp only [Nd.cells, adr, List.mem_cons, List.not_mem_nil, or_false] at hu
 rcases hu with rfl | rfl | rfl | rfl | rfl | rfl | rfl | rfl | rfl | rfl | rfl | rfl | rfl | rfl | rfl | rfl | rfl | rfl | rfl | rfl | rfl | rfl | rfl | rfl <;> rfl
theorem a4c : (Tryz.prog.info? 43).map (·.size) = some 24 := by kernel_rfl
theorem a94 : (Tryz.prog.info? 43).map (fun i => (i.zero, i.size, i.bytes)) = some (some (.agg nd0.cells.toArray), 24, 72) := by kernel_rfl
abbrev a5N (w : World) (base : Nat) (v : Value) (xs : List Nd) : Prop := w.ownsRow base 43 24 v xs.length (a0K xs)
theorem a8u {P : Program} (d : Nat) (xs : Array Value) (w : World) : ∀ fs : List Field, (∀ f ∈ fs, ∃ a, (part f.type xs f.offset).run P w = .ok a w ∧ (Op.equalIn d f.type a a).run P w = .ok true w) → (Op.eqFields d xs xs fs).run P w = .ok true w
 | [], _ => by simp [Op.eqFields]
 | f :: fs, h => by
  obtain ⟨a, h1, h2⟩ := h f (List.mem_cons_self ..)
  have ih := a8u d xs w fs (fun g hg => h g (List.mem_cons_of_mem _ hg))
  unfold Op.eqFields
  split
  ·simp only [Sem.run_bind, h1, h2, Result.andThen_ok, Bool.not_true, Bool.false_eq_true, if_false]
   exact ih
  ·exact ih
theorem ar8 {P : Program} {t e : TypeId} {n : Nat} {i : TypeInfo} (d : Nat) (hu : P.underlying t = some (.array n e)) (hi : P.info? e = some i) (he : P.underlying e = some (.int .u8)) (hk : P.plainKey e = true) (hc : P.cellsOf e = 1) (xs : List UInt8) (hx : xs.length = n) (w : World) :
  (Op.equalIn (d + 2) t (.agg (xs.map bv).toArray) (.agg (xs.map bv).toArray)).run P w = .ok true w := by
 rw [run_equalIn_array w (d + 1) _ _ hu hi, hc, List.range_eq_range', a4Q d e he hk xs xs w rfl n 0 (by omega)]
 simp
structure GB (w w' : World) (S : Nat → Prop) : Prop where
 os : w'.os = w.os
 tape : w'.tape = w.tape
 output : w'.output = w.output
 size : w.heap.size ≤ w'.heap.size
 block : ∀ i, i < w.heap.size → ¬ S i → w'.heap[i]? = w.heap[i]?
theorem GB.of {w w' : World} {row : Option Nat} {S : Nat → Prop} (h : w.grownBy w' row) (hs : ∀ x, row = some x → S x) : GB w w' S :=
 ⟨h.os, h.tape, h.output, h.size, fun i hi hn => h.block i hi (fun e => hn (hs i e.symm))⟩
theorem GB.non {w w' : World} {S : Nat → Prop} (h : w.grownBy w' none) : GB w w' S := GB.of h (fun x hx => by cases hx)
theorem GB.refl (w : World) (S : Nat → Prop) : GB w w S := ⟨rfl, rfl, rfl, Nat.le_refl _, fun _ _ _ => rfl⟩
theorem GB.trans {w w1 w2 : World} {S S' : Nat → Prop} (h : GB w w1 S) (k : GB w1 w2 S') (hs : ∀ x, x < w.heap.size → S' x → S x) : GB w w2 S :=
 ⟨k.os.trans h.os, k.tape.trans h.tape, k.output.trans h.output, Nat.le_trans h.size k.size, fun i hi hn => (k.block i (Nat.lt_of_lt_of_le hi h.size) (fun e => hn (hs i hi e))).trans (h.block i hi hn)⟩
theorem GB.mono {w w' : World} {S S' : Nat → Prop} (h : GB w w' S) (hs : ∀ x, S x → S' x) : GB w w' S' := ⟨h.os, h.tape, h.output, h.size, fun i hi hn => h.block i hi (fun e => hn (hs i e))⟩
theorem GB.grown {w w' : World} {S : Nat → Prop} (h : GB w w' S) (hs : ∀ x, x < w.heap.size → ¬ S x) : w.grownBy w' none := ⟨h.os, h.tape, h.output, h.size, fun i hi _ => h.block i hi (hs i hi)⟩
theorem GB.one {w w' : World} {S : Nat → Prop} {g : Nat} (h : GB w w' S) (hs : ∀ x, x < w.heap.size → S x → x = g) : w.grownBy w' (some g) := ⟨h.os, h.tape, h.output, h.size, fun i hi hn => h.block i hi (fun e => hn (congrArg some (hs i hi e)))⟩
theorem GB.vat {w w' : World} {S : Nat → Prop} {g t : Nat} {cs : Array Value} (h : GB w w' S) (A : VAt w g t cs) (hg : ¬ S g) : VAt w' g t cs := by
 have := h.block g A.lt hg
 unfold VAt at *
 rw [this, A]
theorem GB.owns {w w' : World} {S : Nat → Prop} {base e size n : Nat} {v : Value} {vs : List Value} (h : GB w w' S) (O : w.ownsRow base e size v n vs) (hv : ∀ x, v.ownBlock = some x → ¬ S x) : w'.ownsRow base e size v n vs := by
 refine ⟨O.1, ?_⟩
 rcases O.2 with h0 | ⟨g, cap, cur, hv', hb, hg, r⟩
 ·exact .inl h0
 ·right
  refine ⟨g, cap, cur, hv', hb, ?_, r⟩
  have hlt : g < w.heap.size := by
   by_cases hh : g < w.heap.size
   ·exact hh
   ·rw [Array.getElem?_eq_none (by omega)] at hg; cases hg
  rw [h.block g hlt (hv g (by rw [hv']; rfl)), hg]
theorem GB.cell {w w' : World} {S : Nat → Prop} {ad : Addr} {v : Value} (h : GB w w' S) (hc : w.cell? ad = some v) (ha : ¬ S ad.block) (hlt : ad.block < w.heap.size) : w'.cell? ad = some v := by
 have := h.block ad.block hlt ha
 unfold World.cell? at *
 rw [this]
 exact hc
theorem GB.cells {w w' : World} {S : Nat → Prop} {ao : Option Addr} {xs : List UInt8} (h : GB w w' S) (hc : Cells w ao xs) (ha : ∀ ad, ao = some ad → xs ≠ [] → ¬ S ad.block) : Cells w' ao xs := by
 have hu := hc.under
 refine hc.same fun b off i hb hi => ?_
 have hne : xs ≠ [] := by
  intro e
  rw [e] at hi
  simp at hi
 have h1 := ha _ hb hne
 have h2 := hu _ hb hne
 have := h.block b h2 h1
 unfold World.cell?
 simp only [this]
structure Ng where
 kind : Int
 op : Int
 n : Nat
 m : Nat
 size : Int
 of : Int
 side : Int
 addr : List UInt8
 bits : Int
def adg (x : Ng) (i : Nat) : Value := .int .u8 ((x.addr.getD i 0).toNat : Int)
def Ng.cells (x : Ng) : List Value := [.int .i64 x.kind, .int .i64 x.op, .int .u32 (x.n : Int), .int .u32 (x.m : Int), .int .i64 x.size, .int .i64 x.of, .int .i64 x.side,
 adg x 0, adg x 1, adg x 2, adg x 3, adg x 4, adg x 5, adg x 6, adg x 7, adg x 8, adg x 9, adg x 10, adg x 11, adg x 12, adg x 13, adg x 14, adg x 15, .int .i64 x.bits]
theorem Ng.cells_len (x : Ng) : x.cells.length = 24 := rfl
def q9 (xs : List Ng) : List Value := xs.flatMap Ng.cells
theorem a6i (x : Ng) (xs : List Ng) : q9 (x :: xs) = x.cells ++ q9 xs := rfl
theorem a6j (xs : List Ng) : (q9 xs).length = xs.length * 24 := by
 induction xs with
 | nil => rfl
 | cons x xs ih => rw [a6i, List.length_append, ih, List.length_cons, Ng.cells_len]; omega
theorem a8F (xs : List Ng) (i j : Nat) (hi : i < xs.length) (hj : j < 24) : (q9 xs)[i * 24 + j]? = (xs[i].cells)[j]? := by
 induction xs generalizing i with
 | nil => simp at hi
 | cons x xs ih =>
  rw [a6i]
  have hl : x.cells.length = 24 := rfl
  cases i with
  | zero => rw [List.getElem?_append_left (by omega)]; simp
  | succ i =>
   rw [List.getElem?_append_right (by omega), hl, show (i + 1) * 24 + j - 24 = i * 24 + j by omega, ih i (by simpa using hi)]
   simp
theorem Ng.cells_one (x : Ng) : ∀ u ∈ x.cells, u.oneCell' = true := by
 intro u hu
 simp only [Ng.cells, adg, List.mem_cons, List.not_mem_nil, or_false] at hu
 rcases hu with rfl | rfl | rfl | rfl | rfl | rfl | rfl | rfl | rfl | rfl | rfl | rfl | rfl | rfl | rfl | rfl | rfl | rfl | rfl | rfl | rfl | rfl | rfl | rfl <;> rfl
theorem at6 (xs : List Ng) : ∀ u ∈ q9 xs, u.oneCell' = true := by
 intro u hu
 obtain ⟨x, _, hx⟩ := List.mem_flatMap.1 hu
 exact x.cells_one u hx
theorem CV.ngs {w : World} {ao : Option Addr} {xs : List Ng} (h : CV w ao (q9 xs)) {k : Nat} (hk : k < xs.length) :
  ∃ b off, ao = some ⟨b, off, none⟩ ∧ ∀ i (hi : i < xs.length), w.rangeAt b (off + i * 24) xs[i].cells := by
 have hl := a6j xs
 obtain ⟨b, off, hao, hc⟩ := h.addr (k := k * 24) (by omega)
 refine ⟨b, off, hao, fun i hi j v hv => ?_⟩
 have hj : j < 24 := (List.getElem?_eq_some_iff.1 hv).1
 rw [← a8F xs i j hi hj] at hv
 rw [Nat.add_assoc, hc (i * 24 + j) (by omega), ← hv, List.getElem?_eq_getElem (by omega)]
abbrev a4o (w : World) (base : Nat) (v : Value) (xs : List Ng) : Prop := w.ownsRow base 43 24 v xs.length (q9 xs)
def m3 (x : Ng) : List UInt8 := [x.addr.getD 0 0, x.addr.getD 1 0, x.addr.getD 2 0, x.addr.getD 3 0, x.addr.getD 4 0, x.addr.getD 5 0, x.addr.getD 6 0, x.addr.getD 7 0, x.addr.getD 8 0, x.addr.getD 9 0, x.addr.getD 10 0, x.addr.getD 11 0, x.addr.getD 12 0, x.addr.getD 13 0, x.addr.getD 14 0, x.addr.getD 15 0]
theorem aI2 : (Tryz.prog.fieldsOf 43).toList.map (fun f => (f.type, f.offset)) = [(3, 0), (3, 1), (40, 2), (40, 3), (3, 4), (3, 5), (3, 6), (41, 7), (3, 23)] := by kernel_rfl
theorem aI1 (x : Ng) (w : World) : (Op.equalIn 10000 43 (.agg x.cells.toArray) (.agg x.cells.toArray)).run Tryz.prog w = .ok true w := by
 obtain ⟨i0, hi, -⟩ := info_parts a1g
 rw [show (10000 : Nat) = 9999 + 1 from rfl, run_equalIn_struct w 9999 _ _ _ (by kernel_rfl) (by kernel_rfl)]
 refine a8u 9999 _ w _ (fun f hf => ?_)
 have hm : (f.type, f.offset) ∈ (Tryz.prog.fieldsOf 43).toList.map (fun f => (f.type, f.offset)) := List.mem_map_of_mem hf
 rw [aI2] at hm
 generalize f.type = ft at *
 generalize f.offset = fo at *
 simp only [List.mem_cons, Prod.mk.injEq, List.not_mem_nil, or_false] at hm
 rcases hm with ⟨rfl, rfl⟩ | ⟨rfl, rfl⟩ | ⟨rfl, rfl⟩ | ⟨rfl, rfl⟩ | ⟨rfl, rfl⟩ | ⟨rfl, rfl⟩ | ⟨rfl, rfl⟩ | ⟨rfl, rfl⟩ | ⟨rfl, rfl⟩
 ·exact ⟨.int .i64 x.kind, by kernel_rfl, by rw [run_equalIn_int w 9998 _ _ .i64 _ _ Tryz.underlying3]; simp⟩
 ·exact ⟨.int .i64 x.op, by kernel_rfl, by rw [run_equalIn_int w 9998 _ _ .i64 _ _ Tryz.underlying3]; simp⟩
 ·exact ⟨.int .u32 (x.n : Int), by kernel_rfl, by rw [run_equalIn_int w 9998 _ _ .u32 _ _ Tryz.underlying40]; simp⟩
 ·exact ⟨.int .u32 (x.m : Int), by kernel_rfl, by rw [run_equalIn_int w 9998 _ _ .u32 _ _ Tryz.underlying40]; simp⟩
 ·exact ⟨.int .i64 x.size, by kernel_rfl, by rw [run_equalIn_int w 9998 _ _ .i64 _ _ Tryz.underlying3]; simp⟩
 ·exact ⟨.int .i64 x.of, by kernel_rfl, by rw [run_equalIn_int w 9998 _ _ .i64 _ _ Tryz.underlying3]; simp⟩
 ·exact ⟨.int .i64 x.side, by kernel_rfl, by rw [run_equalIn_int w 9998 _ _ .i64 _ _ Tryz.underlying3]; simp⟩
 ·exact ⟨.agg ((m3 x).map bv).toArray, by kernel_rfl, ar8 9997 Tryz.underlying41 hi Tryz.underlying5 (by kernel_rfl) (by kernel_rfl) (m3 x) rfl w⟩
 ·exact ⟨.int .i64 x.bits, by kernel_rfl, by rw [run_equalIn_int w 9998 _ _ .i64 _ _ Tryz.underlying3]; simp⟩
theorem a8T (a b : Option Addr) (ca cb : Nat) (xs : List Ng) (w : World) (ha : CV w a (q9 xs)) (hb : CV w b (q9 xs)) (hm : xs.length ≤ 9223372036854775807) :
  Calls Tryz.prog 18 #[.slice a xs.length ca, .slice b xs.length cb] w fun e w' => e = .returned (.bool true) ∧ ∃ n, w' = w.drewN n := by
 have hne : ((xs.length : Int) != (xs.length : Int)) = false := by simp
 go_enter Tryz.func18, Tryz.ntmps18
 go_wp2
 go_loopw [5] (fun i wr => ∃ k : Nat, k ≤ xs.length ∧ i = .int .i64 k ∧ ∃ n, wr = w.drewN n) (fun i _ => xs.length - (intOf i).toNat)
 case atStart => exact ⟨0, Nat.zero_le _, rfl, 0, rfl⟩
 case round =>
  obtain ⟨k, hk, rfl, n, rfl⟩ := hrel
  by_cases hlt : k < xs.length
  ·obtain ⟨b1, o1, rfl, -⟩ := ha.ngs hlt
   obtain ⟨b2, o2, rfl, -⟩ := hb.ngs hlt
   have HA : Hid (∀ W, (∃ n, W = w.drewN n) → W.rangeAt b1 (o1 + k * 24) xs[k].cells) := fun W ⟨n, hW⟩ => by
    obtain ⟨b, o, e, h⟩ := (ha.keptNone (hW ▸ f9 w n none)).ngs hlt
    simp only [Option.some.injEq, Addr.mk.injEq] at e
    obtain ⟨rfl, rfl, -⟩ := e
    exact h k hlt
   have HB : Hid (∀ W, (∃ n, W = w.drewN n) → W.rangeAt b2 (o2 + k * 24) xs[k].cells) := fun W ⟨n, hW⟩ => by
    obtain ⟨b, o, e, h⟩ := (hb.keptNone (hW ▸ f9 w n none)).ngs hlt
    simp only [Option.some.injEq, Addr.mk.injEq] at e
    obtain ⟨rfl, rfl, -⟩ := e
    exact h k hlt
   have HEQ := fun W => aI1 xs[k] W
   have HSZ : xs[k].cells.length = 24 := rfl
   have HS : Hid ((Tryz.prog.info? 43).map (·.size) = some xs[k].cells.length) := a4c
   clear ha hb HSZ
   generalize xs[k].cells = cs at *
   have hl : (k : Int) < (xs.length : Int) := by omega
   have z0 : (0 : Int) ≤ (k : Int) := by omega
   go_upto_region 6 with fail
   refine wp_region_held_drew (S := fun W => ∃ n, W = w.drewN n) (by kernel_rfl) ⟨n + 1, rfl⟩ (fun hHeld => ?_)
   refine wpT (i := 0) (v := .slice (some ⟨b1, o1, none⟩) xs.length ca) rfl (Or.inl ⟨by rfl, fun W hW => ?_⟩) hHeld ?_
   ·clear hW
    go_simp
   try simp only [Act.put, a0, a1, a3, a4, a5]
   refine wpT (i := 1) (v := .int .i64 (k : Int)) rfl (Or.inl ⟨by rfl, fun W hW => ?_⟩) hHeld ?_
   ·clear hW
    go_simp
   try simp only [Act.put, a0, a1, a2, a3, a4, a5]
   refine wpT (i := 2) (v := .pointer (some ⟨b1, o1 + k * 24, none⟩)) rfl (Or.inl ⟨by rfl, fun W hW => ?_⟩) hHeld ?_
   ·clear hW
    go_simp
   try simp only [Act.put, a0, a1, a2, a3, a4, a5]
   refine wpT (i := 3) (v := .agg cs.toArray) rfl (yieldsIf_load_mid (by rfl) _ _ rfl _ _ rfl cs _ (fun W hW => HA.out W hW) Tryz.underlying43 rfl HS.out) hHeld ?_
   try simp only [Act.put, a0, a1, a2, a3, a4, a5]
   refine wpT (i := 4) (v := .slice (some ⟨b2, o2, none⟩) xs.length cb) rfl (Or.inl ⟨by rfl, fun W hW => ?_⟩) hHeld ?_
   ·clear hW
    go_simp
   try simp only [Act.put, a0, a1, a2, a3, a4, a5]
   refine wpT (i := 5) (v := .int .i64 (k : Int)) rfl (Or.inl ⟨by rfl, fun W hW => ?_⟩) hHeld ?_
   ·clear hW
    go_simp
   try simp only [Act.put, a0, a1, a2, a3, a4, a5]
   refine wpT (i := 6) (v := .pointer (some ⟨b2, o2 + k * 24, none⟩)) rfl (Or.inl ⟨by rfl, fun W hW => ?_⟩) hHeld ?_
   ·clear hW
    go_simp
   try simp only [Act.put, a0, a1, a2, a3, a4, a5]
   refine wpT (i := 7) (v := .agg cs.toArray) rfl (yieldsIf_load_mid (by rfl) _ _ rfl _ _ rfl cs _ (fun W hW => HB.out W hW) Tryz.underlying43 rfl HS.out) hHeld ?_
   try simp only [Act.put, a0, a1, a2, a3, a4, a5]
   refine wpT (i := 8) (v := .bool false) rfl (Or.inl ⟨by rfl, fun W hW => ?_⟩) hHeld ?_
   ·clear hW
    go_simp
   try simp only [Act.put, a0, a1, a2, a3, a4, a5]
   refine wpAnyH_done (by kernel_rfl) ?_ _
   clear HA HB HS HEQ
   go_wp2
   go_roundw
   case rel => exact ⟨k + 1, by omega, by go_num, hHeld⟩
   case measure => simp [intOf]; omega
  ·go_wp2
   go_ret
   exact ⟨rfl, n, rfl⟩
theorem av0 (a : Option Addr) (ca : Nat) (xs : List Ng) (w : World) (ha : CV w a (q9 xs)) (hc0 : a = none → ca = 0) (hm : xs.length * 72 ≤ 140737488355328) :
  Calls Tryz.prog 15 #[.slice a xs.length ca] w fun e w' => ∃ v, e = .returned v ∧ a4o w' w.heap.size v xs ∧ w.grownBy w' none := by
 obtain ⟨i0, hi, hz0, hz1, hz2⟩ := info_parts a94
 have H : Hid (CV w a (q9 xs)) := ha
 clear ha
 go_enter Tryz.func15, Tryz.ntmps15
 go_wp2_with (at_builtin; refine a18 rfl (.tmp 3) (.tmp 4) 22 rfl 43 i0 _ 24 72 Tryz.underlying22 hi hz0 hz1 hz2 rfl (by decide) w.heap.size _ 0 [] rfl ?q1 a xs.length ca (q9 xs) rfl (a6j xs) hc0 ?q2 (at6 xs) ?q3 ?q4 ?q5 ?q6)
 case q1 => exact World.ownsRow_made w #[] 0 (Nat.le_refl _) (Nat.zero_le _) rfl
 case q2 => exact H.out.keptNone (World.grownBy_alloc _ _ _)
 case q3 => unfold maxLen; omega
 case q4 => omega
 case q5 => simp
 case q6 =>
  intro v' w' h1 h2
  have G : w.grownBy w' none := Z3 (World.grownBy_alloc w _ _) h2 (by intro x hx; simp [Value.ownBlock] at hx; omega)
  have O : a4o w' w.heap.size v' xs := by simpa using h1
  clear h2 h1
  go_wp2
  go_ret
  exact ⟨v', rfl, O, G⟩
def Nd.g (x : Nd) : Ng := ⟨x.kind, x.op, x.n, x.m, x.size, x.of, x.side, x.addr, x.bits⟩
theorem Nd.g_cells (x : Nd) : x.g.cells = x.cells := rfl
theorem at5 (xs : List Nd) : q9 (xs.map Nd.g) = a0K xs := by
 induction xs with
 | nil => rfl
 | cons x xs ih => rw [List.map_cons, a6i, ih, a8G, Nd.g_cells]

end Go.Proofs.YtklipelnjgpnjaaGreatDoor
