import Derived.Test.YtklipelnjgpnjaaGreatDoorLotF6
import Derived.Test.YtklipelnjgpnjaaGreatDoorLotF2
import Derived.Test.YtklipelnjgpnjaaGreatDoorLotF3
import Derived.ChangeKeysEq
import Derived.Test.YtklipelnjgpnjaaGreatDoorLotF1
import Derived.Laws.StructEq
import Derived.Deep.MidRow
import Derived.Test.YtklipelnjgpnjaaGreatDoorLotF5
namespace Go.Proofs.YtklipelnjgpnjaaGreatDoor
open Go.RowKit Go.Shelf
set_option maxRecDepth 100000
theorem inter_nil (xs : List (List UInt8)) : ([] : List UInt8).intercalate xs = xs.flatten := by
 unfold List.intercalate
 induction xs with
 | nil => rfl
 | cons x r ih =>
  cases r with
  | nil => simp
  | cons y r => simp at ih ⊢; exact ih
theorem setCells_size (g : Nat) : ∀ (vs : List Value) (o : Nat) (w : World), (w.setCells g o vs).heap.size = w.heap.size
 | [], _, _ => rfl
 | v :: r, o, w => by rw [World.setCells, setCells_size g r]; simp [World.setCell]
theorem below_setCells {B g : Nat} (hg : B ≤ g) : ∀ (vs : List Value) (o : Nat) (w : World), Below B w (w.setCells g o vs)
 | [], _, w => Below.refl B w
 | v :: r, o, w => ((Below.refl B w).setCell (p := ⟨g, o, none⟩) hg v).trans (below_setCells hg r (o + 1) _)
set_option maxRecDepth 100000 in
set_option maxHeartbeats 4000000 in
theorem text_any13 (M B7 b : Nat) (ts : List (List UInt8)) (v : Value) (ne dp : Int) (w : World) (hgb : v.ownBlock ≠ some b) (hM : M ≤ B7) (hO : WtV w B7 b v ts ne dp) (h0 : ts ≠ []) (hts : ts.length ≤ 1000000) (hl : ts.reverse.flatten.length ≤ 100000000) :
  Calls Tryz.prog 46 #[.pointer (some ⟨b, 0, none⟩)] w fun e w' => e = .returned (.string ⟨ts.reverse.flatten.toArray⟩) ∧ Below M w w' := by
 have hc := hO.cell.1
 obtain ⟨g, cap, hv, hnc, hcm, hbg, hgl⟩ : ∃ g cap, v = .slice (some ⟨g, 0, none⟩) ts.length cap ∧ ts.length ≤ cap ∧ cap ≤ maxLen ∧ B7 ≤ g ∧ g < w.heap.size := owns_head hO.2 (List.length_pos_iff.2 h0)
 subst hv
 have hgb' : b ≠ g := fun e => hgb (by rw [e]; rfl)
 have hg : ∀ i, i < ts.length → w.cell? ⟨g, 0 + i, none⟩ = some (.string ((fun i => (⟨(ts.getD i []).toArray⟩ : ByteArray)) i)) := fun i h => by
  have := World.ownsRow.cellAt hO.2 i (by omega)
  rw [Nat.zero_add, this]
  simp [List.getD, h, str]
 have hf : ∀ j, j < ts.length → w.frozen? ⟨g, 0 + j, none⟩ = false := fun j _ => World.ownsRow.frozenAt hO.2 (0 + j)
 have hvs : ∀ n, n = ts.length → (Lib.strsOf (fun i => (⟨(ts.getD i []).toArray⟩ : ByteArray)) n).reverse.map encStr = ts.reverse.map str := fun n hn => by
  have e : Lib.strsOf (fun i => (⟨(ts.getD i []).toArray⟩ : ByteArray)) n = ts := by
   unfold Lib.strsOf
   apply List.ext_getElem
   ·simp [hn]
   ·intro i h1 h2
    simp [List.getD, h2]
  rw [e]
 have hR := (Tryz.slices_Reverse_string_cells g 0 ts.length cap _ w (by unfold maxLen at hcm; omega) hg hf).mono (R' := fun e w' => e = .returned (.tuple #[]) ∧ w'.cell? ⟨b, 0, none⟩ = some (.slice (some ⟨g, 0, none⟩) ts.length cap) ∧ Below M w w' ∧ g < w'.heap.size ∧ ∀ j x, ts.reverse[j]? = some x → w'.cell? ⟨g, 0 + j, none⟩ = some (str x)) (by
  rintro e w' ⟨rfl, q, rfl⟩
  rw [hvs _ rfl]
  refine ⟨rfl, ?_, (show Below M w (w.drewN q) from ⟨rfl, rfl, rfl, Nat.le_refl _, fun _ _ => rfl⟩).trans (below_setCells (by omega) _ _ _), ?_, fun j x hj => ?_⟩
  ·rw [World.cell?_setCells_out g _ 0 _ _ (fun e => by simp at e; exact absurd e hgb')]
   exact hc
  ·rw [setCells_size]
   exact hgl
  ·obtain ⟨hj1, rfl⟩ := List.getElem?_eq_some_iff.1 hj
   rw [World.cell?_setCells_in g (ts.reverse.map str) 0 (w.drewN q) (fun i hi => ?_) j (by simpa using hj1)]
   ·simp
   ·have := hg i (by simpa using hi)
    rw [show (w.drewN q).cell? ⟨g, 0 + i, none⟩ = w.cell? ⟨g, 0 + i, none⟩ from rfl, this]
    rfl)
 have hJ : ∀ W : World, g < W.heap.size → (∀ j x, ts.reverse[j]? = some x → W.cell? ⟨g, 0 + j, none⟩ = some (str x)) → Calls Tryz.prog 105 #[.slice (some ⟨g, 0, none⟩) ts.length cap, .string ⟨#[]⟩] W fun e w' => e = .returned (.string ⟨ts.reverse.flatten.toArray⟩) ∧ Below M W w' := fun W hgW hcs => by
  have ej : Lib.join ((ts.reverse.map (fun x => (⟨x.toArray⟩ : ByteArray))).map (·.data.toList)) (⟨#[]⟩ : ByteArray).data.toList = ts.reverse.flatten := by
   unfold Lib.join
   rw [show (⟨#[]⟩ : ByteArray).data.toList = [] from rfl, inter_nil, List.map_map]
   simp [Function.comp_def]
  have h := Tryz.strings_Join g 0 cap (ts.reverse.map (fun x => (⟨x.toArray⟩ : ByteArray))) ⟨#[]⟩ W (fun j x hx => by
   rw [List.getElem?_map] at hx
   cases hr : ts.reverse[j]? with
   | none => rw [hr] at hx; cases hx
   | some y =>
    rw [hr] at hx
    cases hx
    exact hcs j y hr) hgW (by simp; omega) (by simpa using hnc) (by rw [ej]; omega)
  rw [ej, show (ts.reverse.map (fun x => (⟨x.toArray⟩ : ByteArray))).length = ts.length by simp] at h
  exact h.mono (fun e w' hh => ⟨hh.1, hh.2.mono (by omega)⟩)
 clear hg hf hvs
 go_enter Tryz.func46, Tryz.ntmps46
 go_wp2_with (first | (refine hR.mono ?_; rintro e w1 ⟨rfl, k1, kb, k2, k3⟩) | (refine (hJ _ k2 k3).mono ?_; rintro e w2 ⟨rfl, kc⟩))
 go_ret
 exact ⟨rfl, kb.trans kc⟩
structure WPos (M B7 p2 p3 p5 p6 p7 p8 : Nat) : Prop where
 m5 : M ≤ p5
 m6 : M ≤ p6
 l2 : p2 < B7 ∧ p2 ≠ p5 ∧ p2 ≠ p6
 l3 : p3 < B7 ∧ p3 ≠ p5 ∧ p3 ≠ p6
 l5 : p5 < B7 ∧ p5 ≠ p6
 l6 : p6 < B7
 l7 : p7 < B7 ∧ p7 ≠ p5 ∧ p7 ≠ p6
 l8 : p8 < B7 ∧ p8 ≠ p5 ∧ p8 ≠ p6
structure WEnv (w : World) (M B7 p2 p3 p5 p6 p7 p8 : Nat) (sl : Value) (bf : Nat) (W : World) (v : Value) (ts : List (List UInt8)) (ne dp : Int) (left : Nat) : Prop where
 up : Below M w W
 sz : B7 ≤ W.heap.size
 c2 : W.cell? ⟨p2, 0, none⟩ = some sl
 c3 : W.cell? ⟨p3, 0, none⟩ = some (.func (.func bf) #[] #[])
 c7 : W.cell? ⟨p7, 0, none⟩ = some (.func (.func 97) #[] #[.pointer (some ⟨p2, 0, none⟩), .pointer (some ⟨p6, 0, none⟩), .pointer (some ⟨p8, 0, none⟩), .pointer (some ⟨p3, 0, none⟩), .pointer (some ⟨p7, 0, none⟩), .pointer (some ⟨p5, 0, none⟩)])
 c8 : W.cell? ⟨p8, 0, none⟩ = some (.func (.func 94) #[] #[.pointer (some ⟨p5, 0, none⟩), .pointer (some ⟨p7, 0, none⟩)])
 lf : VAt W p6 3 #[.int .i64 (left : Int)]
 out : WtV W B7 p5 v ts ne dp
 nd : 0 ≤ ne ∧ ne ≤ dp
def WS (p5 p6 : Nat) (v : Value) (k : Nat) : Prop := k ≠ p5 ∧ k ≠ p6 ∧ v.ownBlock ≠ some k

section
variable {w : World} {M B7 p2 p3 p5 p6 p7 p8 : Nat} {sl : Value} {bf : Nat} {W W' : World} {v v' : Value} {ts ts' : List (List UInt8)} {ne dp ne' dp' : Int} {left left' : Nat}
theorem WEnv.own (E : WEnv w M B7 p2 p3 p5 p6 p7 p8 sl bf W v ts ne dp left) {k : Nat} (h : k < B7) : v.ownBlock ≠ some k := fun e => by have := (E.out.2.lt k e).1; omega
theorem WEnv.next (P : WPos M B7 p2 p3 p5 p6 p7 p8) (E : WEnv w M B7 p2 p3 p5 p6 p7 p8 sl bf W v ts ne dp left) (K : Kp M (WS p5 p6 v) W W') (lf : VAt W' p6 3 #[.int .i64 (left' : Int)]) (out : WtV W' B7 p5 v' ts' ne' dp') (nd : 0 ≤ ne' ∧ ne' ≤ dp') :
  WEnv w M B7 p2 p3 p5 p6 p7 p8 sl bf W' v' ts' ne' dp' left' where
 up := E.up.trans K.1
 sz := Nat.le_trans E.sz K.1.size
 c2 := K.cell (.inr ⟨P.l2.2.1, P.l2.2.2, E.own P.l2.1⟩) E.c2
 c3 := K.cell (.inr ⟨P.l3.2.1, P.l3.2.2, E.own P.l3.1⟩) E.c3
 c7 := K.cell (.inr ⟨P.l7.2.1, P.l7.2.2, E.own P.l7.1⟩) E.c7
 c8 := K.cell (.inr ⟨P.l8.2.1, P.l8.2.2, E.own P.l8.1⟩) E.c8
 lf := lf
 out := out
 nd := nd
theorem WEnv.kept (P : WPos M B7 p2 p3 p5 p6 p7 p8) (hM : M ≤ B7) (E : WEnv w M B7 p2 p3 p5 p6 p7 p8 sl bf W v ts ne dp left) (G : W.grownBy W' none) : WEnv w M B7 p2 p3 p5 p6 p7 p8 sl bf W' v ts ne dp left :=
 E.next P (Kp.none G (by have := E.sz; omega)) (E.lf.kept G) (E.out.kept G) E.nd
theorem WEnv.wrote (P : WPos M B7 p2 p3 p5 p6 p7 p8) (E : WEnv w M B7 p2 p3 p5 p6 p7 p8 sl bf W v ts ne dp left) (K : Kp M (fun k => k ≠ p5 ∧ v.ownBlock ≠ some k) W W') (out : WtV W' B7 p5 v' ts' ne' dp') (nd : 0 ≤ ne' ∧ ne' ≤ dp') :
  WEnv w M B7 p2 p3 p5 p6 p7 p8 sl bf W' v' ts' ne' dp' left :=
 E.next P (K.weak (fun _ h => ⟨h.1, h.2.2⟩)) (K.2 p6 _ ⟨fun e => P.l5.2 e.symm, E.own P.l6⟩ E.lf rfl) out nd
end
def WP (w : World) (M B7 p2 p3 p5 p6 p7 p8 : Nat) (sl : Value) (bf : Nat) (W : World) (v : Value) (ts : List (List UInt8)) (ne dp : Int) (left : Nat) (r : List UInt8) (d n k : Nat) (e : Ending) (W' : World) : Prop :=
 e = .returned (.tuple #[]) ∧ ∃ v' R, WEnv w M B7 p2 p3 p5 p6 p7 p8 sl bf W' v' (ts ++ R) ne (max dp (ne + (d : Int))) (left - n) ∧ OwnGo W.heap.size v.ownBlock v' ∧ Kp M (WS p5 p6 v) W W' ∧ R.reverse.flatten = r ∧ R.length ≤ k
theorem kp_then {M p5 p6 : Nat} {v v1 : Value} {A B C : World} (h : Kp M (WS p5 p6 v) A B) (g : OwnGo A.heap.size v.ownBlock v1) (k : Kp M (WS p5 p6 v1) B C) : Kp M (WS p5 p6 v) A C :=
 ⟨h.1.trans k.1, fun i o hi ho hc => k.2 i o ⟨hi.1, hi.2.1, g.ne (Array.getElem?_eq_some_iff.1 ho).1 hi.2.2⟩ (h.2 i o hi ho hc) hc⟩
theorem kp_wr {M p5 p6 : Nat} {v : Value} {A B : World} (h : Kp M (fun k => k ≠ p5 ∧ v.ownBlock ≠ some k) A B) : Kp M (WS p5 p6 v) A B := h.weak (fun _ h => ⟨h.1, h.2.2⟩)
set_option maxRecDepth 100000 in
set_option maxHeartbeats 4000000 in
theorem nested_any13 {w : World} {M B7 p2 p3 p5 p6 p7 p8 : Nat} (P : WPos M B7 p2 p3 p5 p6 p7 p8) {sl : Value} {bf : Nat} {W : World} {v : Value} {ts : List (List UInt8)} {ne dp : Int} {left : Nat} (E : WEnv w M B7 p2 p3 p5 p6 p7 p8 sl bf W v ts ne dp left) (ahead behind : List UInt8) (least : Int) (r : List UInt8) (d n k : Nat) (hne : ne ≤ 900000) (hts : ts.length + k ≤ 900000)
  (H : ∀ W1 v1, WEnv w M B7 p2 p3 p5 p6 p7 p8 sl bf W1 v1 (ts ++ [behind]) (ne + 1) (max dp (ne + 1)) left → Calls Tryz.prog 97 #[.int .i64 least, .pointer (some ⟨p2, 0, none⟩), .pointer (some ⟨p6, 0, none⟩), .pointer (some ⟨p8, 0, none⟩), .pointer (some ⟨p3, 0, none⟩), .pointer (some ⟨p7, 0, none⟩), .pointer (some ⟨p5, 0, none⟩)] W1
   (WP w M B7 p2 p3 p5 p6 p7 p8 sl bf W1 v1 (ts ++ [behind]) (ne + 1) (max dp (ne + 1)) left r d n k)) :
  Calls Tryz.prog 94 #[str ahead, .int .i64 least, str behind, .pointer (some ⟨p5, 0, none⟩), .pointer (some ⟨p7, 0, none⟩)] W
   (WP w M B7 p2 p3 p5 p6 p7 p8 sl bf W v ts ne dp left (ahead ++ r ++ behind) (d + 1) n (k + 2)) := by
 have HE : Hid (WEnv w M B7 p2 p3 p5 p6 p7 p8 sl bf W v ts ne dp left) := E
 have hn0 := E.nd.1
 have hC := close_any13 M B7 p5 behind ts v ne dp W P.m5 P.l5.1 E.sz E.out (by omega) ⟨hn0, by omega⟩
 clear E
 go_enter Tryz.func94, Tryz.ntmps94
 go_wp2_with (first
  | (refine hC.mono ?_; rintro e W1 ⟨rfl, ⟨v1, hO1, g1⟩, K1⟩; have E1 := HE.out.wrote P K1 hO1 (by have := HE.out.nd; omega); have c7 := E1.c7; clear hC)
  | (refine (H _ _ E1).mono ?_; rintro e W2 ⟨rfl, v2, R, E2, g2, K2, hr, hk⟩; have HE2 : Hid (WEnv w M B7 p2 p3 p5 p6 p7 p8 sl bf W2 v2 (ts ++ [behind] ++ R) (ne + 1) (max (max dp (ne + 1)) (ne + 1 + (d : Int))) (left - n)) := E2; clear E2 H c7)
  | (refine (open_any13 M B7 p5 ahead _ _ _ _ W2 P.m5 P.l5.1 HE2.out.sz HE2.out.out (by simp; omega) ⟨by omega, by omega⟩).mono ?_; rintro e W3 ⟨rfl, ⟨v3, hO3, g3⟩, K3⟩))
 go_end0
 have s1 := K1.1.size
 have s2 := K2.1.size
 have K12 := kp_then (kp_wr (p6 := p6) K1) g1 K2
 have g12 := g1.trans g2 s1
 have E3 := HE2.out.wrote P K3 hO3 (by have := HE2.out.nd; omega)
 have e1 : ne + 1 - 1 = ne := by omega
 have e2 : max (max dp (ne + 1)) (ne + 1 + (d : Int)) = max dp (ne + ((d + 1 : Nat) : Int)) := by omega
 rw [e1, e2, show ts ++ [behind] ++ R ++ [ahead] = ts ++ ([behind] ++ R ++ [ahead]) by simp] at E3
 exact ⟨rfl, v3, [behind] ++ R ++ [ahead], E3, g12.trans g3 (by omega), kp_then K12 g12 (kp_wr K3), by simp [hr], by simp; omega⟩
def blankB (c : UInt8) : Bool := c == 32 || c == 9 || c == 10 || c == 13
def letB (c : UInt8) : Bool := decide (97 ≤ c.toNat) && decide (c.toNat ≤ 122)
def sixB (c : UInt8) : Bool := digOk c.toNat || c == 58
def quadB (c : UInt8) : Bool := isDig c || c == 46
def wordB (c : UInt8) : Bool := isDig c || letB c
def hexL : Nat → List UInt8 → Option Nat
 | v, [] => some v
 | v, c :: r => if digOk c.toNat = true then (if 4294967295 < 16 * v + digV c.toNat then none else hexL (16 * v + digV c.toNat) r) else none
def numV (s : List UInt8) : Option Nat := if 2 < s.length ∧ s.getD 0 0 = 48 ∧ s.getD 1 0 = 120 then hexL 0 (s.drop 2) else numberV 4294967295 s
def twosL : List (List UInt8) := [[60, 60], [62, 62], [60, 61], [62, 61], [61, 61], [33, 61], [38, 38], [124, 124]]
def onesL : List UInt8 := [40, 41, 91, 93, 58, 43, 45, 42, 47, 37, 38, 124, 94, 60, 62, 61, 33]
def signV (s : List UInt8) : List UInt8 := if s.take 2 ∈ twosL then s.take 2 else if s.head?.all (onesL.contains ·) = true then s.take 1 else []
def tokV (s : List UInt8) : Except Int (Nat × List UInt8 × Nat) :=
 if 2 ≤ (s.takeWhile sixB).count 58 then .ok (4, s.takeWhile sixB, 0)
 else if s.head?.any isDig = true then
  (if 46 ∈ s.takeWhile quadB then .ok (3, s.takeWhile quadB, 0)
  else match numV (s.takeWhile wordB) with
   | none => .error 102
   | some n => .ok (1, s.takeWhile wordB, n))
 else if s.head?.any letB = true then .ok (2, s.takeWhile wordB, 0)
 else if signV s = [] then .error 101 else .ok (5, signV s, 0)
structure Tk where
 kind : Nat
 pos : Nat
 text : List UInt8
 num : Nat
def lexF : Nat → Nat → List UInt8 → Except (Nat × Int) (List Tk)
 | 0, p, _ => .ok [⟨0, p, [], 0⟩]
 | _ + 1, p, [] => .ok [⟨0, p, [], 0⟩]
 | k + 1, p, c :: r =>
  if blankB c = true then lexF k (p + 1) r
  else match tokV (c :: r) with
   | .error e => .error (p, e)
   | .ok (q, t, n) => match lexF k (p + t.length) ((c :: r).drop t.length) with
    | .error e => .error e
    | .ok ts => .ok (⟨q, p, t, n⟩ :: ts)
def lexR (p : Nat) (s : List UInt8) : Except (Nat × Int) (List Tk) := lexF s.length p s
theorem takeWhile_len {α : Type} (p : α → Bool) : ∀ (l : List α), (l.takeWhile p).length ≤ l.length
 | [] => Nat.le_refl _
 | x :: r => by
  rw [List.takeWhile_cons]
  split
  ·simp only [List.length_cons]
   exact Nat.succ_le_succ (takeWhile_len p r)
  ·simp
theorem takeWhile_pre {α : Type} (p : α → Bool) (l : List α) : l.takeWhile p = l.take (l.takeWhile p).length := by
 induction l with
 | nil => rfl
 | cons x r ih =>
  rw [List.takeWhile_cons]
  split
  ·simp only [List.length_cons, List.take_succ_cons]
   rw [← ih]
  ·simp
theorem takeWhile_all {α : Type} (p : α → Bool) (l : List α) (h : ∀ x ∈ l, p x = true) : l.takeWhile p = l := by
 induction l with
 | nil => rfl
 | cons x r ih =>
  rw [List.takeWhile_cons_of_pos (h x (List.mem_cons_self ..)), ih (fun y hy => h y (List.mem_cons_of_mem _ hy))]
theorem takeWhile_head {α : Type} (p : α → Bool) (c : α) (r : List α) (h : p c = true) : ∃ t, (c :: r).takeWhile p = c :: t := ⟨_, List.takeWhile_cons_of_pos h⟩
structure Nd where
 kind : Nat
 op : Nat
 n : Nat
 m : Nat
 size : Nat
 of : Nat
 side : Nat
 addr : List UInt8
 bits : Nat
def nd0 : Nd := ⟨0, 0, 0, 0, 0, 0, 0, List.replicate 16 0, 0⟩
def ndK (k : Nat) : Nd := { nd0 with kind := k }
abbrev Er := Nat × Int
def hdT (ts : List Tk) : Tk := ts.headD ⟨0, 0, [], 0⟩
def wNot : List UInt8 := [110, 111, 116]
def wAnd : List UInt8 := [97, 110, 100]
def wOr : List UInt8 := [111, 114]
def wSrc : List UInt8 := [115, 114, 99]
def wDst : List UInt8 := [100, 115, 116]
def wHost : List UInt8 := [104, 111, 115, 116]
def wNet : List UInt8 := [110, 101, 116]
def wPort : List UInt8 := [112, 111, 114, 116]
def wPortrange : List UInt8 := [112, 111, 114, 116, 114, 97, 110, 103, 101]
def wProto : List UInt8 := [112, 114, 111, 116, 111]
def wLen : List UInt8 := [108, 101, 110]
def wInbound : List UInt8 := [105, 110, 98, 111, 117, 110, 100]
def wOutbound : List UInt8 := [111, 117, 116, 98, 111, 117, 110, 100]
def relV (x : List UInt8) : Option Nat :=
 if x = [61] ∨ x = [61, 61] then some 1 else if x = [33, 61] then some 2 else if x = [60] then some 3 else if x = [60, 61] then some 4 else if x = [62] then some 5 else if x = [62, 61] then some 6 else none
def binV (k : Nat) (x : List UInt8) : Option Nd :=
 if k = 1 then (if x = wOr ∨ x = [124, 124] then some (ndK 8) else none)
 else if k = 2 then (if x = wAnd ∨ x = [38, 38] then some (ndK 7) else none)
 else if k = 4 then (relV x).map fun o => { ndK 6 with op := o }
 else if k = 5 then (if x = [124] then some { ndK 4 with op := 7 } else none)
 else if k = 6 then (if x = [94] then some { ndK 4 with op := 8 } else none)
 else if k = 7 then (if x = [38] then some { ndK 4 with op := 6 } else none)
 else if k = 8 then (if x = [60, 60] then some { ndK 4 with op := 9 } else if x = [62, 62] then some { ndK 4 with op := 10 } else none)
 else if k = 9 then (if x = [43] then some { ndK 4 with op := 1 } else if x = [45] then some { ndK 4 with op := 2 } else none)
 else if k = 10 then (if x = [42] then some { ndK 4 with op := 3 } else if x = [47] then some { ndK 4 with op := 4 } else if x = [37] then some { ndK 4 with op := 5 } else none)
 else none
theorem items_bytes {P : Program} (d : Nat) (e : TypeId) (he : P.underlying e = some (.int .u8)) (hk : P.plainKey e = true) (xs ys : List UInt8) (w : World) (hl : xs.length = ys.length) :
  ∀ (m k : Nat), k + m = xs.length → (Op.eqItems (d + 1) e 1 (xs.map bv).toArray (ys.map bv).toArray (List.range' k m)).run P w = .ok (decide (xs.drop k = ys.drop k)) w
 | 0, k, h => by
  have e1 : xs.drop k = ys.drop k := by rw [List.drop_eq_nil_of_le (by omega), List.drop_eq_nil_of_le (by omega)]
  simp only [List.range'_zero, Op.eqItems, Sem.run_pure]
  rw [decide_eq_true e1]
 | m + 1, k, h => by
  have hx : k < xs.length := by omega
  have hy : k < ys.length := by omega
  have p1 := run_part_plain (P := P) w hk (xs := (xs.map bv).toArray) (off := k * 1) (v := bv xs[k]) (by simp [hx])
  have p2 := run_part_plain (P := P) w hk (xs := (ys.map bv).toArray) (off := k * 1) (v := bv ys[k]) (by simp [hy])
  have p3 : (Op.equalIn (d + 1) e (bv xs[k]) (bv ys[k])).run P w = .ok ((xs[k].toNat : Int) == (ys[k].toNat : Int)) w := run_equalIn_int w d e .u8 .u8 _ _ he
  have ih := items_bytes d e he hk xs ys w hl m (k + 1) (by omega)
  rw [List.range'_succ]
  simp only [Op.eqItems, Sem.run_bind, p1, p2, p3, Result.andThen_ok]
  rw [List.drop_eq_getElem_cons hx, List.drop_eq_getElem_cons hy]
  by_cases hq : xs[k] = ys[k]
  ·rw [hq, show ((ys[k].toNat : Int) == (ys[k].toNat : Int)) = true by simp]
   simp only [Bool.not_true, Bool.false_eq_true, if_false]
   rw [ih]
   simp only [List.cons.injEq, true_and]
  ·have : ((xs[k].toNat : Int) == (ys[k].toNat : Int)) = false := by
    rw [beq_eq_false_iff_ne]
    intro e
    exact hq (UInt8.toNat_inj.1 (by omega))
   rw [this]
   simp only [Bool.not_false, if_true, Sem.run_pure]
   rw [decide_eq_false (fun e => hq (List.cons.inj e).1)]
theorem eq_bytes {P : Program} {t e : TypeId} {n : Nat} {i : TypeInfo} (hu : P.underlying t = some (.array n e)) (hi : P.info? e = some i) (he : P.underlying e = some (.int .u8)) (hk : P.plainKey e = true) (hc : P.cellsOf e = 1) (xs ys : List UInt8) (hx : xs.length = n) (hy : ys.length = n) (w : World) :
  (Op.equalIn 10000 t (.agg (xs.map bv).toArray) (.agg (ys.map bv).toArray)).run P w = .ok (decide (xs = ys)) w := by
 rw [show (10000 : Nat) = 9999 + 1 from rfl, run_equalIn_array w 9999 _ _ hu hi, hc, List.range_eq_range', show (9999 : Nat) = 9998 + 1 from rfl, items_bytes 9998 e he hk xs ys w (by omega) n 0 (by omega)]
 rfl
def adr (x : Nd) (i : Nat) : Value := .int .u8 ((x.addr.getD i 0).toNat : Int)
def Nd.cells (x : Nd) : List Value := [.int .i64 (x.kind : Int), .int .i64 (x.op : Int), .int .u32 (x.n : Int), .int .u32 (x.m : Int), .int .i64 (x.size : Int), .int .i64 (x.of : Int), .int .i64 (x.side : Int),
 adr x 0, adr x 1, adr x 2, adr x 3, adr x 4, adr x 5, adr x 6, adr x 7, adr x 8, adr x 9, adr x 10, adr x 11, adr x 12, adr x 13, adr x 14, adr x 15, .int .i64 (x.bits : Int)]
theorem Nd.cells_len (x : Nd) : x.cells.length = 24 := rfl
theorem Nd.cells_one (x : Nd) : ∀ u ∈ x.cells, u.oneCell' = true := by
 intro u hu
 simp only [Nd.cells, adr, List.mem_cons, List.not_mem_nil, or_false] at hu
 rcases hu with rfl | rfl | rfl | rfl | rfl | rfl | rfl | rfl | rfl | rfl | rfl | rfl | rfl | rfl | rfl | rfl | rfl | rfl | rfl | rfl | rfl | rfl | rfl | rfl <;> rfl
theorem size43 : (Tryz.prog.info? 43).map (·.size) = some 24 := by kernel_rfl
theorem info43 : (Tryz.prog.info? 43).map (fun i => (i.zero, i.size, i.bytes)) = some (some (.agg nd0.cells.toArray), 24, 72) := by kernel_rfl
structure GB (w w' : World) (S : Nat → Prop) : Prop where
 os : w'.os = w.os
 tape : w'.tape = w.tape
 output : w'.output = w.output
 size : w.heap.size ≤ w'.heap.size
 block : ∀ i, i < w.heap.size → ¬ S i → w'.heap[i]? = w.heap[i]?
theorem GB.of {w w' : World} {row : Option Nat} {S : Nat → Prop} (h : w.grownBy w' row) (hs : ∀ x, row = some x → S x) : GB w w' S :=
 ⟨h.os, h.tape, h.output, h.size, fun i hi hn => h.block i hi (fun e => hn (hs i e.symm))⟩
theorem GB.refl (w : World) (S : Nat → Prop) : GB w w S := ⟨rfl, rfl, rfl, Nat.le_refl _, fun _ _ _ => rfl⟩
theorem GB.trans {w w1 w2 : World} {S S' : Nat → Prop} (h : GB w w1 S) (k : GB w1 w2 S') (hs : ∀ x, x < w.heap.size → S' x → S x) : GB w w2 S :=
 ⟨k.os.trans h.os, k.tape.trans h.tape, k.output.trans h.output, Nat.le_trans h.size k.size, fun i hi hn => (k.block i (Nat.lt_of_lt_of_le hi h.size) (fun e => hn (hs i hi e))).trans (h.block i hi hn)⟩
theorem GB.mono {w w' : World} {S S' : Nat → Prop} (h : GB w w' S) (hs : ∀ x, S x → S' x) : GB w w' S' := ⟨h.os, h.tape, h.output, h.size, fun i hi hn => h.block i hi (fun e => hn (hs i e))⟩
theorem GB.grown {w w' : World} {S : Nat → Prop} (h : GB w w' S) (hs : ∀ x, x < w.heap.size → ¬ S x) : w.grownBy w' none := ⟨h.os, h.tape, h.output, h.size, fun i hi _ => h.block i hi (hs i hi)⟩
theorem GB.one {w w' : World} {S : Nat → Prop} {g : Nat} (h : GB w w' S) (hs : ∀ x, x < w.heap.size → S x → x = g) : w.grownBy w' (some g) := ⟨h.os, h.tape, h.output, h.size, fun i hi hn => h.block i hi (fun e => hn (congrArg some (hs i hi e)))⟩
theorem GB.vat {w w' : World} {S : Nat → Prop} {g t : Nat} {cs : Array Value} (h : GB w w' S) (A : VAt w g t cs) (hg : ¬ S g) : VAt w' g t cs := by
 have := h.block g A.lt hg
 unfold VAt at *
 rw [this, A]
theorem GB.cell {w w' : World} {S : Nat → Prop} {ad : Addr} {v : Value} (h : GB w w' S) (hc : w.cell? ad = some v) (ha : ¬ S ad.block) (hlt : ad.block < w.heap.size) : w'.cell? ad = some v := by
 have := h.block ad.block hlt ha
 unfold World.cell? at *
 rw [this]
 exact hc
theorem GB.cells {w w' : World} {S : Nat → Prop} {ao : Option Addr} {xs : List UInt8} (h : GB w w' S) (hc : Cells w ao xs) (ha : ∀ ad, ao = some ad → xs ≠ [] → ¬ S ad.block) : Cells w' ao xs := by
 have hu := hc.under
 refine hc.same fun b off i hb hi => ?_
 have hne : xs ≠ [] := by
  intro e
  rw [e] at hi
  simp at hi
 have h1 := ha _ hb hne
 have h2 := hu _ hb hne
 have := h.block b h2 h1
 unfold World.cell?
 simp only [this]

end Go.Proofs.YtklipelnjgpnjaaGreatDoor
