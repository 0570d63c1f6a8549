import Derived.Test.YtklipelnjgpnjaaGreatDoorNAb
import Derived.Test.YtklipelnjgpnjaaGreatDoorLotN17
import Derived.Test.YtklipelnjgpnjaaGreatDoorLotN16
import Derived.Test.YtklipelnjgpnjaaGreatDoorLotN10
import Derived.Lib.AppendIntMem
import Derived.Test.YtklipelnjgpnjaaGreatDoorLotN5
import Derived.Test.YtklipelnjgpnjaaGreatDoorLotN2
import Derived.Test.YtklipelnjgpnjaaGreatDoorLotN1
set_option maxHeartbeats 64000000
set_option maxRecDepth 100000
namespace Go.Proofs.YtklipelnjgpnjaaGreatDoor
open Go.RowKit Go.Shelf
theorem WtV.setN {W : World} {B7 b : Nat} {v : Value} {ts : List (List UInt8)} {ne dp : Int} (h : WtV W B7 b v ts ne dp) (hb : b < B7) (i : Int) : WtV (W.setCell ⟨b, 1, none⟩ (.int .i64 i)) B7 b v ts i dp :=
 ⟨VAt.set h.1 1 _, World.ownsRow.kept h.2 (row := some b) ⟨rfl, rfl, rfl, by simp [World.setCell], fun k _ hk => Below.heap_setCell _ _ _ _ (fun e => hk (by rw [e]))⟩ (.inr (fun e => by have := (h.2.lt b e).1; omega))⟩
theorem WtV.setD {W : World} {B7 b : Nat} {v : Value} {ts : List (List UInt8)} {ne dp : Int} (h : WtV W B7 b v ts ne dp) (hb : b < B7) (i : Int) : WtV (W.setCell ⟨b, 2, none⟩ (.int .i64 i)) B7 b v ts ne i :=
 ⟨VAt.set h.1 2 _, World.ownsRow.kept h.2 (row := some b) ⟨rfl, rfl, rfl, by simp [World.setCell], fun k _ hk => Below.heap_setCell _ _ _ _ (fun e => hk (by rw [e]))⟩ (.inr (fun e => by have := (h.2.lt b e).1; omega))⟩
theorem a5V {B b i : Nat} {o : Option Nat} (W : World) (u : Value) (hB : B ≤ b) : Kp B (fun k => k ≠ b ∧ o ≠ some k) W (W.setCell ⟨b, i, none⟩ u) :=
 ⟨(Below.refl B W).setCell (p := ⟨b, i, none⟩) hB u, fun _ _ hk ho _ => (Below.heap_setCell _ _ _ _ hk.1).trans ho⟩
theorem a8D {B : Nat} {S : Nat → Prop} (W : World) (o : Obj) (hB : B ≤ W.heap.size) : Kp B S W (W.alloc o) := Kp.none (World.grownBy_alloc W o _) hB
theorem a8E {B : Nat} {S : Nat → Prop} (W : World) : Kp B S W W.drew := ⟨(Below.refl B W).drew, fun _ _ _ h _ => h⟩
theorem WtV.drew {W : World} {B7 b : Nat} {v : Value} {ts : List (List UInt8)} {ne dp : Int} (h : WtV W B7 b v ts ne dp) : WtV W.drew B7 b v ts ne dp := ⟨h.1, World.ownsRow.kept h.2 (row := none) ⟨rfl, rfl, rfl, Nat.le_refl _, fun _ _ _ => rfl⟩ (by cases hv : v.ownBlock <;> simp)⟩
theorem a5q (w : World) (x : List UInt8) (t : Nat) : CV (w.alloc (.cells #[str x] t)) (some ⟨w.heap.size, 0, none⟩) ([x].map str) := ⟨fun h => (by cases h), fun ad had j hj => by
 obtain rfl := Option.some.inj had
 exact cell_one_new w (str x) t j _ (by simp at hj; subst hj; rfl)⟩
theorem aH2 (B B7 b : Nat) (x : List UInt8) (ts : List (List UInt8)) (v : Value) (ne dp : Int) (w : World) (hB : B ≤ b) (hb7 : b < B7) (h7 : B7 ≤ w.heap.size) (hO : WtV w B7 b v ts ne dp) (hts : ts.length ≤ 1000000) (hne : 0 ≤ ne ∧ ne ≤ 1000000) :
  Calls Tryz.prog 96 #[.pointer (some ⟨b, 0, none⟩), str x] w fun e w' => e = .returned (.tuple #[]) ∧ (∃ v', WtV w' B7 b v' (ts ++ [x]) (ne - 1) dp ∧ M4 w.heap.size v.ownBlock v') ∧ Kp B (fun k => k ≠ b ∧ v.ownBlock ≠ some k) w w' := by
 have hsep : v.ownBlock ≠ some w.heap.size := fun e => by have := (hO.2.lt _ e).2; omega
 have hw1 : IntKind.i64.wrap (ne - 1) = ne - 1 := by rw [IntKind.wrap_i64]; omega
 have hP := a4F B B7 b w.heap.size 1 [x] ts v ne dp (w.alloc (.cells #[str x] 9)) hB hb7 (by simp; omega) h7 (by simp) (hO.kept (World.grownBy_alloc _ _ _)) hsep (a5q w x _) (by simp) hts
 go_enter Tryz.func96, Tryz.ntmps96
 go_wp2_with (refine hP.mono ?_; rintro e w1 ⟨rfl, ⟨v1, hW1, hgo⟩, K1⟩; have c1 := hW1.cell.2.1; have f1 := VAt.free hW1.1 1)
 have hgo' := hgo.mono (N' := w.heap.size) (by simp)
 have K1' := Kp.trans (a8D w (.cells #[str x] 9) (show B ≤ w.heap.size by omega)) K1
 clear hP K1
 go_end0
 exact ⟨rfl, ⟨v1, by simpa using hW1.setN hb7 _, hgo'⟩, K1'.trans (a5V _ _ hB)⟩
theorem am6 (B B7 b : Nat) (x : List UInt8) (ts : List (List UInt8)) (v : Value) (ne dp : Int) (w : World) (hB : B ≤ b) (hb7 : b < B7) (h7 : B7 ≤ w.heap.size) (hO : WtV w B7 b v ts ne dp) (hts : ts.length ≤ 1000000) (hne : 0 ≤ ne ∧ ne ≤ 1000000) :
  Calls Tryz.prog 95 #[.pointer (some ⟨b, 0, none⟩), str x] w fun e w' => e = .returned (.tuple #[]) ∧ (∃ v', WtV w' B7 b v' (ts ++ [x]) (ne + 1) (max dp (ne + 1)) ∧ M4 w.heap.size v.ownBlock v') ∧ Kp B (fun k => k ≠ b ∧ v.ownBlock ≠ some k) w w' := by
 have hsep : v.ownBlock ≠ some w.heap.size := fun e => by have := (hO.2.lt _ e).2; omega
 have hw1 : IntKind.i64.wrap (ne + 1) = ne + 1 := by rw [IntKind.wrap_i64]; omega
 have hP := a4F B B7 b w.heap.size 1 [x] ts v ne dp (w.alloc (.cells #[str x] 9)) hB hb7 (by simp; omega) h7 (by simp) (hO.kept (World.grownBy_alloc _ _ _)) hsep (a5q w x _) (by simp) hts
 go_enter Tryz.func95, Tryz.ntmps95
 go_wp2_with (refine hP.mono ?_; rintro e w1 ⟨rfl, ⟨v1, hW1, hgo⟩, K1⟩; have c1 := hW1.cell.2.1; have f1 := VAt.free hW1.1 1)
 have hgo' := hgo.mono (N' := w.heap.size) (by simp)
 have K1' := Kp.trans (a8D w (.cells #[str x] 9) (show B ≤ w.heap.size by omega)) K1
 clear hP K1
 have W2 := hW1.setN hb7 (ne + 1)
 have K2 := K1'.trans (a5V (i := 1) w1 (.int .i64 (ne + 1)) hB)
 generalize w1.setCell ⟨b, 1, none⟩ (.int .i64 (ne + 1)) = w2 at *
 have W3 := W2.drew
 have d1 := W2.cell.2.1
 have d2 := W3.cell.2.2
 clear c1 f1 hW1
 refine wp_region_held_drew (S := fun W => W.cell? ⟨b, 1, none⟩ = some (.int .i64 (ne + 1))) (by kernel_rfl) (show w2.drew.cell? _ = _ from d1) (fun hHeld => ?_)
 refine wpT (i := 0) (v := .pointer (some ⟨b, 0, none⟩)) rfl (Or.inl ⟨by rfl, fun W hW => ?_⟩) hHeld ?_
 ·clear hW
  go_simp
 try simp only [Act.put, a0, a1, a3, a4, a5]
 refine wpT (i := 1) (v := .pointer (some ⟨b, 0, none⟩)) rfl (Or.inl ⟨by rfl, fun W hW => ?_⟩) hHeld ?_
 ·clear hW
  go_simp
 try simp only [Act.put, a0, a1, a2, a3, a4, a5]
 refine wpT (i := 2) (v := .pointer (some ⟨b, 0, none⟩)) rfl (Or.inl ⟨by rfl, fun W hW => ?_⟩) hHeld ?_
 ·clear hW
  go_simp
 try simp only [Act.put, a0, a1, a2, a3, a4, a5]
 refine wpT (i := 3) (v := .pointer (some ⟨b, 2, none⟩)) rfl (Or.inl ⟨by rfl, fun W hW => ?_⟩) hHeld ?_
 ·clear hW
  go_simp
 try simp only [Act.put, a0, a1, a2, a3, a4, a5]
 refine wpT (i := 5) (v := .pointer (some ⟨b, 0, none⟩)) rfl (Or.inl ⟨by rfl, fun W hW => ?_⟩) hHeld ?_
 ·clear hW
  go_simp
 try simp only [Act.put, a0, a1, a2, a3, a4, a5]
 refine wpT (i := 6) (v := .pointer (some ⟨b, 0, none⟩)) rfl (Or.inl ⟨by rfl, fun W hW => ?_⟩) hHeld ?_
 ·clear hW
  go_simp
 try simp only [Act.put, a0, a1, a2, a3, a4, a5]
 refine wpT (i := 7) (v := .pointer (some ⟨b, 1, none⟩)) rfl (Or.inl ⟨by rfl, fun W hW => ?_⟩) hHeld ?_
 ·clear hW
  go_simp
 try simp only [Act.put, a0, a1, a2, a3, a4, a5]
 refine wpT (i := 8) (v := .int .i64 (ne + 1)) rfl (Or.inl ⟨by rfl, fun W hW => ?_⟩) hHeld ?_
 ·go_simp
 try simp only [Act.put, a0, a1, a2, a3, a4, a5]
 refine wpR (rs := [4]) (AllReadyH.cons rfl (fun K hK => ?_) AllReadyH.nil)
 go_simp
 go_wp2_with fail
 refine hK.out _ _ hHeld (fun hHeld => ?_)
 clear hK K
 try simp only [Act.put, a0, a1, a2, a3, a4, a5]
 refine wpT (i := 9) (v := .int .i64 (max dp (ne + 1))) rfl (Or.inl ⟨by rfl, fun W hW => ?_⟩) hHeld ?_
 ·clear hW
  go_simp
 try simp only [Act.put, a0, a1, a2, a3, a4, a5]
 refine wpT (i := 10) (v := .pointer (some ⟨b, 0, none⟩)) rfl (Or.inl ⟨by rfl, fun W hW => ?_⟩) hHeld ?_
 ·clear hW
  go_simp
 try simp only [Act.put, a0, a1, a2, a3, a4, a5]
 refine wpT (i := 11) (v := .pointer (some ⟨b, 2, none⟩)) rfl (Or.inl ⟨by rfl, fun W hW => ?_⟩) hHeld ?_
 ·clear hW
  go_simp
 try simp only [Act.put, a0, a1, a2, a3, a4, a5]
 have e2 := VAt.free W3.1 2
 refine wpR (rs := [12]) (AllReadyH.cons rfl (fun K hK => ?_) AllReadyH.nil)
 go_simp
 go_wp2_with fail
 refine hK.out _ _ (W3.setD hb7 _).cell.2.1 (fun hHeld => ?_)
 clear hK K
 try simp only [Act.put, a0, a1, a2, a3, a4, a5]
 refine wpAnyH_done (by kernel_rfl) ?_ _
 go_wp2
 go_end0
 exact ⟨rfl, ⟨v1, W3.setD hb7 _, hgo'⟩, (K2.trans (a8E _)).trans (a5V _ _ hB)⟩

open Go.RowKit Go.Shelf
theorem av5 (xs : List (List UInt8)) : ([] : List UInt8).intercalate xs = xs.flatten := by
 unfold List.intercalate
 induction xs with
 | nil => rfl
 | cons x r ih =>
  cases r with
  | nil => simp
  | cons y r => simp at ih ⊢; exact ih
theorem a9P (g : Nat) : ∀ (vs : List Value) (o : Nat) (w : World), (w.setCells g o vs).heap.size = w.heap.size
 | [], _, _ => rfl
 | v :: r, o, w => by rw [World.setCells, a9P g r]; simp [World.setCell]
theorem a7z {B g : Nat} (hg : B ≤ g) : ∀ (vs : List Value) (o : Nat) (w : World), Below B w (w.setCells g o vs)
 | [], _, w => Below.refl B w
 | v :: r, o, w => ((Below.refl B w).setCell (p := ⟨g, o, none⟩) hg v).trans (a7z hg r (o + 1) _)
theorem aX2 (M B7 b : Nat) (ts : List (List UInt8)) (v : Value) (ne dp : Int) (w : World) (hgb : v.ownBlock ≠ some b) (hM : M ≤ B7) (hO : WtV w B7 b v ts ne dp) (h0 : ts ≠ []) (hts : ts.length ≤ 1000000) (hl : ts.reverse.flatten.length ≤ 100000000) :
  Calls Tryz.prog 46 #[.pointer (some ⟨b, 0, none⟩)] w fun e w' => e = .returned (.string ⟨ts.reverse.flatten.toArray⟩) ∧ Below M w w' := by
 have hc := hO.cell.1
 obtain ⟨g, cap, hv, hnc, hcm, hbg, hgl⟩ : ∃ g cap, v = .slice (some ⟨g, 0, none⟩) ts.length cap ∧ ts.length ≤ cap ∧ cap ≤ maxLen ∧ B7 ≤ g ∧ g < w.heap.size := a9g hO.2 (List.length_pos_iff.2 h0)
 subst hv
 have hgb' : b ≠ g := fun e => hgb (by rw [e]; rfl)
 have hg : ∀ i, i < ts.length → w.cell? ⟨g, 0 + i, none⟩ = some (.string ((fun i => (⟨(ts.getD i []).toArray⟩ : ByteArray)) i)) := fun i h => by
  have := World.ownsRow.cellAt hO.2 i (by omega)
  rw [Nat.zero_add, this]
  simp [List.getD, h, str]
 have hf : ∀ j, j < ts.length → w.frozen? ⟨g, 0 + j, none⟩ = false := fun j _ => World.ownsRow.frozenAt hO.2 (0 + j)
 have hvs : ∀ n, n = ts.length → (Lib.strsOf (fun i => (⟨(ts.getD i []).toArray⟩ : ByteArray)) n).reverse.map encStr = ts.reverse.map str := fun n hn => by
  have e : Lib.strsOf (fun i => (⟨(ts.getD i []).toArray⟩ : ByteArray)) n = ts := by
   unfold Lib.strsOf
   apply List.ext_getElem
   ·simp [hn]
   ·intro i h1 h2
    simp [List.getD, h2]
  rw [e]
 have hR := (Tryz.slices_Reverse_string_cells g 0 ts.length cap _ w (by unfold maxLen at hcm; omega) hg hf).mono (R' := fun e w' => e = .returned (.tuple #[]) ∧ w'.cell? ⟨b, 0, none⟩ = some (.slice (some ⟨g, 0, none⟩) ts.length cap) ∧ Below M w w' ∧ g < w'.heap.size ∧ ∀ j x, ts.reverse[j]? = some x → w'.cell? ⟨g, 0 + j, none⟩ = some (str x)) (by
  rintro e w' ⟨rfl, q, rfl⟩
  rw [hvs _ rfl]
  refine ⟨rfl, ?_, (show Below M w (w.drewN q) from ⟨rfl, rfl, rfl, Nat.le_refl _, fun _ _ => rfl⟩).trans (a7z (by omega) _ _ _), ?_, fun j x hj => ?_⟩
  ·rw [World.cell?_setCells_out g _ 0 _ _ (fun e => by simp at e; exact absurd e hgb')]
   exact hc
  ·rw [a9P]
   exact hgl
  ·obtain ⟨hj1, rfl⟩ := List.getElem?_eq_some_iff.1 hj
   rw [World.cell?_setCells_in g (ts.reverse.map str) 0 (w.drewN q) (fun i hi => ?_) j (by simpa using hj1)]
   ·simp
   ·have := hg i (by simpa using hi)
    rw [show (w.drewN q).cell? ⟨g, 0 + i, none⟩ = w.cell? ⟨g, 0 + i, none⟩ from rfl, this]
    rfl)
 have hJ : ∀ W : World, g < W.heap.size → (∀ j x, ts.reverse[j]? = some x → W.cell? ⟨g, 0 + j, none⟩ = some (str x)) → Calls Tryz.prog 105 #[.slice (some ⟨g, 0, none⟩) ts.length cap, .string ⟨#[]⟩] W fun e w' => e = .returned (.string ⟨ts.reverse.flatten.toArray⟩) ∧ Below M W w' := fun W hgW hcs => by
  have ej : Lib.join ((ts.reverse.map (fun x => (⟨x.toArray⟩ : ByteArray))).map (·.data.toList)) (⟨#[]⟩ : ByteArray).data.toList = ts.reverse.flatten := by
   unfold Lib.join
   rw [show (⟨#[]⟩ : ByteArray).data.toList = [] from rfl, av5, List.map_map]
   simp [Function.comp_def]
  have h := Tryz.strings_Join g 0 cap (ts.reverse.map (fun x => (⟨x.toArray⟩ : ByteArray))) ⟨#[]⟩ W (fun j x hx => by
   rw [List.getElem?_map] at hx
   cases hr : ts.reverse[j]? with
   | none => rw [hr] at hx; cases hx
   | some y =>
    rw [hr] at hx
    cases hx
    exact hcs j y hr) hgW (by simp; omega) (by simpa using hnc) (by rw [ej]; omega)
  rw [ej, show (ts.reverse.map (fun x => (⟨x.toArray⟩ : ByteArray))).length = ts.length by simp] at h
  exact h.mono (fun e w' hh => ⟨hh.1, hh.2.mono (by omega)⟩)
 clear hg hf hvs
 go_enter Tryz.func46, Tryz.ntmps46
 go_wp2_with (first | (refine hR.mono ?_; rintro e w1 ⟨rfl, k1, kb, k2, k3⟩) | (refine (hJ _ k2 k3).mono ?_; rintro e w2 ⟨rfl, kc⟩))
 go_ret
 exact ⟨rfl, kb.trans kc⟩
structure a05 (M B7 p2 p3 p5 p6 p7 p8 : Nat) : Prop where
 m5 : M ≤ p5
 m6 : M ≤ p6
 l2 : p2 < B7 ∧ p2 ≠ p5 ∧ p2 ≠ p6
 l3 : p3 < B7 ∧ p3 ≠ p5 ∧ p3 ≠ p6
 l5 : p5 < B7 ∧ p5 ≠ p6
 l6 : p6 < B7
 l7 : p7 < B7 ∧ p7 ≠ p5 ∧ p7 ≠ p6
 l8 : p8 < B7 ∧ p8 ≠ p5 ∧ p8 ≠ p6
structure j5 (w : World) (M B7 p2 p3 p5 p6 p7 p8 : Nat) (sl : Value) (bf : Nat) (W : World) (v : Value) (ts : List (List UInt8)) (ne dp : Int) (left : Nat) : Prop where
 up : Below M w W
 sz : B7 ≤ W.heap.size
 c2 : W.cell? ⟨p2, 0, none⟩ = some sl
 c3 : W.cell? ⟨p3, 0, none⟩ = some (.func (.func bf) #[] #[])
 c7 : W.cell? ⟨p7, 0, none⟩ = some (.func (.func 97) #[] #[.pointer (some ⟨p2, 0, none⟩), .pointer (some ⟨p6, 0, none⟩), .pointer (some ⟨p8, 0, none⟩), .pointer (some ⟨p3, 0, none⟩), .pointer (some ⟨p7, 0, none⟩), .pointer (some ⟨p5, 0, none⟩)])
 c8 : W.cell? ⟨p8, 0, none⟩ = some (.func (.func 94) #[] #[.pointer (some ⟨p5, 0, none⟩), .pointer (some ⟨p7, 0, none⟩)])
 lf : VAt W p6 3 #[.int .i64 (left : Int)]
 out : WtV W B7 p5 v ts ne dp
 nd : 0 ≤ ne ∧ ne ≤ dp
def WS (p5 p6 : Nat) (v : Value) (k : Nat) : Prop := k ≠ p5 ∧ k ≠ p6 ∧ v.ownBlock ≠ some k

section
variable {w : World} {M B7 p2 p3 p5 p6 p7 p8 : Nat} {sl : Value} {bf : Nat} {W W' : World} {v v' : Value} {ts ts' : List (List UInt8)} {ne dp ne' dp' : Int} {left left' : Nat}
theorem j5.own (E : j5 w M B7 p2 p3 p5 p6 p7 p8 sl bf W v ts ne dp left) {k : Nat} (h : k < B7) : v.ownBlock ≠ some k := fun e => by have := (E.out.2.lt k e).1; omega
theorem j5.next (P : a05 M B7 p2 p3 p5 p6 p7 p8) (E : j5 w M B7 p2 p3 p5 p6 p7 p8 sl bf W v ts ne dp left) (K : Kp M (WS p5 p6 v) W W') (lf : VAt W' p6 3 #[.int .i64 (left' : Int)]) (out : WtV W' B7 p5 v' ts' ne' dp') (nd : 0 ≤ ne' ∧ ne' ≤ dp') :
  j5 w M B7 p2 p3 p5 p6 p7 p8 sl bf W' v' ts' ne' dp' left' where
 up := E.up.trans K.1
 sz := Nat.le_trans E.sz K.1.size
 c2 := K.cell (.inr ⟨P.l2.2.1, P.l2.2.2, E.own P.l2.1⟩) E.c2
 c3 := K.cell (.inr ⟨P.l3.2.1, P.l3.2.2, E.own P.l3.1⟩) E.c3
 c7 := K.cell (.inr ⟨P.l7.2.1, P.l7.2.2, E.own P.l7.1⟩) E.c7
 c8 := K.cell (.inr ⟨P.l8.2.1, P.l8.2.2, E.own P.l8.1⟩) E.c8
 lf := lf
 out := out
 nd := nd
theorem j5.kept (P : a05 M B7 p2 p3 p5 p6 p7 p8) (hM : M ≤ B7) (E : j5 w M B7 p2 p3 p5 p6 p7 p8 sl bf W v ts ne dp left) (G : W.grownBy W' none) : j5 w M B7 p2 p3 p5 p6 p7 p8 sl bf W' v ts ne dp left :=
 E.next P (Kp.none G (by have := E.sz; omega)) (E.lf.kept G) (E.out.kept G) E.nd
theorem j5.wrote (P : a05 M B7 p2 p3 p5 p6 p7 p8) (E : j5 w M B7 p2 p3 p5 p6 p7 p8 sl bf W v ts ne dp left) (K : Kp M (fun k => k ≠ p5 ∧ v.ownBlock ≠ some k) W W') (out : WtV W' B7 p5 v' ts' ne' dp') (nd : 0 ≤ ne' ∧ ne' ≤ dp') :
  j5 w M B7 p2 p3 p5 p6 p7 p8 sl bf W' v' ts' ne' dp' left :=
 E.next P (K.weak (fun _ h => ⟨h.1, h.2.2⟩)) (K.2 p6 _ ⟨fun e => P.l5.2 e.symm, E.own P.l6⟩ E.lf rfl) out nd
end
def WP (w : World) (M B7 p2 p3 p5 p6 p7 p8 : Nat) (sl : Value) (bf : Nat) (W : World) (v : Value) (ts : List (List UInt8)) (ne dp : Int) (left : Nat) (r : List UInt8) (d n k : Nat) (e : Ending) (W' : World) : Prop :=
 e = .returned (.tuple #[]) ∧ ∃ v' R, j5 w M B7 p2 p3 p5 p6 p7 p8 sl bf W' v' (ts ++ R) ne (max dp (ne + (d : Int))) (left - n) ∧ M4 W.heap.size v.ownBlock v' ∧ Kp M (WS p5 p6 v) W W' ∧ R.reverse.flatten = r ∧ R.length ≤ k
theorem a4j {M p5 p6 : Nat} {v v1 : Value} {A B C : World} (h : Kp M (WS p5 p6 v) A B) (g : M4 A.heap.size v.ownBlock v1) (k : Kp M (WS p5 p6 v1) B C) : Kp M (WS p5 p6 v) A C :=
 ⟨h.1.trans k.1, fun i o hi ho hc => k.2 i o ⟨hi.1, hi.2.1, g.ne (Array.getElem?_eq_some_iff.1 ho).1 hi.2.2⟩ (h.2 i o hi ho hc) hc⟩
theorem a4k {M p5 p6 : Nat} {v : Value} {A B : World} (h : Kp M (fun k => k ≠ p5 ∧ v.ownBlock ≠ some k) A B) : Kp M (WS p5 p6 v) A B := h.weak (fun _ h => ⟨h.1, h.2.2⟩)
theorem a4w {w : World} {M B7 p2 p3 p5 p6 p7 p8 : Nat} (P : a05 M B7 p2 p3 p5 p6 p7 p8) {sl : Value} {bf : Nat} {W : World} {v : Value} {ts : List (List UInt8)} {ne dp : Int} {left : Nat} (E : j5 w M B7 p2 p3 p5 p6 p7 p8 sl bf W v ts ne dp left) (ahead behind : List UInt8) (least : Int) (r : List UInt8) (d n k : Nat) (hne : ne ≤ 900000) (hts : ts.length + k ≤ 900000)
  (H : ∀ W1 v1, j5 w M B7 p2 p3 p5 p6 p7 p8 sl bf W1 v1 (ts ++ [behind]) (ne + 1) (max dp (ne + 1)) left → Calls Tryz.prog 97 #[.int .i64 least, .pointer (some ⟨p2, 0, none⟩), .pointer (some ⟨p6, 0, none⟩), .pointer (some ⟨p8, 0, none⟩), .pointer (some ⟨p3, 0, none⟩), .pointer (some ⟨p7, 0, none⟩), .pointer (some ⟨p5, 0, none⟩)] W1
   (WP w M B7 p2 p3 p5 p6 p7 p8 sl bf W1 v1 (ts ++ [behind]) (ne + 1) (max dp (ne + 1)) left r d n k)) :
  Calls Tryz.prog 94 #[str ahead, .int .i64 least, str behind, .pointer (some ⟨p5, 0, none⟩), .pointer (some ⟨p7, 0, none⟩)] W
   (WP w M B7 p2 p3 p5 p6 p7 p8 sl bf W v ts ne dp left (ahead ++ r ++ behind) (d + 1) n (k + 2)) := by
 have HE : Hid (j5 w M B7 p2 p3 p5 p6 p7 p8 sl bf W v ts ne dp left) := E
 have hn0 := E.nd.1
 have hC := am6 M B7 p5 behind ts v ne dp W P.m5 P.l5.1 E.sz E.out (by omega) ⟨hn0, by omega⟩
 clear E
 go_enter Tryz.func94, Tryz.ntmps94
 go_wp2_with (first
  | (refine hC.mono ?_; rintro e W1 ⟨rfl, ⟨v1, hO1, g1⟩, K1⟩; have E1 := HE.out.wrote P K1 hO1 (by have := HE.out.nd; omega); have c7 := E1.c7; clear hC)
  | (refine (H _ _ E1).mono ?_; rintro e W2 ⟨rfl, v2, R, E2, g2, K2, hr, hk⟩; have HE2 : Hid (j5 w M B7 p2 p3 p5 p6 p7 p8 sl bf W2 v2 (ts ++ [behind] ++ R) (ne + 1) (max (max dp (ne + 1)) (ne + 1 + (d : Int))) (left - n)) := E2; clear E2 H c7)
  | (refine (aH2 M B7 p5 ahead _ _ _ _ W2 P.m5 P.l5.1 HE2.out.sz HE2.out.out (by simp; omega) ⟨by omega, by omega⟩).mono ?_; rintro e W3 ⟨rfl, ⟨v3, hO3, g3⟩, K3⟩))
 go_end0
 have s1 := K1.1.size
 have s2 := K2.1.size
 have K12 := a4j (a4k (p6 := p6) K1) g1 K2
 have g12 := g1.trans g2 s1
 have E3 := HE2.out.wrote P K3 hO3 (by have := HE2.out.nd; omega)
 have e1 : ne + 1 - 1 = ne := by omega
 have e2 : max (max dp (ne + 1)) (ne + 1 + (d : Int)) = max dp (ne + ((d + 1 : Nat) : Int)) := by omega
 rw [e1, e2, show ts ++ [behind] ++ R ++ [ahead] = ts ++ ([behind] ++ R ++ [ahead]) by simp] at E3
 exact ⟨rfl, v3, [behind] ++ R ++ [ahead], E3, g12.trans g3 (by omega), a4j K12 g12 (a4k K3), by simp [hr], by simp; omega⟩

open Go.RowKit Go.Sort
theorem a8o (w : World) (k : Nat) (os : Array Obj) : w.grownBy (grow (w.drewN k) os) none :=
 ⟨rfl, rfl, rfl, by simp [grow], fun i hi _ => Lib.heap_grow_old w k os i hi⟩
theorem as0 (u : Nat) (hu : u ≤ 4294967295) (w : World) (T : j2 w) :
  Calls Tryz.prog 182 #[.int .u64 (u : Int), .int .i64 10] w fun e w' => e = .returned (str (dec u)) ∧ w.grownBy w' none := by
 have h20 : u < 10 ^ 20 := by omega
 rw [← a5r u h20]
 by_cases hs : u < 100
 ·have CS := Tryz.internal_strconv_small u hs
  clear T
  go_enter Tryz.func182, Tryz.ntmps182
  go_wp2_with fail
  refine (CS _).mono ?_
  rintro e w' ⟨rfl, rfl⟩
  go_wp2
  go_ret
  exact ⟨rfl, World.grownBy.refl _ _⟩
 ·have hu1 : 1 ≤ u := by omega
  have hu64 : u < 18446744073709551616 := by omega
  have hnd20 : Lib.nDigits u ≤ 20 := by have := Lib.numDigits_eq u hu1 hu64; split at this <;> omega
  have hal : Tryz.prog.arrayLen 198 = 24 := by simp [Program.arrayLen, Tryz.underlying198]
  have hsl1 : ∀ W, (Instr.sliceAt 198 (.pointer (some ⟨w.heap.size, 0, none⟩)) none (some (.int .i64 (Lib.nDigits u : Int))) none).run Tryz.prog W = .ok (.slice (some ⟨w.heap.size, 0, none⟩) (Lib.nDigits u) 24) W := fun W => by
   rw [run_sliceAt_array_h W 198 ⟨w.heap.size, 0, none⟩ (by simp [Program.arrayLen, Program.elem, Tryz.underlying198]) .i64 (Lib.nDigits u : Int) (by omega) (by rw [hal]; omega)]
   go_simp
  have hH0 := Lib.holds_zero0 w 198 (Lib.nDigits u) (by omega)
  have hfmt := Tryz.internal_strconv_formatBase10 w.heap.size 0 24 u (Array.replicate (Lib.nDigits u) 0) (w.alloc (.cells Lib.zeros24 198)) hH0 (by rw [Array.size_replicate]; exact Lib.lt_pow_nDigits u) hu64 (by rw [Array.size_replicate]; omega)
  rw [Array.size_replicate] at hfmt
  have HH0 := Lib.hid hH0
  have CN := Tryz.internal_strconv_numDigits u hu1 hu64 _ (Lib.tabIs_alloc T.1 (.cells Lib.zeros24 198))
  clear hH0 hal T
  go_enter Tryz.func182, Tryz.ntmps182
  go_wp2_with fail
  refine CN.mono ?_
  rintro e w' ⟨rfl, rfl⟩
  go_wp2_with fail
  refine hfmt.mono ?_
  rintro e w' ⟨rfl, k, v', dk, rfl, hF⟩
  have hcv : (convert 115 9 (.slice (some ⟨w.heap.size, 0, none⟩) (Lib.nDigits u) 24)).run Tryz.prog ((putRow (fun (b : UInt8) => Value.int .u8 (b.toNat : Int)) (w.alloc (.cells Lib.zeros24 198)) w.heap.size 0 dk).drewN k) = .ok (.string ⟨(Lib.decDigits u).toArray⟩) ((putRow (fun (b : UInt8) => Value.int .u8 (b.toNat : Int)) (w.alloc (.cells Lib.zeros24 198)) w.heap.size 0 dk).drewN k) := by
   have h := run_convert_bytes_back (P := Tryz.prog) ((putRow (fun (b : UInt8) => Value.int .u8 (b.toNat : Int)) (w.alloc (.cells Lib.zeros24 198)) w.heap.size 0 dk).drewN k) 115 9 5 ⟨w.heap.size, 0, none⟩ 24 (Lib.decDigits u) Tryz.underlying115 Tryz.underlying5 Tryz.underlying9 (fun j hj => by
    rw [Lib.row_is_numeral hF j hj, Lib.add_plain, World.cell?_drewN]
    exact cell?_putRow (fun (b : UInt8) => Value.int .u8 (b.toNat : Int)) _ w.heap.size 0 _ dk HH0.out (by rw [hF.size, Array.size_replicate]) j (by rw [hF.size]; rw [Lib.decDigits_length] at hj; exact hj))
   rw [Lib.decDigits_length] at h
   exact h
  go_wp2
  go_ret
  obtain ⟨os, eo⟩ := Lib.fin_at w (.cells Lib.zeros24 198) dk k 0
  refine ⟨rfl, ?_⟩
  rw [eo]
  exact a8o _ _ _
theorem a4J (n : Nat) (hn : n ≤ 4294967295) (w : World) (T : j2 w) :
  Calls Tryz.prog 134 #[.int .u32 (n : Int)] w fun e w' => e = .returned (str (dec n)) ∧ w.grownBy w' none := by
 have CF : Calls Tryz.prog 163 #[.int .u64 (n : Int), .int .i64 10] w fun e w' => e = .returned (str (dec n)) ∧ w.grownBy w' none := by
  have C := as0 n hn w T
  go_enter Tryz.func163, Tryz.ntmps163
  go_wp2_with fail
  refine C.mono ?_
  rintro e w' ⟨rfl, G⟩
  go_wp2
  go_ret
  exact ⟨rfl, G⟩
 have hw : IntKind.u64.wrap (n : Int) = (n : Int) := by rw [IntKind.wrap_u64]; omega
 clear T
 go_enter Tryz.func134, Tryz.ntmps134
 go_wp2_with fail
 refine CF.mono ?_
 rintro e w' ⟨rfl, G⟩
 go_wp2
 go_ret
 exact ⟨rfl, G⟩
theorem ax0 {n : Nat} (h : n < 10 ^ 20) : Lib.itoa (n : Int) = dec n := by rw [Lib.itoa_nonneg, a5r n h]
theorem a8A (n : Nat) (hn : n ≤ 4294967295) (w : World) (T : j2 w) :
  Calls Tryz.prog 130 #[.int .i64 (n : Int)] w fun e w' => e = .returned (str (dec n)) ∧ w.grownBy w' none := by
 refine (Tryz.strconv_Itoa (n : Int) (by omega) (by omega) w T.1).mono ?_
 rintro e w' ⟨rfl, k, os, rfl⟩
 rw [ax0 (by omega)]
 exact ⟨rfl, a8o _ _ _⟩
theorem aU2 (n : Int) (hn : 0 ≤ n ∧ n ≤ 4294967295) (w : World) (T : j2 w) :
  Calls Tryz.prog 100 #[.int .i64 n] w fun e w' => e = .returned (str (U5 n)) ∧ w.grownBy w' none := by
 obtain ⟨m, rfl⟩ : ∃ m : Nat, n = m := ⟨n.toNat, by omega⟩
 have C := a8A m (by omega) w T
 have hl := S7 m
 clear T
 by_cases h1 : (m : Int) = 1
 ·rw [show U5 (m : Int) = [] by unfold U5; rw [if_pos h1]]
  rw [h1] at C ⊢
  clear h1
  go_enter Tryz.func100, Tryz.ntmps100
  go_wp2
  go_ret
  exact ⟨rfl, World.grownBy.refl _ _⟩
 ·rw [show U5 (m : Int) = [58] ++ dec m by unfold U5; rw [if_neg h1]; rfl]
  obtain ⟨S, hS⟩ : ∃ S : ByteArray, (⟨(dec m).toArray⟩ : ByteArray) = S := ⟨_, rfl⟩
  have hz : S.size ≤ 20 := by rw [← hS]; simpa [ByteArray.size] using hl
  have HS : Hid ((⟨(dec m).toArray⟩ : ByteArray) = S) := hS
  have C' : Calls Tryz.prog 130 #[.int .i64 (m : Int)] w fun e w' => e = .returned (.string S) ∧ w.grownBy w' none := by rw [← hS]; exact C
  clear C hS
  go_enter Tryz.func100, Tryz.ntmps100
  go_wp2_with fail
  refine C'.mono ?_
  rintro e w' ⟨rfl, G⟩
  go_wp2
  go_ret
  refine ⟨?_, G⟩
  rw [← HS.out]
  exact congrArg Ending.returned (a6J [58] (dec m))
def wv (acc x : List UInt8) : List UInt8 := if x = [] then acc else if acc = [] then x else acc ++ 32 :: x
def M2 (xs : List (List UInt8)) : List UInt8 := xs.foldl wv []
theorem b0v {xs : List (List UInt8)} {k : Nat} (h : k < xs.length) : M2 (xs.take (k + 1)) = wv (M2 (xs.take k)) xs[k] := by
 unfold M2
 rw [List.take_succ_eq_append_getElem h, List.foldl_append]
 rfl
theorem at6 {w w' : World} (h : Below w.heap.size w w') : w.grownBy w' none := ⟨h.os, h.tape, h.output, h.size, fun k hk _ => h.block k hk⟩
theorem aW5 (x : List UInt8) : Lib.strCells ⟨x.toArray⟩ = Lib.byteCells x := rfl
theorem a6V (ao : Option Addr) (cap : Nat) (xs : List (List UInt8)) (w : World) (C : CV w ao (xs.map str)) (hn : xs.length ≤ 1000) (hl : ∀ x ∈ xs, x.length ≤ 100000) :
  Calls Tryz.prog 136 #[.slice ao xs.length cap] w fun e w' => e = .returned (str (M2 xs)) ∧ w.grownBy w' none := by
 have HC : Hid (CV w ao (xs.map str)) := C
 have HLX : Hid (∀ x ∈ xs, x.length ≤ 100000) := hl
 have HF := Lib.fresh_isBuilder 150 5 w
 have HB0 : Below w.heap.size w (w.alloc (.cells #[.pointer none, .slice none 0 0] 150)) := (Below.refl _ _).alloc (Nat.le_refl _) _
 clear C hl
 go_enter Tryz.func136, Tryz.ntmps136
 go_wp2
 generalize w.alloc (.cells #[.pointer none, .slice none 0 0] 150) = w0 at *
 have HI0 : Hid (∃ acc : List UInt8, acc = M2 (xs.take 0) ∧ acc.length ≤ 100001 * 0 ∧ a1Z w.heap.size w.heap.size (Lib.byteCells acc) w0 ∧ Below w.heap.size w w0) := ⟨[], rfl, Nat.le_refl _, HF, HB0⟩
 obtain ⟨B, hB⟩ : ∃ B, w.heap.size = B := ⟨_, rfl⟩
 rw [hB] at HI0 ⊢
 have HB : Hid (w.heap.size = B) := hB
 clear HF HB0 hB
 go_loopw [8] (fun i wr => ∃ k : Nat, k ≤ xs.length ∧ i = .int .i64 k ∧ Hid (∃ acc : List UInt8, acc = M2 (xs.take k) ∧ acc.length ≤ 100001 * k ∧ a1Z B B (Lib.byteCells acc) wr ∧ Below B w wr)) (fun i _ => xs.length - (intOf i).toNat)
 case atStart => exact ⟨0, Nat.zero_le _, rfl, HI0.out⟩
 case round =>
  clear HI0
  obtain ⟨k, hk, rfl, HI⟩ := hrel
  obtain ⟨acc, hacc, hal, hbl, hbe⟩ := HI.out
  clear HI
  by_cases hlt : k < xs.length
  ·obtain ⟨b, o, hao, hcell⟩ := HC.out.addr (k := k) (by simpa using hlt)
   subst hao
   have hbb : Below w.heap.size w wr := by rw [HB.out]; exact hbe
   obtain ⟨b', o', e', hc'⟩ := (HC.out.below hbb).addr (k := k) (by simpa using hlt)
   simp only [Option.some.injEq, Addr.mk.injEq] at e'
   obtain ⟨rfl, rfl, -⟩ := e'
   have c1 : wr.cell? ⟨b, o + k, none⟩ = some (str xs[k]) := by have := hc' k (by simpa using hlt); simpa using this
   have HXL : Hid (xs[k].length ≤ 100000) := HLX.out _ (List.getElem_mem hlt)
   have HWT : Hid (M2 (xs.take (k + 1)) = wv acc xs[k]) := by rw [hacc]; exact b0v hlt
   have hl1 : (k : Int) < (xs.length : Int) := by omega
   have w1 : IntKind.i64.wrap ((k : Int) + 1) = (k : Int) + 1 := by rw [IntKind.wrap_i64]; omega
   generalize xs[k] = x at c1 HXL HWT
   clear hc' hcell hbb hacc
   cases x with
   | nil =>
    rw [show str [] = .string ⟨#[]⟩ from rfl] at c1
    go_wp2
    go_roundw
    case rel => exact ⟨k + 1, hlt, by go_num, acc, HWT.out.symm, by omega, hbl, hbe⟩
    case measure => simp only [intOf]; omega
   | cons a l =>
    obtain ⟨S, hS⟩ : ∃ S : ByteArray, (⟨(a :: l).toArray⟩ : ByteArray) = S := ⟨_, rfl⟩
    rw [show str (a :: l) = .string S by rw [← hS]] at c1
    have HS : Hid ((⟨(a :: l).toArray⟩ : ByteArray) = S) := hS
    have hse : S.toList.isEmpty = false := by rw [ByteArray.toList_eq, ← hS]; rfl
    have hsz : S.size = (a :: l).length := by rw [← hS]; simp [ByteArray.size]
    have hlen1 : S.size ≤ 100000 := by rw [hsz]; exact HXL.out
    have CL := Tryz.Builder_Len B B (Lib.byteCells acc) wr hbl
    rw [show (Lib.byteCells acc).length = acc.length by simp [Lib.byteCells]] at CL
    have hBw : B ≤ wr.heap.size := by have := hbe.size; rw [HB.out] at this; exact this
    have hk5 : acc.length ≤ 100001000 := by have : 100001 * k ≤ 100001 * 1000 := Nat.mul_le_mul_left _ (by omega); omega
    clear hS
    go_wp2_with fail
    refine CL.mono ?_
    rintro e w2 ⟨rfl, rfl⟩
    clear CL c1
    cases acc with
    | nil =>
     have CW := a7G B B (Lib.byteCells []) S w2 hbl (by simp [Lib.byteCells]; omega) hBw
     go_wp2_with fail
     refine CW.mono ?_
     rintro e w3 ⟨rfl, hb3, hbe3⟩
     have HN : Hid (a1Z B B (Lib.byteCells (a :: l)) w3) := by
      refine .inr ?_
      rw [← HS.out] at hb3
      exact hb3
     clear CW hb3
     go_wp2
     go_roundw
     case rel => exact ⟨k + 1, hlt, by go_num, a :: l, by rw [HWT.out]; rfl, by have := HXL.out; omega, HN.out, hbe.trans hbe3⟩
     case measure => simp only [intOf]; omega
    | cons d m =>
     have hpos : (0 : Int) < ((d :: m).length : Int) := by simp only [List.length_cons]; omega
     have CB := ah7 B B (Lib.byteCells (d :: m)) 32 w2 hbl (by rw [show (Lib.byteCells (d :: m)).length = (d :: m).length by simp [Lib.byteCells]]; omega) hBw
     obtain ⟨A, hA⟩ : ∃ A, d :: m = A := ⟨_, rfl⟩
     have HA : Hid (d :: m = A) := hA
     rw [hA] at CB hpos hk5 ⊢
     clear hbl
     go_wp2_with fail
     refine CB.mono ?_
     rintro e w3 ⟨rfl, hb3, hbe3⟩
     clear CB
     have CW := a7G B B (Lib.byteCells A ++ [.int .u8 32]) S w3 (.inr hb3) (by rw [List.length_append, show (Lib.byteCells A).length = A.length by simp [Lib.byteCells]]; simp only [List.length_cons, List.length_nil]; omega) (Nat.le_trans hBw hbe3.size)
     go_wp2_with fail
     refine CW.mono ?_
     rintro e w4 ⟨rfl, hb4, hbe4⟩
     have HN : Hid (a1Z B B (Lib.byteCells (A ++ 32 :: a :: l)) w4) := by
      refine .inr ?_
      rw [← HS.out] at hb4
      have e : Lib.byteCells (A ++ 32 :: a :: l) = Lib.byteCells A ++ [.int .u8 32] ++ Lib.strCells ⟨(a :: l).toArray⟩ := by
       rw [aW5]
       simp [Lib.byteCells]
      rw [e]
      exact hb4
     clear CW hb3 hb4
     go_wp2
     go_roundw
     case rel => exact ⟨k + 1, hlt, by go_num, A ++ 32 :: a :: l, by rw [HWT.out, ← HA.out]; rfl, by have := HXL.out; rw [← HA.out] at *; simp only [List.length_append, List.length_cons] at *; omega, HN.out, (hbe.trans hbe3).trans hbe4⟩
     case measure => simp only [intOf]; omega
  ·have hl1 : ¬ ((k : Int) < (xs.length : Int)) := by omega
   obtain rfl : k = xs.length := by omega
   have CS := Tryz.Builder_String_any B B acc wr hbl (by rw [← HB.out]; exact hbe.size)
   have HE : Hid (M2 xs = acc) := by show M2 xs = acc; rw [hacc, List.take_length]
   go_wp2_with fail
   refine CS.mono ?_
   rintro e w2 ⟨rfl, hb2⟩
   go_wp2
   go_ret
   refine ⟨by rw [HE.out]; rfl, at6 ?_⟩
   rw [HB.out]
   exact hbe.trans hb2
def W6 (n m : Nat) : List UInt8 := if n = m then [112, 111, 114, 116, 32] ++ dec n else [112, 111, 114, 116, 114, 97, 110, 103, 101, 32] ++ dec n ++ [45] ++ dec m
theorem a5t (n : Nat) (h : n ≤ 4294967295) : dec n ≠ [] := a7N n (by omega)
theorem ad9 {a b : List UInt8} (ha : a ≠ []) (hb : b ≠ []) : M2 [a, b] = a ++ 32 :: b := by
 show wv (wv [] a) b = _
 have e : wv [] a = a := by unfold wv; rw [if_neg ha, if_pos rfl]
 rw [e]
 unfold wv
 rw [if_neg hb, if_neg ha]
theorem aM9 (n m : Nat) : (W6 n m).length ≤ 60 := by
 have h1 := S7 n
 have h2 := S7 m
 unfold W6
 split <;> simp only [List.length_append, List.length_cons, List.length_nil] <;> omega
theorem aS8 (n m : Nat) (hn : n ≤ 4294967295) (hm : m ≤ 4294967295) (w : World) (T : j2 w) :
  Calls Tryz.prog 139 #[.int .u32 (n : Int), .int .u32 (m : Int)] w fun e w' => e = .returned (str (W6 n m)) ∧ w.grownBy w' none := by
 have HT : Hid (j2 w) := T
 clear T
 have ln := S7 n
 have lm := S7 m
 by_cases h : n = m
 ·subst h
  have C1 := a4J n hn w HT.out
  have HW : Hid (∀ W : World, Calls Tryz.prog 136 #[.slice (some ⟨W.heap.size, 0, none⟩) 2 2] (W.alloc (.cells #[.string ⟨#[112, 111, 114, 116]⟩, str (dec n)] 9)) fun e w' => e = .returned (str (W6 n n)) ∧ (W.alloc (.cells #[.string ⟨#[112, 111, 114, 116]⟩, str (dec n)] 9)).grownBy w' none) := fun W => by
   have := a6V (some ⟨W.heap.size, 0, none⟩) 2 [[112, 111, 114, 116], dec n] (W.alloc (.cells ([str [112, 111, 114, 116], str (dec n)] : List Value).toArray 9)) (o4 W _ _) (by simp) (fun x hx => by
    simp only [List.mem_cons, List.not_mem_nil, or_false] at hx
    rcases hx with rfl | rfl
    ·decide
    ·omega)
   rw [ad9 (by simp) (a5t n hn)] at this
   rw [show W6 n n = [112, 111, 114, 116] ++ 32 :: dec n by unfold W6; rw [if_pos rfl]; simp]
   exact this
  go_enter Tryz.func139, Tryz.ntmps139
  go_wp2_with fail
  refine C1.mono ?_
  rintro e w1 ⟨rfl, G1⟩
  clear C1
  go_wp2_with fail
  refine (HW.out w1).mono ?_
  rintro e w2 ⟨rfl, G2⟩
  have G := d3 (d3 G1 (World.grownBy_alloc _ _ none)) G2
  go_wp2
  go_ret
  exact ⟨rfl, G⟩
 ·have hne : ((n : Int) == (m : Int)) = false := by rw [beq_eq_false_iff_ne]; omega
  have C1 := a4J n hn w HT.out
  have HD2 : Hid (∀ W : World, w.grownBy W none → Calls Tryz.prog 134 #[.int .u32 (m : Int)] W fun e w' => e = .returned (str (dec m)) ∧ W.grownBy w' none) := fun W G => a4J m hm W (HT.out.grown G)
  obtain ⟨X, hX⟩ : ∃ X : ByteArray, (⟨(dec n).toArray⟩ : ByteArray) = X := ⟨_, rfl⟩
  obtain ⟨Y, hY⟩ : ∃ Y : ByteArray, (⟨(dec m).toArray⟩ : ByteArray) = Y := ⟨_, rfl⟩
  have hxz : X.size ≤ 20 := by rw [← hX]; simpa [ByteArray.size] using ln
  have hyz : Y.size ≤ 20 := by rw [← hY]; simpa [ByteArray.size] using lm
  have HW : Hid (∀ W : World, Calls Tryz.prog 136 #[.slice (some ⟨W.heap.size, 0, none⟩) 2 2] (W.alloc (.cells #[.string ⟨#[112, 111, 114, 116, 114, 97, 110, 103, 101]⟩, .string (X ++ ⟨#[45]⟩ ++ Y)] 9)) fun e w' => e = .returned (str (W6 n m)) ∧ (W.alloc (.cells #[.string ⟨#[112, 111, 114, 116, 114, 97, 110, 103, 101]⟩, .string (X ++ ⟨#[45]⟩ ++ Y)] 9)).grownBy w' none) := fun W => by
   have := a6V (some ⟨W.heap.size, 0, none⟩) 2 [[112, 111, 114, 116, 114, 97, 110, 103, 101], dec n ++ [45] ++ dec m] (W.alloc (.cells ([str [112, 111, 114, 116, 114, 97, 110, 103, 101], str (dec n ++ [45] ++ dec m)] : List Value).toArray 9)) (o4 W _ _) (by simp) (fun x hx => by
    simp only [List.mem_cons, List.not_mem_nil, or_false] at hx
    rcases hx with rfl | rfl
    ·decide
    ·simp only [List.length_append, List.length_cons, List.length_nil]; omega)
   rw [ad9 (by simp) (by simp)] at this
   rw [show W6 n m = [112, 111, 114, 116, 114, 97, 110, 103, 101] ++ 32 :: (dec n ++ [45] ++ dec m) by unfold W6; rw [if_neg h]; simp]
   rw [show (X ++ (⟨#[45]⟩ : ByteArray) ++ Y) = ⟨(dec n ++ [45] ++ dec m).toArray⟩ by rw [← hX, ← hY, show (⟨#[45]⟩ : ByteArray) = ⟨([45] : List UInt8).toArray⟩ from rfl, cat, cat]]
   exact this
  have C1' : Calls Tryz.prog 134 #[.int .u32 (n : Int)] w fun e w' => e = .returned (.string X) ∧ w.grownBy w' none := by rw [← hX]; exact C1
  have HD2' : Hid (∀ W : World, w.grownBy W none → Calls Tryz.prog 134 #[.int .u32 (m : Int)] W fun e w' => e = .returned (.string Y) ∧ W.grownBy w' none) := fun W G => by rw [← hY]; exact HD2.out W G
  clear C1 HD2 hX hY h
  go_enter Tryz.func139, Tryz.ntmps139
  go_wp2_with fail
  refine C1'.mono ?_
  rintro e w1 ⟨rfl, G1⟩
  clear C1'
  go_wp2_with fail
  refine (HD2'.out _ G1).mono ?_
  rintro e w2 ⟨rfl, G2⟩
  go_wp2_with fail
  refine (HW.out w2).mono ?_
  rintro e w3 ⟨rfl, G3⟩
  have G := d3 (d3 (d3 G1 G2) (World.grownBy_alloc _ _ none)) G3
  go_wp2
  go_ret
  exact ⟨rfl, G⟩
theorem a54 {P : Program} {ops : Array Oper} {rest : List Oper} {o : Oper} {a : Act} {w : World} {Q : Exit → Act → World → Prop} (hgd : o.guard = none) (ty : TypeId) (x i : Operand) (ho : o.op = .index ty x i) (y j v : Value) (hx : a.eval x = y) (hj : a.eval i = j)
  (hr : (Instr.index ty y j).run P w = .ok v w) (h : wpList P ops Q rest (a.put o.dst v) w) : wpList P ops Q (o :: rest) a w :=
 wpList_plain hgd fun _ hK => by
  unfold Oper.wp execOp
  simp only [ho, hx, hj, hr, Sem.run_bind, Sem.run_pure, Result.andThen_ok]
  exact hK _ _ h
theorem ix4 (a b c d : Value) (w : World) : (Instr.index 114 (.agg #[a, b, c, d]) (.int .i64 0)).run Tryz.prog w = .ok a w ∧ (Instr.index 114 (.agg #[a, b, c, d]) (.int .i64 1)).run Tryz.prog w = .ok b w ∧ (Instr.index 114 (.agg #[a, b, c, d]) (.int .i64 2)).run Tryz.prog w = .ok c w ∧ (Instr.index 114 (.agg #[a, b, c, d]) (.int .i64 3)).run Tryz.prog w = .ok d w :=
 ⟨by kernel_rfl, by kernel_rfl, by kernel_rfl, by kernel_rfl⟩
theorem aN2 (xs : List UInt8) (w : World) (h4 : xs.length = 4) (T : j2 w) :
  Calls Tryz.prog 167 #[.agg (xs.map bv).toArray] w fun e w' => e = .returned (str (T3 xs)) ∧ w.grownBy w' none := by
 obtain ⟨i0, hi, hz0, hz1, hz2⟩ := info_parts a1f
 have HT : Hid (j2 w) := T
 have h3 := T.size
 clear T
 obtain ⟨a, b, c, d, rfl⟩ : ∃ a b c d, xs = [a, b, c, d] := by
  match xs, h4 with
  | [a, b, c, d], _ => exact ⟨a, b, c, d, rfl⟩
 clear h4
 rw [show (([a, b, c, d] : List UInt8).map bv).toArray = #[.int .u8 (a.toNat : Int), .int .u8 (b.toNat : Int), .int .u8 (c.toNat : Int), .int .u8 (d.toNat : Int)] from rfl]
 have HTW : Hid (∀ X : World, Ap w.heap.size w X → j2 X) := fun X h => HT.out.below h3 h.1
 have A0 : Ap w.heap.size w (w.alloc (.cells #[.int .u8 (a.toNat : Int), .int .u8 (b.toNat : Int), .int .u8 (c.toNat : Int), .int .u8 (d.toNat : Int)] 114)) := Ap.ofNone (Nat.le_refl _) (World.grownBy_alloc _ _ _)
 have da := S7 a.toNat
 have db := S7 b.toNat
 have dc := S7 c.toNat
 have dd := S7 d.toNat
 have la := a.toNat_lt
 have lb := b.toNat_lt
 have lc := c.toNat_lt
 have ld := d.toNat_lt
 have HP : Hid (T3 [a, b, c, d] = ((dec a.toNat ++ [46] ++ dec b.toNat) ++ [46] ++ dec c.toNat) ++ [46] ++ dec d.toNat) := by
  show _ = _
  simp [T3, o7]
 go_enter Tryz.func167, Tryz.ntmps167
 go_wp2
 go_loopw [3, 7] (fun v i wr => ∃ (j : Nat) (t : List UInt8), j ≤ 4 ∧ i = .int .i64 j ∧ m9 wr w.heap.size v t ∧ Ap w.heap.size w wr ∧ t.length ≤ 21 * j ∧ Hid (t = if j = 0 then [] else if j = 1 then dec a.toNat else if j = 2 then dec a.toNat ++ [46] ++ dec b.toNat else if j = 3 then (dec a.toNat ++ [46] ++ dec b.toNat) ++ [46] ++ dec c.toNat else ((dec a.toNat ++ [46] ++ dec b.toNat) ++ [46] ++ dec c.toNat) ++ [46] ++ dec d.toNat)) (fun _ i _ => 4 - (intOf i).toNat)
 case atStart => exact ⟨0, [], Nat.zero_le _, rfl, World.ownsRow_nil _ _ _ _, A0, Nat.le_refl _, rfl⟩
 case round =>
  clear A0
  obtain ⟨j, t, hj, rfl, O, A, htl, HTx⟩ := hrel
  have hsz := A.size
  have hj5 : j = 0 ∨ j = 1 ∨ j = 2 ∨ j = 3 ∨ j = 4 := by omega
  rcases hj5 with rfl | rfl | rfl | rfl | rfl
  ·have ht : t = [] := HTx.out
   subst ht
   rw [show ((0 : Nat) : Int) = 0 from rfl]
   go_wp2_with (first | (refine a54 rfl 114 (.tmp 6) (.tmp 7) rfl _ _ _ rfl rfl (ix4 _ _ _ _ _).1 ?_) | (go_at_call 185; refine (a40 w.heap.size a.toNat _ [] _ (by omega) O hsz (by simp) (HTW.out _ A)).mono ?_; rintro e w2 ⟨v2, rfl, O2, A2⟩))
   go_roundw
   case rel => exact ⟨1, dec a.toNat, by omega, by go_num, O2, A.trans A2, by omega, rfl⟩
   case measure => simp [intOf]
  ·obtain ⟨ap, cap, rfl, -⟩ := S5 O
   rw [show ((1 : Nat) : Int) = 1 from rfl]
   go_wp2_with (first | (refine a54 rfl 114 (.tmp 6) (.tmp 7) rfl _ _ _ rfl rfl (ix4 _ _ _ _ _).2.1 ?_) | (at_builtin; refine a0R rfl (.tmp 13) (.tmp 14) 115 rfl 5 i0 (.int .u8 0) 1 1 Tryz.underlying115 hi hz0 hz1 hz2 rfl (by decide) w.heap.size _ t.length (t.map bv) rfl ?q1b (some ⟨wr.heap.size, 0, none⟩) 1 1 [bv 46] rfl rfl (by simp) ?q2b (by simp [Value.oneCell', bv]) ?q3b ?q4b ?q5b ?q6b))
   case q1b => exact O.alloc _
   case q2b => exact o4 wr _ _
   case q3b => unfold maxLen; omega
   case q4b => omega
   case q5b => first | omega | (simp; omega)
   case q6b =>
    intro v1 w1 O1 K1
    have A1 : Ap w.heap.size w w1 := (A.trans (Ap.ofNone hsz (World.grownBy_alloc _ _ none))).trans (Ap.ofOwn (O.alloc _) (by simp; omega) K1)
    have O1' : m9 w1 w.heap.size v1 (t ++ [46]) := by
     unfold m9
     rw [List.length_append, List.map_append]
     exact O1
    have hs1 := A1.size
    clear O1 K1 O A
    go_wp2_with (go_at_call 185; refine (a40 w.heap.size b.toNat _ (t ++ [46]) _ (by omega) O1' hs1 (by rw [List.length_append]; simp only [List.length_cons, List.length_nil]; omega) (HTW.out _ A1)).mono ?_; rintro e w2 ⟨v2, rfl, O2, A2⟩)
    go_roundw
    case rel => exact ⟨2, t ++ [46] ++ dec b.toNat, by omega, by go_num, O2, A1.trans A2, by simp only [List.length_append, List.length_cons, List.length_nil]; omega, by rw [show t = _ from HTx.out]; rfl⟩
    case measure => simp [intOf]
  ·obtain ⟨ap, cap, rfl, -⟩ := S5 O
   rw [show ((2 : Nat) : Int) = 2 from rfl]
   go_wp2_with (first | (refine a54 rfl 114 (.tmp 6) (.tmp 7) rfl _ _ _ rfl rfl (ix4 _ _ _ _ _).2.2.1 ?_) | (at_builtin; refine a0R rfl (.tmp 13) (.tmp 14) 115 rfl 5 i0 (.int .u8 0) 1 1 Tryz.underlying115 hi hz0 hz1 hz2 rfl (by decide) w.heap.size _ t.length (t.map bv) rfl ?q1c (some ⟨wr.heap.size, 0, none⟩) 1 1 [bv 46] rfl rfl (by simp) ?q2c (by simp [Value.oneCell', bv]) ?q3c ?q4c ?q5c ?q6c))
   case q1c => exact O.alloc _
   case q2c => exact o4 wr _ _
   case q3c => unfold maxLen; omega
   case q4c => omega
   case q5c => first | omega | (simp; omega)
   case q6c =>
    intro v1 w1 O1 K1
    have A1 : Ap w.heap.size w w1 := (A.trans (Ap.ofNone hsz (World.grownBy_alloc _ _ none))).trans (Ap.ofOwn (O.alloc _) (by simp; omega) K1)
    have O1' : m9 w1 w.heap.size v1 (t ++ [46]) := by
     unfold m9
     rw [List.length_append, List.map_append]
     exact O1
    have hs1 := A1.size
    clear O1 K1 O A
    go_wp2_with (go_at_call 185; refine (a40 w.heap.size c.toNat _ (t ++ [46]) _ (by omega) O1' hs1 (by rw [List.length_append]; simp only [List.length_cons, List.length_nil]; omega) (HTW.out _ A1)).mono ?_; rintro e w2 ⟨v2, rfl, O2, A2⟩)
    go_roundw
    case rel => exact ⟨3, t ++ [46] ++ dec c.toNat, by omega, by go_num, O2, A1.trans A2, by simp only [List.length_append, List.length_cons, List.length_nil]; omega, by rw [show t = _ from HTx.out]; rfl⟩
    case measure => simp [intOf]
  ·obtain ⟨ap, cap, rfl, -⟩ := S5 O
   rw [show ((3 : Nat) : Int) = 3 from rfl]
   go_wp2_with (first | (refine a54 rfl 114 (.tmp 6) (.tmp 7) rfl _ _ _ rfl rfl (ix4 _ _ _ _ _).2.2.2 ?_) | (at_builtin; refine a0R rfl (.tmp 13) (.tmp 14) 115 rfl 5 i0 (.int .u8 0) 1 1 Tryz.underlying115 hi hz0 hz1 hz2 rfl (by decide) w.heap.size _ t.length (t.map bv) rfl ?q1d (some ⟨wr.heap.size, 0, none⟩) 1 1 [bv 46] rfl rfl (by simp) ?q2d (by simp [Value.oneCell', bv]) ?q3d ?q4d ?q5d ?q6d))
   case q1d => exact O.alloc _
   case q2d => exact o4 wr _ _
   case q3d => unfold maxLen; omega
   case q4d => omega
   case q5d => first | omega | (simp; omega)
   case q6d =>
    intro v1 w1 O1 K1
    have A1 : Ap w.heap.size w w1 := (A.trans (Ap.ofNone hsz (World.grownBy_alloc _ _ none))).trans (Ap.ofOwn (O.alloc _) (by simp; omega) K1)
    have O1' : m9 w1 w.heap.size v1 (t ++ [46]) := by
     unfold m9
     rw [List.length_append, List.map_append]
     exact O1
    have hs1 := A1.size
    clear O1 K1 O A
    go_wp2_with (go_at_call 185; refine (a40 w.heap.size d.toNat _ (t ++ [46]) _ (by omega) O1' hs1 (by rw [List.length_append]; simp only [List.length_cons, List.length_nil]; omega) (HTW.out _ A1)).mono ?_; rintro e w2 ⟨v2, rfl, O2, A2⟩)
    go_roundw
    case rel => exact ⟨4, t ++ [46] ++ dec d.toNat, by omega, by go_num, O2, A1.trans A2, by simp only [List.length_append, List.length_cons, List.length_nil]; omega, by rw [show t = _ from HTx.out]; rfl⟩
    case measure => simp [intOf]
  ·have hp : T3 [a, b, c, d] = t := by rw [HP.out, show t = _ from HTx.out]; rfl
   have HPT : Hid (T3 [a, b, c, d] = t) := hp
   have hcv := a9J (P := Tryz.prog) O 115 9 Tryz.underlying115 Tryz.underlying5 Tryz.underlying9
   clear hp HP HTx
   rw [show ((4 : Nat) : Int) = 4 from rfl]
   go_wp2
   go_ret
   exact ⟨by rw [HPT.out]; rfl, A.none⟩

open Go.RowKit Go.Shelf

attribute [local go_sem] Oper.semAt_some
abbrev a5x (p : Nat × Nat) : Array Value := #[.int .i64 (p.1 : Int), .int .u32 (p.2 : Int)]
theorem a2p : ∀ xs : List UInt8, (d8 xs).length = xs.length / 2
 | [] => rfl
 | [_] => by simp [d8]
 | h :: l :: r => by
  rw [d8, List.length_cons, a2p r]
  simp only [List.length_cons]
  omega
theorem a9k : ∀ (xs : List UInt8) (j : Nat) (h : j < (d8 xs).length), a0w xs (2 * j) 2 = (d8 xs)[j]
 | [], j, h => by simp [d8] at h
 | [_], j, h => by simp [d8] at h
 | a :: b :: r, 0, h => by simp [d8, a0w]; omega
 | a :: b :: r, j + 1, h => by
  have ih := a9k r j (by simpa [d8] using h)
  simp only [d8, List.getElem_cons_succ]
  rw [← ih]
  simp only [a0w, show 2 * (j + 1) + 0 = 2 * j + 0 + 1 + 1 by omega, show 2 * (j + 1) + 1 = 2 * j + 1 + 1 + 1 by omega, List.getD_cons_succ]
  rfl
theorem a8j (xs : List UInt8) (j : Nat) (h : j < (d8 xs).length) : a1H xs (2 * (j : Int)) 2 = ((d8 xs)[j] : Int) := by
 have hl := a2p xs
 rw [a1H, if_pos (by simp [okB]; omega), show (2 * (j : Int)).toNat = 2 * j by omega]
 exact congrArg _ (a9k xs j h)
theorem a9j (ao : Option Addr) (n ca : Nat) (w : World) :
  Calls Tryz.prog 203 #[.slice ao n ca] w fun e w' => e = .returned (.func (.func 213) #[] #[.pointer (some ⟨w.heap.size, 0, none⟩)]) ∧ w' = w.alloc (.cells #[.slice ao n ca] 115) := by
 go_enter Tryz.func203, Tryz.ntmps203
 go_wp2
 go_ret
 exact ⟨rfl, rfl⟩
theorem Kp.cells {n : Nat} {S : Nat → Prop} {W W' : World} (K : Kp n S W W') {ao : Option Addr} {xs : List UInt8} (hs : ∀ ad, ao = some ad → xs ≠ [] → ad.block < n ∨ S ad.block) (h : Cells W ao xs) : Cells W' ao xs :=
 ⟨h.1, fun ad had i hi => K.cell (a := ad.add i) (by rw [show (ad.add i).block = ad.block by unfold Addr.add; split <;> rfl]; exact hs ad had (fun e => by subst e; simp at hi)) (h.2 ad had i hi)⟩
theorem aI3 (n : Nat) (hn : 1 ≤ n) (l Bb n₀ : Nat) (S : Nat → Prop) (ao : Option Addr) (ca : Nat) (xs : List UInt8) (hs : xs.length ≤ 1048576) (hS : S Bb ∨ Bb < n₀) (hA : ∀ ad, ao = some ad → xs ≠ [] → ad.block < n₀ ∨ S ad.block) (J Jx : List (Nat × Nat) → World → Prop)
  (hY : ∀ pre x W, J pre W → pre.length < (d8 xs).length → YieldAt Fence.wide (n - 1) Tryz.prog l (a5x x) W fun e W' =>
   (e = .returned (.bool true) ∧ J (pre ++ [x]) W' ∧ Kp n₀ S W W') ∨ (e = .returned (.bool false) ∧ Jx (pre ++ [x]) W'))
  (W : World) (hBb : W.cell? ⟨Bb, 0, none⟩ = some (.slice ao xs.length ca)) (hc : Cells W ao xs) (h0 : J [] W) :
  CallsIn Fence.wide n Tryz.prog 213 #[.func (.yield l) #[] #[], .pointer (some ⟨Bb, 0, none⟩)] W fun e W' => (∃ v, e = .returned v) ∧
   ((∃ ys, ys = k6 0 (d8 xs) ∧ J ys W') ∨ (∃ pre, pre <+: k6 0 (d8 xs) ∧ Jx pre W')) := by
 have HH : Hid ((d8 xs).length = xs.length / 2) := a2p xs
 have HC : Hid (Cells W ao xs) := hc
 clear hc
 have hq : (xs.length : Int) / 2 = (((d8 xs).length : Nat) : Int) := by have := HH.out; omega
 refine callsIn_of_wp Tryz.func213 rfl trivial ?_ rfl
 simp only [Tryz.ntmps213, List.size_toArray, List.length_cons, List.length_nil, Nat.reduceAdd, Nat.reduceSub, Array.replicate_succ, Array.replicate_zero, List.push_toArray, List.append_toArray, List.nil_append, List.cons_append]
 gi_wp2
 gi_loopw [9] (fun i wr => ∃ k : Nat, k ≤ (d8 xs).length ∧ i = .int .i64 k ∧ J (k6 0 ((d8 xs).take k)) wr ∧ Hid (Cells wr ao xs) ∧ wr.cell? ⟨Bb, 0, none⟩ = some (.slice ao xs.length ca)) (fun i _ => (d8 xs).length - (intOf i).toNat)
 case atStart => exact ⟨0, Nat.zero_le _, rfl, h0, HC, hBb⟩
 case round =>
  clear h0 hBb HC
  obtain ⟨k, hk, rfl, hJs, HCr, hb⟩ := hrel
  by_cases hlt : k < (d8 xs).length
  ·have hki : (k : Int) < (((d8 xs).length : Nat) : Int) := by omega
   have CG := a5J ao ca xs (2 * (k : Int)) 2 wr HCr.out (by omega)
   rw [a8j xs k hlt] at CG
   generalize okB xs.length (2 * (k : Int)) 2 = ok at *
   have HT : Hid (k6 0 ((d8 xs).take k) ++ [(k, (d8 xs)[k])] = k6 0 ((d8 xs).take (k + 1))) := by
    show _ = _
    rw [List.take_succ_eq_append_getElem hlt, a4x, List.length_take, Nat.min_eq_left hk, Nat.zero_add]
    rfl
   have HP : Hid (k6 0 ((d8 xs).take (k + 1)) <+: k6 0 (d8 xs)) := by
    refine ⟨k6 (0 + ((d8 xs).take (k + 1)).length) ((d8 xs).drop (k + 1)), ?_⟩
    rw [← a4x, List.take_append_drop]
   obtain ⟨fn, tmps, assign, body, hy, hR⟩ := hY _ (k, (d8 xs)[k]) wr hJs (by rw [a2j, List.length_take]; omega)
   rw [HT.out] at hR
   dsimp only [a5x] at hy
   generalize (d8 xs)[k] = g at *
   clear HT
   gi_wp2_with (refine ⟨trivial, ?_⟩; gi_at_call 214; refine (callsIn_wide.2 CG).mono ?_; rintro e w1 ⟨rfl, rfl⟩)
   refine hR.mono ?_
   clear CG hy hR
   rintro e W3 (⟨rfl, hJ3, hk3⟩ | ⟨rfl, hJx3⟩)
   ·have hb3 := hk3.cell (a := ⟨Bb, 0, none⟩) (hS.elim .inr .inl) hb
    have HC3 : Hid (Cells W3 ao xs) := hk3.cells hA HCr.out
    clear hb HCr hJs
    gi_wp2
    go_roundw
    case rel => exact ⟨k + 1, by omega, by simp, hJ3, HC3, hb3⟩
    case measure => simp [intOf]; omega
   ·gi_wp2
    refine bodyPost_ret (results_none rfl _ _ _) rfl ?_
    exact ⟨⟨_, rfl⟩, .inr ⟨_, HP.out, hJx3⟩⟩
  ·obtain rfl : k = (d8 xs).length := by omega
   rw [List.take_length] at hJs
   gi_wp2
   go_end0
   exact ⟨⟨_, rfl⟩, .inl ⟨_, rfl, hJs⟩⟩
theorem aI6 (n : Nat) (hn : 1 ≤ n) (Bb n₀ : Nat) (S : Nat → Prop) (ao : Option Addr) (ca : Nat) (xs : List UInt8) (hs : xs.length ≤ 1048576) (hS : S Bb ∨ Bb < n₀) (hA : ∀ ad, ao = some ad → xs ≠ [] → ad.block < n₀ ∨ S ad.block) (w : World) (hBb : w.cell? ⟨Bb, 0, none⟩ = some (.slice ao xs.length ca)) (hc : Cells w ao xs) :
  SeqStopsK Fence.wide n Tryz.prog 213 #[.pointer (some ⟨Bb, 0, none⟩)] a5x (Kp n₀ S) (fun ys => ys = k6 0 (d8 xs)) (fun pre => pre <+: k6 0 (d8 xs)) (d8 xs).length w := fun l J Jx W hW _ _ hY h0 => by
 have lt : ∀ {a : Addr} {v : Value}, w.cell? a = some v → a.block < w.heap.size := fun {a v} h => by
  by_cases hb : a.block < w.heap.size
  ·exact hb
  ·unfold World.cell? at h
   rw [Array.getElem?_eq_none (by omega)] at h
   simp at h
 refine aI3 n hn l Bb n₀ S ao ca xs hs hS hA J Jx hY W ((hW.cell (p := ⟨Bb, 0, none⟩) (lt hBb)).trans hBb) ?_ h0
 exact ⟨hc.1, fun ad had i hi => by
  have h := hc.2 ad had i hi
  exact (hW.cell (p := ad.add i) (lt h)).trans h⟩

open Go.RowKit Go.Shelf

attribute [local go_sem] Oper.semAt_some
abbrev a5y (p : Nat × UInt16) : Array Value := #[.int .i64 (p.1 : Int), .int .u32 (p.2.toNat : Int)]
def U1 (gs : List Nat) : List (Nat × UInt16) := (k6 0 gs).map fun p => (p.1, UInt16.ofNat p.2)
theorem aG0 (gs : List Nat) : (U1 gs).length = gs.length := by rw [U1, List.length_map, a2j]
theorem a97 (gs : List Nat) (g : Nat) : U1 (gs ++ [g]) = U1 gs ++ [(gs.length, UInt16.ofNat g)] := by
 unfold U1
 rw [a4x, List.map_append, Nat.zero_add]
 rfl
theorem aG1 {a b : List Nat} (h : a <+: b) : U1 a <+: U1 b := by
 obtain ⟨t, rfl⟩ := h
 refine ⟨(k6 (0 + a.length) t).map fun p => (p.1, UInt16.ofNat p.2), ?_⟩
 unfold U1
 rw [a4x, List.map_append]
theorem aI4 (n : Nat) (hn : 1 ≤ n) (l Bb n₀ : Nat) (S : Nat → Prop) (ao : Option Addr) (ca : Nat) (xs : List UInt8) (hs : xs.length ≤ 1048576) (hS : S Bb ∨ Bb < n₀) (hA : ∀ ad, ao = some ad → xs ≠ [] → ad.block < n₀ ∨ S ad.block) (J Jx : List (Nat × UInt16) → World → Prop)
  (hY : ∀ pre x W, J pre W → pre.length < (d8 xs).length → YieldAt Fence.wide (n - 1) Tryz.prog l (a5y x) W fun e W' =>
   (e = .returned (.bool true) ∧ J (pre ++ [x]) W' ∧ Kp n₀ S W W') ∨ (e = .returned (.bool false) ∧ Jx (pre ++ [x]) W'))
  (W : World) (hBb : W.cell? ⟨Bb, 0, none⟩ = some (.slice ao xs.length ca)) (hc : Cells W ao xs) (h0 : J [] W) :
  CallsIn Fence.wide n Tryz.prog 213 #[.func (.yield l) #[] #[], .pointer (some ⟨Bb, 0, none⟩)] W fun e W' => (∃ v, e = .returned v) ∧
   ((∃ ys, ys = U1 (d8 xs) ∧ J ys W') ∨ (∃ pre, pre <+: U1 (d8 xs) ∧ Jx pre W')) := by
 have HH : Hid ((d8 xs).length = xs.length / 2) := a2p xs
 have HC : Hid (Cells W ao xs) := hc
 clear hc
 have hq : (xs.length : Int) / 2 = (((d8 xs).length : Nat) : Int) := by have := HH.out; omega
 refine callsIn_of_wp Tryz.func213 rfl trivial ?_ rfl
 simp only [Tryz.ntmps213, List.size_toArray, List.length_cons, List.length_nil, Nat.reduceAdd, Nat.reduceSub, Array.replicate_succ, Array.replicate_zero, List.push_toArray, List.append_toArray, List.nil_append, List.cons_append]
 gi_wp2
 gi_loopw [9] (fun i wr => ∃ k : Nat, k ≤ (d8 xs).length ∧ i = .int .i64 k ∧ J (U1 ((d8 xs).take k)) wr ∧ Hid (Cells wr ao xs) ∧ wr.cell? ⟨Bb, 0, none⟩ = some (.slice ao xs.length ca)) (fun i _ => (d8 xs).length - (intOf i).toNat)
 case atStart => exact ⟨0, Nat.zero_le _, rfl, h0, HC, hBb⟩
 case round =>
  clear h0 hBb HC
  obtain ⟨k, hk, rfl, hJs, HCr, hb⟩ := hrel
  by_cases hlt : k < (d8 xs).length
  ·have hki : (k : Int) < (((d8 xs).length : Nat) : Int) := by omega
   have CG := a5J ao ca xs (2 * (k : Int)) 2 wr HCr.out (by omega)
   rw [a8j xs k hlt] at CG
   generalize okB xs.length (2 * (k : Int)) 2 = ok at *
   have HT : Hid (U1 ((d8 xs).take k) ++ [(k, UInt16.ofNat (d8 xs)[k])] = U1 ((d8 xs).take (k + 1))) := by
    show _ = _
    rw [List.take_succ_eq_append_getElem hlt, a97, List.length_take, Nat.min_eq_left hk]
   have HP : Hid (U1 ((d8 xs).take (k + 1)) <+: U1 (d8 xs)) := by
    exact aG1 (List.take_prefix _ _)
   obtain ⟨fn, tmps, assign, body, hy, hR⟩ := hY _ (k, UInt16.ofNat (d8 xs)[k]) wr hJs (by rw [aG0, List.length_take]; omega)
   rw [HT.out] at hR
   dsimp only [a5y] at hy
   rw [UInt16.toNat_ofNat_of_lt' (a9m xs _ (List.getElem_mem hlt))] at hy
   generalize (d8 xs)[k] = g at *
   clear HT
   gi_wp2_with (refine ⟨trivial, ?_⟩; gi_at_call 214; refine (callsIn_wide.2 CG).mono ?_; rintro e w1 ⟨rfl, rfl⟩)
   refine hR.mono ?_
   clear CG hy hR
   rintro e W3 (⟨rfl, hJ3, hk3⟩ | ⟨rfl, hJx3⟩)
   ·have hb3 := hk3.cell (a := ⟨Bb, 0, none⟩) (hS.elim .inr .inl) hb
    have HC3 : Hid (Cells W3 ao xs) := hk3.cells hA HCr.out
    clear hb HCr hJs
    gi_wp2
    go_roundw
    case rel => exact ⟨k + 1, by omega, by simp, hJ3, HC3, hb3⟩
    case measure => simp [intOf]; omega
   ·gi_wp2
    refine bodyPost_ret (results_none rfl _ _ _) rfl ?_
    exact ⟨⟨_, rfl⟩, .inr ⟨_, HP.out, hJx3⟩⟩
  ·obtain rfl : k = (d8 xs).length := by omega
   rw [List.take_length] at hJs
   gi_wp2
   go_end0
   exact ⟨⟨_, rfl⟩, .inl ⟨_, rfl, hJs⟩⟩
theorem aI5 (n : Nat) (hn : 1 ≤ n) (Bb n₀ : Nat) (S : Nat → Prop) (ao : Option Addr) (ca : Nat) (xs : List UInt8) (hs : xs.length ≤ 1048576) (hS : S Bb ∨ Bb < n₀) (hA : ∀ ad, ao = some ad → xs ≠ [] → ad.block < n₀ ∨ S ad.block) (w : World) (hBb : w.cell? ⟨Bb, 0, none⟩ = some (.slice ao xs.length ca)) (hc : Cells w ao xs) :
  SeqStopsK Fence.wide n Tryz.prog 213 #[.pointer (some ⟨Bb, 0, none⟩)] a5y (Kp n₀ S) (fun ys => ys = U1 (d8 xs)) (fun pre => pre <+: U1 (d8 xs)) (d8 xs).length w := fun l J Jx W hW _ _ hY h0 => by
 have lt : ∀ {a : Addr} {v : Value}, w.cell? a = some v → a.block < w.heap.size := fun {a v} h => by
  by_cases hb : a.block < w.heap.size
  ·exact hb
  ·unfold World.cell? at h
   rw [Array.getElem?_eq_none (by omega)] at h
   simp at h
 refine aI4 n hn l Bb n₀ S ao ca xs hs hS hA J Jx hY W ((hW.cell (p := ⟨Bb, 0, none⟩) (lt hBb)).trans hBb) ?_ h0
 exact ⟨hc.1, fun ad had i hi => by
  have h := hc.2 ad had i hi
  exact (hW.cell (p := ad.add i) (lt h)).trans h⟩

end Go.Proofs.YtklipelnjgpnjaaGreatDoor
