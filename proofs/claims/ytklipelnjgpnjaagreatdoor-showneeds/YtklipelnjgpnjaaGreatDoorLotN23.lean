import Derived.Test.YtklipelnjgpnjaaGreatDoorLotN10
import Derived.Test.YtklipelnjgpnjaaGreatDoorLotN22
import Derived.Test.YtklipelnjgpnjaaGreatDoorLotN7
import Derived.Test.YtklipelnjgpnjaaGreatDoorLotN5
import Derived.BigQuiet
import Derived.Test.YtklipelnjgpnjaaGreatDoorLotN4
import Derived.Deep.DeepCutAuto
import Derived.Deep.CutBlock
namespace Go.Proofs.YtklipelnjgpnjaaGreatDoor
open Go.RowKit
set_option maxRecDepth 100000
theorem a6K {W : World} {g t k : Nat} {cs xs : Array Value} (h : VAt W g t cs) (hk : g ≠ k) : VAt (W.setRow k xs) g t cs := by
 unfold VAt at *
 rw [a6L _ _ _ _ hk]
 exact h
structure NW (w W : World) (B : Nat) (x : Ng) : Prop where
 nb : NB W B x
 res : VAt W (B + 1) 112 (pqC pt0).toArray
 up : w.grownBy W none
 base : w.heap.size ≤ B
theorem NW.kept {w W W' : World} {B : Nat} {x : Ng} (h : NW w W B x) (K : W.grownBy W' none) : NW w W' B x := ⟨h.nb.kept K, h.res.kept K, d3 h.up K, h.base⟩
theorem NW.alloc (w : World) (x : Ng) : NW w ((w.alloc (.cells x.cells.toArray 43)).alloc (.cells (pqC pt0).toArray 112)) w.heap.size x := by
 have K := World.grownBy_alloc (w.alloc (.cells x.cells.toArray 43)) (.cells (pqC pt0).toArray 112) none
 have h := VAt.alloc (w.alloc (.cells x.cells.toArray 43)) 112 (pqC pt0).toArray
 rw [show (w.alloc (.cells x.cells.toArray 43)).heap.size = w.heap.size + 1 by simp] at h
 exact ⟨(NB.alloc w x).kept K, h, d3 (World.grownBy_alloc w _ none) K, Nat.le_refl _⟩
structure NO (w W : World) (B O : Nat) (x : Ng) (q : Pt) : Prop where
 nw : NW w W B x
 out : VAt W O 112 (pqC q).toArray
 lo : B + 1 < O
theorem b06 {W : World} {g t k i : Nat} {cs : Array Value} (h : VAt W g t cs) (u : Value) (hk : g ≠ k) : VAt (W.setCell ⟨k, i, none⟩ u) g t cs := by
 unfold VAt at *
 simp only [World.setCell, Array.getElem?_modify, if_neg (Ne.symm hk)]
 exact h
theorem NO.set {w W : World} {B O : Nat} {x : Ng} {q r : Pt} (h : NO w W B O x q) (j : Nat) (v : Value) (e : (pqC q).toArray.setIfInBounds j v = (pqC r).toArray) : NO w (W.setCell ⟨O, j, none⟩ v) B O x r := by
 have hlo := h.lo
 refine ⟨⟨a94 h.nw.nb (by omega), b06 h.nw.res v (by omega), N8 h.nw.up _ _ (.inr (by have := h.nw.base; show w.heap.size ≤ O; omega)), h.nw.base⟩, ?_, hlo⟩
 have := VAt.set h.out j v
 rw [e] at this
 exact this
theorem NO.kept {w W W' : World} {B O : Nat} {x : Ng} {q : Pt} (h : NO w W B O x q) (K : W.grownBy W' none) : NO w W' B O x q := ⟨h.nw.kept K, h.out.kept K, h.lo⟩
theorem NW.put {w W : World} {B : Nat} {x : Ng} (h : NW w W B x) (q : Pt) : VAt (((W.setCell ⟨B + 1, 0, none⟩ (.bool q.truth)).setCell ⟨B + 1, 1, none⟩ (.bool q.fixed)).setCell ⟨B + 1, 2, none⟩ (.int .u32 (q.val : Int))) (B + 1) 112 (pqC q).toArray ∧ w.grownBy (((W.setCell ⟨B + 1, 0, none⟩ (.bool q.truth)).setCell ⟨B + 1, 1, none⟩ (.bool q.fixed)).setCell ⟨B + 1, 2, none⟩ (.int .u32 (q.val : Int))) none := by
 have hb := h.base
 exact ⟨VAt.set (VAt.set (VAt.set h.res 0 (.bool q.truth)) 1 (.bool q.fixed)) 2 (.int .u32 (q.val : Int)), N8 (N8 (N8 h.up _ _ (.inr (by show w.heap.size ≤ B + 1; omega))) _ _ (.inr (by show w.heap.size ≤ B + 1; omega))) _ _ (.inr (by show w.heap.size ≤ B + 1; omega))⟩
end Go.Proofs.YtklipelnjgpnjaaGreatDoor
