import Derived.Test.YtklipelnjgpnjaaGreatDoorLotA16
import Derived.Deep.RegionHeld3
import Derived.Test.YtklipelnjgpnjaaGreatDoorLotA12
import Derived.Test.YtklipelnjgpnjaaGreatDoorLotA8
import Derived.Test.YtklipelnjgpnjaaGreatDoorLotA10
import Derived.Test.YtklipelnjgpnjaaGreatDoorLotA14
namespace Go.Proofs.YtklipelnjgpnjaaGreatDoor
open Go.RowKit
set_option maxRecDepth 100000
def BW (w W : World) (B : Nat) (y : Ng) : Prop := NB W B y ∧ NB W (B + 1) ngZ ∧ w.grownBy W none
theorem nb_other {W : World} {B C j : Nat} {x : Ng} {v : Value} (h : NB W B x) (hk : B ≠ C) : NB (W.setCell ⟨C, j, none⟩ v) B x := by
 unfold NB VAt at *
 simp only [World.setCell, Array.getElem?_modify, if_neg (Ne.symm hk)]
 exact h
theorem BW.set {w W : World} {B : Nat} {y z : Ng} (h : BW w W B y) (hB : w.heap.size ≤ B) (j : Nat) (v : Value) (e : y.cells.toArray.setIfInBounds j v = z.cells.toArray) : BW w (W.setCell ⟨B, j, none⟩ v) B z := by
 refine ⟨?_, nb_other h.2.1 (by omega), grown_setCell h.2.2 _ _ (.inr hB)⟩
 have := VAt.set h.1 j v
 rw [e] at this
 exact this
theorem BW.kept {w W W' : World} {B : Nat} {y : Ng} (h : BW w W B y) (K : W.grownBy W' none) : BW w W' B y := ⟨h.1.kept K, h.2.1.kept K, grown_trans h.2.2 K⟩
structure Tx where
 s : List UInt8
 row : Int
 deep : Nat
def Tx.cells (x : Tx) : List Value := [str x.s, .int .i64 x.row, .int .i64 (x.deep : Int)]
end Go.Proofs.YtklipelnjgpnjaaGreatDoor
