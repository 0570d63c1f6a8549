import Derived.Test.YtklipelnjgpnjaaGreatDoorLotB3
import Derived.Deep.RegionHeld3
import Derived.Test.YtklipelnjgpnjaaGreatDoorLotB10
import Derived.Test.YtklipelnjgpnjaaGreatDoorLotB7
import Derived.Test.YtklipelnjgpnjaaGreatDoorLotB9
import Derived.Test.YtklipelnjgpnjaaGreatDoorLotB13
import Derived.Test.YtklipelnjgpnjaaGreatDoorLotB14
import Derived.Laws.CopyOwn
namespace Go.Proofs.YtklipelnjgpnjaaGreatDoor
open Go.RowKit
set_option maxRecDepth 100000
def BW (w W : World) (B : Nat) (y : Ng) : Prop := NB W B y ∧ NB W (B + 1) ngZ ∧ w.grownBy W none
theorem a9u {W : World} {B C j : Nat} {x : Ng} {v : Value} (h : NB W B x) (hk : B ≠ C) : NB (W.setCell ⟨C, j, none⟩ v) B x := by
 unfold NB VAt at *
 simp only [World.setCell, Array.getElem?_modify, if_neg (Ne.symm hk)]
 exact h
theorem BW.set {w W : World} {B : Nat} {y z : Ng} (h : BW w W B y) (hB : w.heap.size ≤ B) (j : Nat) (v : Value) (e : y.cells.toArray.setIfInBounds j v = z.cells.toArray) : BW w (W.setCell ⟨B, j, none⟩ v) B z := by
 refine ⟨?_, a9u h.2.1 (by omega), T2 h.2.2 _ _ (.inr hB)⟩
 have := VAt.set h.1 j v
 rw [e] at this
 exact this
theorem BW.kept {w W W' : World} {B : Nat} {y : Ng} (h : BW w W B y) (K : W.grownBy W' none) : BW w W' B y := ⟨h.1.kept K, h.2.1.kept K, d3 h.2.2 K⟩
structure Tx where
 s : List UInt8
 row : Int
 deep : Nat
def Tx.cells (x : Tx) : List Value := [str x.s, .int .i64 x.row, .int .i64 (x.deep : Int)]
theorem aX8 (ys : List UInt8) (h : ys.length = 4) : splice (List.replicate 4 (.int .u8 0 : Value)) 0 (ys.map bv) = ys.map bv := by
 unfold splice
 rw [List.take_zero, List.nil_append, Nat.zero_add, List.length_map, h, List.drop_eq_nil_of_le (by simp), List.append_nil]

end Go.Proofs.YtklipelnjgpnjaaGreatDoor
