import Derived.Test.YtklipelnjgpnjaaGreatDoorNShO9
import Derived.Deep.DeepCutAuto
namespace Go.Proofs.YtklipelnjgpnjaaGreatDoor
open Go.RowKit
set_option maxRecDepth 100000
structure OA (w W : World) (B : Nat) (x : Ng) (Va : Nat) (qa : Tx) : Prop where
 ow : OW w W B x
 va : VAt W Va 47 qa.cells.toArray
 lo : B + 1 < Va
theorem OA.kept {w W W' : World} {B : Nat} {x : Ng} {Va : Nat} {qa : Tx} (h : OA w W B x Va qa) (K : W.grownBy W' none) : OA w W' B x Va qa := ⟨h.ow.kept K, h.va.kept K, h.lo⟩
theorem OA.setRow {w W : World} {B V : Nat} {x : Ng} {Va : Nat} {qa : Tx} {Y : Array Value} (h : OA w W B x Va qa) (hV : B + 1 < V ∧ Va < V) : OA w (W.setRow V Y) B x Va qa := ⟨h.ow.setRow hV.1, a6K h.va (by omega), h.lo⟩
theorem OA.lt {w W : World} {B : Nat} {x : Ng} {Va : Nat} {qa : Tx} (h : OA w W B x Va qa) : B + 1 < W.heap.size ∧ Va < W.heap.size := ⟨h.ow.lt, h.va.lt⟩
structure OB (w W : World) (B : Nat) (x : Ng) (Va Vb : Nat) (qa qb : Tx) : Prop where
 oa : OA w W B x Va qa
 vb : VAt W Vb 47 qb.cells.toArray
 lob : B + 1 < Vb
theorem OB.kept {w W W' : World} {B : Nat} {x : Ng} {Va Vb : Nat} {qa qb : Tx} (h : OB w W B x Va Vb qa qb) (K : W.grownBy W' none) : OB w W' B x Va Vb qa qb := ⟨h.oa.kept K, h.vb.kept K, h.lob⟩

end Go.Proofs.YtklipelnjgpnjaaGreatDoor
