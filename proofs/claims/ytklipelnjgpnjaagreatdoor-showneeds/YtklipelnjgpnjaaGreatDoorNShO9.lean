import Derived.Test.YtklipelnjgpnjaaGreatDoorLotN11
import Derived.Test.YtklipelnjgpnjaaGreatDoorLotN23
namespace Go.Proofs.YtklipelnjgpnjaaGreatDoor
open Go.RowKit
set_option maxRecDepth 100000
theorem OW.setRow {w W : World} {B V : Nat} {x : Ng} {Y : Array Value} (h : OW w W B x) (hV : B + 1 < V) : OW w (W.setRow V Y) B x := by
 have hb := h.base
 exact ⟨a6K h.nb (by omega), a6K h.res (by omega), x5 h.up V _ (.inr (by omega)), h.base⟩
theorem OW.lt {w W : World} {B : Nat} {x : Ng} (h : OW w W B x) : B + 1 < W.heap.size := by
 have := h.res
 unfold VAt at this
 exact (Array.getElem?_eq_some_iff.1 this).1

end Go.Proofs.YtklipelnjgpnjaaGreatDoor
