import Derived.Test.YtghbbephhoniaaaGreatDoorLotP10
import Derived.Test.YtghbbephhoniaaaGreatDoorLotP20
namespace Go.Proofs.YtghbbephhoniaaaGreatDoor
open Go.RowKit
set_option maxRecDepth 100000
theorem step_store_rowX {P : Program} {ops : Array Oper} {o : Oper} {a : Act} {w : World} {K : Act → World → Prop} {Q : Exit → Act → World → Prop} {E : Prop}
  (hgd : o.guard = none) (ty : TypeId) (x y : Operand) (ho : o.op = .store ty x y) (g : Nat) (cells : Array Value) (hx : a.eval x = .pointer (some ⟨g, 0, none⟩)) (hy : a.eval y = .agg cells) (t : TypeId) (old : Array Value) (A : VAt w g t old)
  (hi : (P.info? ty).map (·.size) = some cells.size) (hold : old.size = cells.size) (h1 : cells.all (·.oneCell') = true) (hK : K (a.put o.dst undef) (w.setRow g cells)) :
  if Region.wanted o (yielded ops a.tmps) = true then Oper.wp P o a w K Q else E := step_store_rowT hgd ty x y ho g cells hx hy t old A hi hold h1 hK
theorem OW.setRow {w W : World} {B V : Nat} {x : Ng} {Y : Array Value} (h : OW w W B x) (hV : B + 1 < V) : OW w (W.setRow V Y) B x := by
 have hb := h.base
 exact ⟨vat_setRow h.nb (by omega), vat_setRow h.res (by omega), vgrown_setRow h.up V _ (.inr (by omega)), h.base⟩
theorem OW.lt {w W : World} {B : Nat} {x : Ng} (h : OW w W B x) : B + 1 < W.heap.size := by
 have := h.res
 unfold VAt at this
 exact (Array.getElem?_eq_some_iff.1 this).1

end Go.Proofs.YtghbbephhoniaaaGreatDoor
