/-
  Package asm writes: the table, Line, Print.
-/
import Derived.Test.YtcapmbeabfhjoaaDoorAsmA
namespace Go.Proofs.YtcapmbeabfhjoaaDoor
open Go.RowKit
set_option maxRecDepth 100000

def fCells : List Value := fText.flatMap fun r => [.int .u16 (r.1 : Int), str r.2]
/-- The table lies in block b. -/
def KnownAt (w : World) (b : Nat) : Prop := w.heap[b]? = some (.cells fCells.toArray 67 (0, 0))
theorem KnownAt.ap {w w' : World} {B b : Nat} (h : KnownAt w b) (A : Ap B w w') : KnownAt w' b := A.heap h (by decide)
theorem KnownAt.lt {w : World} {b : Nat} (h : KnownAt w b) : b < w.heap.size := by
  unfold KnownAt at h
  by_cases hb : b < w.heap.size
  · exact hb
  · rw [Array.getElem?_eq_none (by omega)] at h; cases h
theorem KnownAt.grown {w w' : World} {b : Nat} (h : KnownAt w b) (G : w.grownBy w' none) : KnownAt w' b := by
  have := G.block b h.lt (by simp)
  unfold KnownAt at *
  rw [this, h]

set_option maxHeartbeats 1000000 in
theorem forms_any (w : World) :
    Calls Tryd.prog 23 #[] w fun e w' => e = .returned (.slice (some ⟨w.heap.size, 0, none⟩) 49 49) ∧ KnownAt w' w.heap.size ∧ w.grownBy w' none := by
  go_enter Tryd.func23, Tryd.ntmps23
  go_wp2
  go_ret
  exact ⟨rfl, heap_alloc_new w _, World.grownBy_alloc _ _ _⟩

end Go.Proofs.YtcapmbeabfhjoaaDoor
