/-
  What the rows' list of variables gives: the table of powers of ten; a world in which the list holds.
-/
import Derived.Test.YtcapmbeabfhjoaaDoorCards
import Derived.Test.YtcapmbeabfhjoaaDoorTie
import Derived.Test.YtcapmbeabfhjoaaDoorAsmT
import Derived.Test.YtcapmbeabfhjoaaDoorOpen
import Derived.Deep.DeepHandedRow
import Derived.Lib.LaidTab
import Derived.Stop.LaidErr
namespace Go.Proofs.YtcapmbeabfhjoaaDoor
open Go.ChangeShapes Go.WideShapes Go.ChangeAt Go.RowKit
set_option maxRecDepth 100000

def laidL : List (String × DataW Unit) := [("math/bits.deBruijn32tab", Rows.laid_math_bits_deBruijn32tab), ("math/bits.deBruijn64tab", Rows.laid_math_bits_deBruijn64tab), ("internal/strconv.uint64pow10", Rows.laid_internal_strconv_uint64pow10)]

theorem tab_type : (Tryd.prog.globals[1]?).map (·.type) = some 108 := by kernel_rfl
theorem tab_cells : Tryd.prog.cellsOf 108 = 20 := by kernel_rfl
theorem tab_cell : Tryd.prog.cellsOf 77 = 1 := by kernel_rfl
theorem tab_data : (Rows.laid_internal_strconv_uint64pow10 : DataW Unit) = Lib.tabData .u64 Lib.pow10Tab := by kernel_rfl

theorem laid_tab {W : World} (h : laidMetH Tryd.prog laidL W) : Tab W := by
  have h1 : laidMet Tryd.prog laidL W := h
  have h2 := h1.tail.tail
  rw [tab_data] at h2
  exact Lib.tabIs_of_head tab_global tab_type Tryd.underlying108 Tryd.underlying77 tab_cell tab_cells h2

/-- Bytes as cells; the powers of ten as cells. -/
def cellsB (zs : List Int) : Array Value := (zs.map fun z => Value.int .u8 z).toArray
def cellsP : Array Value := (Lib.pow10Tab.map fun z => Value.int .u64 z).toArray
def litsOf : DataW Unit → List Int
  | .agg ds => ds.map fun | .lit (.int _ z) => z | _ => 0
  | _ => []
def setB (cs : Array Value) : Obj → Obj
  | .cells _ t frozen => .cells cs t frozen
  | o => o
noncomputable def laidWorld (os : Os) : World :=
  { World.holding Tryd.prog os ⟨#[], #[], []⟩ with heap := (((World.holding Tryd.prog os ⟨#[], #[], []⟩).heap.modify 1 (setB cellsP)).modify 2 (setB (cellsB (litsOf Rows.laid_math_bits_deBruijn32tab)))).modify 3 (setB (cellsB (litsOf Rows.laid_math_bits_deBruijn64tab))) }
theorem laid_met (os : Os) (args : Array Value) : laidMet Tryd.prog laidL ((laidWorld os).forCall (fun _ _ => 0) ⟨#[], args, []⟩).memory :=
  laidMet_of_run' 8 (by kernel_rfl) (by kernel_rfl)

end Go.Proofs.YtcapmbeabfhjoaaDoor
