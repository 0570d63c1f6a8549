/-
  What the rows' list of variables gives: the table of powers of ten, that of last ones; a world in which the list holds.
-/
import Derived.Test.YtbklagdegnflgaaDoorCards
import Derived.Test.YtbklagdegnflgaaDoorTie
import Derived.Test.YtbklagdegnflgaaDoorTab6
import Derived.Test.YtbklagdegnflgaaDoorOpen
import Derived.Deep.DeepHandedRow
import Derived.Lib.LaidTab
import Derived.Stop.LaidErr
import Derived.Shelf.Vars
namespace Go.Proofs.YtbklagdegnflgaaDoor
open Go.ChangeShapes Go.WideShapes Go.ChangeAt Go.RowKit
set_option maxRecDepth 100000

def laidL : List (String × DataW Unit) := [("math/bits.deBruijn32tab", Rows.laid_math_bits_deBruijn32tab), ("math/bits.deBruijn64tab", Rows.laid_math_bits_deBruijn64tab), ("internal/strconv.uint64pow10", Rows.laid_internal_strconv_uint64pow10)]

theorem tab_type : (Tryd.prog.globals[0]?).map (·.type) = some 101 := by kernel_rfl
theorem tab_cells : Tryd.prog.cellsOf 101 = 20 := by kernel_rfl
theorem tab_cell : Tryd.prog.cellsOf 55 = 1 := by kernel_rfl
theorem tab_data : (Rows.laid_internal_strconv_uint64pow10 : DataW Unit) = Lib.tabData .u64 Lib.pow10Tab := by kernel_rfl

/-- Bytes as cells; the powers of ten as cells. -/
def cellsB (zs : List Int) : Array Value := (zs.map fun z => Value.int .u8 z).toArray
def cellsP : Array Value := (Lib.pow10Tab.map fun z => Value.int .u64 z).toArray
def litsOf : DataW Unit → List Int
  | .agg ds => ds.map fun | .lit (.int _ z) => z | _ => 0
  | _ => []

theorem last_global : Tryd.prog.globalNamed "math/bits.deBruijn64tab" = some 3 := by kernel_rfl
theorem last_type : (Tryd.prog.globals[3]?).map (·.type) = some 112 := by kernel_rfl
theorem last_cells : Tryd.prog.cellsOf 112 = 64 := by kernel_rfl
theorem last_cell : Tryd.prog.cellsOf 5 = 1 := by kernel_rfl
theorem last_data : (Rows.laid_math_bits_deBruijn64tab : DataW Unit) = Lib.tabData .u8 (litsOf Rows.laid_math_bits_deBruijn64tab) := by kernel_rfl
theorem last_at : (litsOf Rows.laid_math_bits_deBruijn64tab).getD 15 0 = 4 ∧ 15 < (litsOf Rows.laid_math_bits_deBruijn64tab).length := by decide +kernel

theorem laid_tab {W : World} (h : laidMetH Tryd.prog laidL W) (hsh : W.ShapedOpen Tryd.prog) : Tab W := by
  have h1 : laidMet Tryd.prog laidL W := h
  refine ⟨?_, ?_, ?_⟩
  · have h2 := h1.tail.tail
    rw [tab_data] at h2
    exact Lib.tabIs_of_head tab_global tab_type Tryd.underlying101 Tryd.underlying55 tab_cell tab_cells h2
  · have h2 := h1.tail
    rw [last_data] at h2
    have h3 := Lib.tabIs_of_head last_global last_type Tryd.underlying112 Tryd.underlying5 last_cell last_cells h2
    have h4 := h3.cell last_global 15 last_at.2
    rw [last_at.1] at h4
    exact h4
  · exact cell_of_shapedOpen_int (zero := #[.int .i64 0]) (t := 3) hsh (of_decide_eq_true (by kernel_rfl)) (by kernel_rfl) rfl (by kernel_rfl) (by kernel_rfl) Tryd.underlying3

def setB (cs : Array Value) : Obj → Obj
  | .cells _ t frozen => .cells cs t frozen
  | o => o
noncomputable def laidWorld (os : Os) : World :=
  { World.holding Tryd.prog os ⟨#[], #[], []⟩ with heap := (((World.holding Tryd.prog os ⟨#[], #[], []⟩).heap.modify 0 (setB cellsP)).modify 2 (setB (cellsB (litsOf Rows.laid_math_bits_deBruijn32tab)))).modify 3 (setB (cellsB (litsOf Rows.laid_math_bits_deBruijn64tab))) }
theorem laid_met (os : Os) (args : Array Value) : laidMet Tryd.prog laidL ((laidWorld os).forCall (fun _ _ => 0) ⟨#[], args, []⟩).memory :=
  laidMet_of_run' 8 (by kernel_rfl) (by kernel_rfl)

end Go.Proofs.YtbklagdegnflgaaDoor
