/-
  What the rows' list of variables gives: the signs, the two errors; a world in which the list holds. What the rows' list of variables gives a seat that reaches package parse.
-/
import Derived.Test.YtbdmpjnlgdahmaaGreatDoorCards
import Derived.Test.YtbdmpjnlgdahmaaGreatDoorTie
import Derived.Test.YtbdmpjnlgdahmaaGreatDoorLotP15
import Derived.Test.YtbdmpjnlgdahmaaGreatDoorLotP49
import Derived.Deep.DeepHandedRow
import Derived.Deep.DeepWitnessRowRef
import Derived.Stop.LaidErr
import Derived.SliceStrings
import Derived.Lay
import Derived.Test.YtbdmpjnlgdahmaaGreatDoorLotP47
namespace Go.Proofs.YtbdmpjnlgdahmaaGreatDoor
open Go.ChangeShapes Go.WideShapes Go.ChangeAt Go.RowKit
set_option maxRecDepth 100000

def laidL : List (String × DataW Unit) := [("math/bits.deBruijn32tab", Rows.laid_math_bits_deBruijn32tab), ("math/bits.deBruijn64tab", Rows.laid_math_bits_deBruijn64tab), ("internal/strconv.uint64pow10", Rows.laid_internal_strconv_uint64pow10), ("strconv.ErrRange", Rows.laid_strconv_ErrRange), ("strconv.ErrSyntax", Rows.laid_strconv_ErrSyntax), ("riddle/lex.signs", Rows.laid_riddle_lex_signs)]

theorem sg_global : Tryz.prog.globalNamed "riddle/lex.signs" = some 0 := by kernel_rfl
theorem sg_type : (Tryz.prog.globals[0]?).map (·.type) = some 43 := by kernel_rfl
theorem sg_cells : Tryz.prog.cellsOf 9 = 1 := by kernel_rfl
theorem es_global : Tryz.prog.globalNamed "strconv.ErrSyntax" = some 1 := by kernel_rfl
theorem es_type : (Tryz.prog.globals[1]?).map (·.type) = some 103 := by kernel_rfl
theorem er_global : Tryz.prog.globalNamed "strconv.ErrRange" = some 2 := by kernel_rfl
theorem er_type : (Tryz.prog.globals[2]?).map (·.type) = some 103 := by kernel_rfl

theorem sg_data : (Rows.laid_riddle_lex_signs : DataW Unit) = .slice (signsL.map fun l => .lit (.string l)) [] := by kernel_rfl

theorem iface_at {W : World} {n nm : String} {d : DataW Unit} {r : List (String × DataW Unit)} {g : Nat} (h : laidMet Tryz.prog ((n, .iface nm d) :: r) W) (hg : Tryz.prog.globalNamed n = some g) (ht : (Tryz.prog.globals[g]?).map (·.type) = some 103) :
    ∃ t v, W.cell? ⟨g, 0, none⟩ = some (.iface t v) := by
  obtain ⟨ps, ⟨g', t', cs, fuel, p, q, hg', ht', hv, hd, _, _⟩, _⟩ := h
  obtain rfl := Option.some.inj (hg.symm.trans hg')
  obtain rfl := Option.some.inj (ht.symm.trans ht')
  obtain ⟨l⟩ := cs
  obtain ⟨f1, u, v, hl, -, -⟩ := iface_of_trod Tryz.underlying103 hd
  simp only at hl
  subst hl
  exact ⟨u, v, by simpa using World.var?_cell hg hv 0⟩

theorem signs_at {W : World} {r : List (String × DataW Unit)} (h : laidMet Tryz.prog (("riddle/lex.signs", Rows.laid_riddle_lex_signs) :: r) W) :
    ∃ ao cap, W.cell? ⟨0, 0, none⟩ = some (.slice ao 25 cap) ∧ CV W ao (signsL.map str) := by
  obtain ⟨ps, ⟨g', t', cs, fuel, p, q, hg', ht', hv, hd, _, _⟩, _⟩ := h
  obtain rfl := Option.some.inj (sg_global.symm.trans hg')
  obtain rfl := Option.some.inj (sg_type.symm.trans ht')
  obtain ⟨l⟩ := cs
  rw [sg_data] at hd
  have hlen : signsL.length = 25 := rfl
  rcases open_strings Tryz.underlying43 Tryz.underlying9 sg_cells hd with ⟨_, hx⟩ | ⟨a, len, cap, ss, hcs, _, hl, hm, hz, hx, hcell, hsz⟩
  · simp at hx
  · simp only at hcs
    subst hcs
    simp only [Prod.mk.injEq, DataW.slice.injEq] at hx
    have h1 := hx.1.1
    have hll : len = 25 := by
      have := congrArg List.length h1
      have hle : len ≤ ss.length := by rw [hz]; split <;> omega
      simp [strs, hlen] at this
      omega
    subst hll
    have hle : 25 ≤ ss.length := by rw [hz]; split <;> omega
    refine ⟨some a, cap, by simpa using World.var?_cell sg_global hv 0, fun h => (by cases h), fun ad had i hi => ?_⟩
    obtain rfl := Option.some.inj had
    rw [List.length_map, hlen] at hi
    have hc := hcell i (by omega)
    rw [hc]
    have h2 := congrArg (·[i]?) h1
    simp only [strs, List.getElem?_map, List.getElem?_take] at h2
    rw [if_pos hi, List.getElem?_eq_getElem (by omega : i < ss.length), List.getElem?_eq_getElem (by rw [hlen]; exact hi)] at h2
    simp only [Option.map_some, Option.some.injEq, DataW.lit.injEq, Lit.string.injEq] at h2
    rw [List.getElem_map, List.getD_eq_getElem?_getD, List.getElem?_eq_getElem (by omega : i < ss.length), Option.getD_some, h2, str]

theorem laid_tab {W : World} (h : laidMetH Tryz.prog laidL W) (_ : W.ShapedOpen Tryz.prog) : Tab W := by
  have h1 : laidMet Tryz.prog laidL W := h
  have h2 := h1.tail.tail.tail
  have h3 := h2.tail
  have h4 := h3.tail
  exact ⟨signs_at h4, iface_at h3 es_global es_type, iface_at h2 er_global er_type⟩

noncomputable def laidWorld (os : Os) : World := World.laidAll Tryz.prog os laidL
theorem laid_met (os : Os) (args : Array Value) : laidMet Tryz.prog laidL ((laidWorld os).forCall (fun _ _ => 0) ⟨#[], args, []⟩).memory :=
  laidMet_laidAll args (by kernel_rfl) (by kernel_rfl)

end Go.Proofs.YtbdmpjnlgdahmaaGreatDoor

namespace Go.Proofs.YtbdmpjnlgdahmaaGreatDoor
open Go.ChangeShapes Go.WideShapes Go.ChangeAt Go.RowKit
set_option maxRecDepth 100000

theorem laid_tabB {W : World} (h : laidMetH Tryz.prog laidL W) (hsh : W.ShapedOpen Tryz.prog) : TabB W :=
  ⟨laid_tab h hsh, cell_of_shapedOpen_int (zero := #[.int .i64 0]) (t := 3) hsh (of_decide_eq_true (by kernel_rfl)) (by kernel_rfl) rfl (by kernel_rfl) (by kernel_rfl) Tryz.underlying3⟩

end Go.Proofs.YtbdmpjnlgdahmaaGreatDoor
