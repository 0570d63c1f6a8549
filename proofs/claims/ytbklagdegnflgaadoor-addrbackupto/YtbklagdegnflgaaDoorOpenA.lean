/-
  What is read of an argument that is an array of bytes.
-/
import Derived.Test.YtbklagdegnflgaaDoorOpen
import Derived.Test.YtbklagdegnflgaaDoorAddrQ
import Derived.Deep.Slices
import Derived.OpenShut
namespace Go.Proofs.YtbklagdegnflgaaDoor
open Go.ChangeShapes Go.WideShapes Go.ChangeAt Go.RowKit
set_option maxRecDepth 100000

/-- The byte that a cell is. -/
def byteC : Value → UInt8
  | .int _ a => UInt8.ofNat a.toNat
  | _ => 0

theorem cellsU8 : Tryd.prog.cellsOf 5 = 1 := by kernel_rfl

theorem arr_cells {H : Type} {enc : TypeId × Value → H} {W : World} {base : Nat} {spare : Nat → Bool} {held : Bool} {fuel : Nat} {cs : List Value} {x : DataW H × List MemPlace} {t n : Nat} (hu : Tryd.prog.underlying t = some (.array n 5)) (hc : Tryd.prog.cellsOf t = n)
    (h : DataW.trod enc Tryd.prog W base spare held fuel t cs = some x) : cs.length = n ∧ cs = (cs.map byteC).map bv := by
  obtain ⟨ys, m, _, rfl, hl, hlen, hf⟩ := DataW.trod_array hu h
  rw [hc] at hl
  refine ⟨hl, ?_⟩
  apply List.ext_getElem
  · simp
  · intro i h1 h2
    have hi : i < n := by omega
    have f := hf i hi
    rw [cellsU8, List.getElem?_eq_getElem (by omega), Nat.mul_one, List.drop_eq_getElem_cons h1, List.take_succ_cons, List.take_zero] at f
    obtain ⟨k, e, _, w⟩ := DataW.trod_int Tryd.underlying5 f
    simp only [List.cons.injEq, and_true] at e
    have b := bounds_u8 w
    simp only [List.getElem_map]
    rw [e]
    have z : ((UInt8.ofNat k.toNat).toNat : Int) = k := by simp; omega
    simp only [byteC, bv, z]

theorem open_arr {H : Type} {enc : TypeId × Value → H} {W : World} {d : DataW H} {ps : List MemPlace} {v : Value} {t n : Nat} (hu : Tryd.prog.underlying t = some (.array n 5)) (hc : Tryd.prog.cellsOf t = n) (hn : 1 < n)
    (h : DataW.Trod enc Tryd.prog W 0 (fun _ => true) true t v d ps) : ∃ xs : List UInt8, xs.length = n ∧ v = .agg (xs.map bv).toArray := by
  obtain ⟨fuel, hf⟩ := h
  obtain ⟨h1, h2⟩ := arr_cells hu hc hf
  refine ⟨v.cells.toList.map byteC, by rw [List.length_map]; exact h1, ?_⟩
  cases v with
  | agg cs =>
    rw [← h2]
    simp [Value.cells]
  | _ => simp [Value.cells] at h1; omega

end Go.Proofs.YtbklagdegnflgaaDoor
