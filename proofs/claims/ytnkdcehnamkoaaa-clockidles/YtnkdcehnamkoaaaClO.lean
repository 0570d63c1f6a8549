/-
  Arguments that are lists of ints.
-/
import Derived.Test.YtnkdcehnamkoaaaOpen
import Derived.Test.YtnkdcehnamkoaaaIntR
import Derived.Deep.Slices
import Derived.SizedLaws
namespace Go.Proofs.Ytnkdcehnamkoaaa
open Go.ChangeShapes Go.WideShapes Go.ChangeAt Go.RowKit
set_option maxRecDepth 100000

theorem bytes3 : Try.prog.bytesOf 3 = 8 := by kernel_rfl

theorem open_intl {H : Type} {enc : TypeId × Value → H} {P : Program} {W : World} {t e : TypeId} {d : DataW H} {ps : List MemPlace} {a : Option Addr} {len cap : Nat}
    (ht : P.underlying t = some (.slice e)) (he : P.underlying e = some (.int .i64)) (hc : P.cellsOf e = 1)
    (h : DataW.Trod enc P W 0 (fun _ => true) true t (.slice a len cap) d ps) :
    ∃ zs : List Int, len = zs.length ∧ CV W a (zs.map (Value.int .i64)) ∧ (a = none → cap = 0) ∧ ((d = .nil ∧ zs = []) ∨ ∃ elems spare, d = .slice elems spare ∧ zs.length ≤ elems.length + spare.length) := by
  obtain ⟨fuel, hf⟩ := h
  rcases open_ints ht he hc hf with ⟨hcs, hx⟩ | ⟨x, l, c, zs, hcs, _, hl, hm, hz, hx, hcell, hwz⟩
  · simp [Value.cells] at hcs
    obtain ⟨rfl, rfl, rfl⟩ := hcs
    simp only [Prod.mk.injEq] at hx
    exact ⟨[], rfl, ⟨fun _ => rfl, fun ad had => (by cases had)⟩, fun _ => rfl, .inl ⟨hx.1, rfl⟩⟩
  · simp [Value.cells] at hcs
    obtain ⟨rfl, rfl, rfl⟩ := hcs
    simp only [Prod.mk.injEq] at hx
    have hz' : zs.length = cap := by simpa using hz
    have hlen : (zs.take len).length = len := by simp; omega
    refine ⟨zs.take len, hlen.symm, ⟨fun h => (by cases h), fun ad had i hi => ?_⟩, fun h => (by cases h), .inr ⟨_, _, hx.1, ?_⟩⟩
    · obtain rfl := Option.some.inj had
      rw [List.length_map, hlen] at hi
      have hiz : i < zs.length := by omega
      rw [hcell i hiz]
      simp only [List.getD_eq_getElem?_getD, List.getElem?_eq_getElem hiz, Option.getD_some, List.getElem_map, List.getElem_take]
    · rw [hlen]
      simp [lits]
      omega

end Go.Proofs.Ytnkdcehnamkoaaa
