/-
  Arguments that are lists of lists of bytes, and lists of ints: what is read of them, and how much the second form counts.
-/
import Derived.Test.YtlfjpbedjmnpaaaOpenLL
namespace Go.Proofs.Ytlfjpbedjmnpaaa
open Go.ChangeShapes Go.WideShapes Go.ChangeAt Go.RowKit
set_option maxRecDepth 100000

/-- A list of lists of bytes that is handed in, place by place. -/
theorem open_listsU {H : Type} {enc : TypeId × Value → H} {W : World} {d : DataW H} {ps : List MemPlace} {a : Option Addr} {len cap : Nat}
    (h : DataW.Trod enc Try.prog W 0 (fun _ => true) true 45 (.slice a len cap) d ps) :
    ∃ qs : List Part, len = qs.length ∧ CV W a (qs.map Part.v) ∧ (a = none → cap = 0) ∧ (∀ p ∈ qs, p.ok W ∧ p.bs.length ≤ p.cap) ∧ ((d = .nil ∧ qs = []) ∨ ∃ (D : Nat → DataW H) (spare : List (DataW H)) (F : Nat → Part), d = .slice ((List.range len).map D) spare ∧ qs = (List.range len).map F ∧ ∀ i, i < len → DatIs9 (D i) (F i).bs) := by
  obtain ⟨fuel, hf⟩ := h
  rcases Go.Deep.open_slice1 Try.underlying45 cellsB1 hf with ⟨hcs, hx⟩ | ⟨x, l, c, m, n, V, D, Pl, hcs, _, hl, hm, hmm, hx, hcell⟩
  · simp [Value.cells] at hcs
    obtain ⟨rfl, rfl, rfl⟩ := hcs
    simp only [Prod.mk.injEq] at hx
    exact ⟨[], rfl, ⟨fun _ => rfl, fun ad had => (by cases had)⟩, fun _ => rfl, fun p hp => (by cases hp), .inl ⟨hx.1, rfl⟩⟩
  · simp [Value.cells] at hcs
    obtain ⟨rfl, rfl, rfl⟩ := hcs
    simp only [Prod.mk.injEq] at hx
    simp only [if_true] at hmm
    have hlm : len ≤ m := by omega
    have hex : ∀ i, i < len → ∃ p : Part, p.v = V i ∧ p.ok W ∧ p.bs.length ≤ p.cap ∧ DatIs9 (D i) p.bs := fun i hi => open_part (hcell i (by omega)).2
    haveI : Inhabited Part := ⟨⟨none, 0, []⟩⟩
    obtain ⟨F, hF⟩ := Go.Deep.choose_lt hex
    have hml : ((List.range len).map F).length = len := by simp
    refine ⟨(List.range len).map F, hml.symm, ⟨fun h => (by cases h), fun ad had i hi => ?_⟩, fun h => (by cases h), fun p hp => ?_, .inr ⟨D, _, F, hx.1, rfl, fun i hi => (hF i hi).2.2.2⟩⟩
    · obtain rfl := Option.some.inj had
      have hi' : i < len := by simpa using hi
      rw [(hcell i (by omega)).1]
      simp [(hF i hi').1]
    · obtain ⟨i, hi, rfl⟩ := List.mem_map.1 hp
      have := hF i (List.mem_range.1 hi)
      exact ⟨this.2.1, this.2.2.1⟩

theorem bulk_dat {H : Type} {d : DataW H} {xs : List UInt8} (h : DatIs9 d xs) : xs.length + 1 ≤ Rows.uptoBulk d := by
  rcases h with ⟨rfl, rfl⟩ | ⟨el, sp, rfl, hl⟩
  · simp [Rows.uptoBulk]
  · have := bulk_slice el sp
    omega

theorem bulk_map {H : Type} (D : Nat → DataW H) (F : Nat → Part) : ∀ (l : List Nat), (∀ i ∈ l, DatIs9 (D i) (F i).bs) → ((l.map F).map fun p => p.bs.length + 1).sum ≤ Rows.uptoBulkAll (l.map D)
  | [], _ => by simp [Rows.uptoBulkAll]
  | x :: r, h => by
    have h1 := bulk_map D F r (fun i hi => h i (List.mem_cons_of_mem _ hi))
    have h2 := bulk_dat (h x (List.mem_cons_self ..))
    simp only [List.map_cons, List.sum_cons, Rows.uptoBulkAll]
    omega

theorem bulk_lists {H : Type} {d : DataW H} {qs : List Part} {len : Nat} (h : (d = .nil ∧ qs = []) ∨ ∃ (D : Nat → DataW H) (spare : List (DataW H)) (F : Nat → Part), d = .slice ((List.range len).map D) spare ∧ qs = (List.range len).map F ∧ ∀ i, i < len → DatIs9 (D i) (F i).bs) : (qs.map fun p => p.bs.length + 1).sum ≤ Rows.uptoBulk d := by
  rcases h with ⟨rfl, rfl⟩ | ⟨D, spare, F, rfl, rfl, hd⟩
  · simp
  · have := bulk_map D F (List.range len) (fun i hi => hd i (List.mem_range.1 hi))
    rw [Rows.uptoBulk]
    omega

/-- A list of ints that is handed in. -/
theorem open_intl {H : Type} {enc : TypeId × Value → H} {P : Program} {W : World} {t e : TypeId} {d : DataW H} {ps : List MemPlace} {a : Option Addr} {len cap : Nat}
    (ht : P.underlying t = some (.slice e)) (he : P.underlying e = some (.int .i64)) (hc : P.cellsOf e = 1)
    (h : DataW.Trod enc P W 0 (fun _ => true) true t (.slice a len cap) d ps) :
    ∃ zs : List Int, len = zs.length ∧ CV W a (zs.map (Value.int .i64)) ∧ (a = none → cap = 0) ∧ ((d = .nil ∧ zs = []) ∨ ∃ elems spare, d = .slice elems spare ∧ zs.length ≤ elems.length + spare.length) := by
  obtain ⟨fuel, hf⟩ := h
  rcases open_ints ht he hc hf with ⟨hcs, hx⟩ | ⟨x, l, c, zs, hcs, _, hl, hm, hz, hx, hcell, hwz⟩
  · simp [Value.cells] at hcs
    obtain ⟨rfl, rfl, rfl⟩ := hcs
    simp only [Prod.mk.injEq] at hx
    exact ⟨[], rfl, ⟨fun _ => rfl, fun ad had => (by cases had)⟩, fun _ => rfl, .inl ⟨hx.1, rfl⟩⟩
  · simp [Value.cells] at hcs
    obtain ⟨rfl, rfl, rfl⟩ := hcs
    simp only [Prod.mk.injEq] at hx
    have hz' : zs.length = cap := by simpa using hz
    have hlen : (zs.take len).length = len := by simp; omega
    refine ⟨zs.take len, hlen.symm, ⟨fun h => (by cases h), fun ad had i hi => ?_⟩, fun h => (by cases h), .inr ⟨_, _, hx.1, ?_⟩⟩
    · obtain rfl := Option.some.inj had
      rw [List.length_map, hlen] at hi
      have hiz : i < zs.length := by omega
      rw [hcell i hiz]
      simp only [List.getD_eq_getElem?_getD, List.getElem?_eq_getElem hiz, Option.getD_some, List.getElem_map, List.getElem_take]
    · rw [hlen]
      simp [lits]
      omega

end Go.Proofs.Ytlfjpbedjmnpaaa
