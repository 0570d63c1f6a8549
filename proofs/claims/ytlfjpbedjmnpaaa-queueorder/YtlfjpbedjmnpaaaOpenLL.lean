/-
  What is read of an argument that is a list of lists of bytes.
-/
import Derived.Test.YtlfjpbedjmnpaaaOpen
import Derived.Test.YtlfjpbedjmnpaaaJoin
import Derived.Deep.Slices
namespace Go.Proofs.Ytlfjpbedjmnpaaa
open Go.ChangeShapes Go.WideShapes Go.ChangeAt Go.RowKit
set_option maxRecDepth 100000

theorem cellsB8 : Try.prog.cellsOf 5 = 1 := by kernel_rfl
theorem cellsB1 : Try.prog.cellsOf 35 = 1 := by kernel_rfl
theorem bytesB8 : Try.prog.bytesOf 5 = 1 := by kernel_rfl
theorem bytesB1 : Try.prog.bytesOf 35 = 24 := by kernel_rfl
def DatIs9 {H : Type} (d : DataW H) (xs : List UInt8) : Prop := (d = .nil ∧ xs = []) ∨ ∃ elems spare, d = .slice elems spare ∧ xs.length ≤ elems.length + spare.length

/-- One list of bytes, in a cell. -/
theorem open_part {H : Type} {enc : TypeId × Value → H} {W : World} {fuel : Nat} {v : Value} {x : DataW H × List MemPlace}
    (h : DataW.trod enc Try.prog W 0 (fun _ => true) true fuel 35 [v] = some x) : ∃ p : Part, p.v = v ∧ p.ok W ∧ p.bs.length ≤ p.cap ∧ DatIs9 x.1 p.bs := by
  rcases open_ints Try.underlying35 Try.underlying5 cellsB8 h with ⟨hcs, hx⟩ | ⟨ad, l, c, zs, hcs, _, hl, hm, hz, hx, hcell, hwz⟩
  · simp only [List.cons.injEq, and_true] at hcs
    subst hcs
    exact ⟨⟨none, 0, []⟩, rfl, ⟨⟨fun _ => rfl, fun ad had => (by cases had)⟩, fun _ => rfl⟩, Nat.le_refl _, .inl ⟨by rw [hx], rfl⟩⟩
  · simp only [List.cons.injEq, and_true] at hcs
    subst hcs
    have hz' : zs.length = c := by simpa using hz
    have hlen : ((zs.take l).map fun z => UInt8.ofNat z.toNat).length = l := by simp; omega
    refine ⟨⟨some ad, c, (zs.take l).map fun z => UInt8.ofNat z.toNat⟩, ?_, ⟨⟨fun h => (by cases h), fun ad' had i hi => ?_⟩, fun h => (by cases h)⟩, ?_, .inr ⟨_, _, by rw [hx], ?_⟩⟩
    · simp only [Part.v, hlen]
    · obtain rfl := Option.some.inj had
      simp only at hi
      rw [hlen] at hi
      have hiz : i < zs.length := by omega
      rw [hcell i hiz]
      have hw := bounds_u8 (hwz (zs[i]) (List.getElem_mem hiz))
      simp only [List.getD_eq_getElem?_getD, List.getElem?_eq_getElem hiz, Option.getD_some, List.getElem_map, List.getElem_take, bv]
      congr 2
      simp
      omega
    · simp only [hlen]
      exact hl
    · simp only [hlen]
      simp [lits]
      omega

/-- A list of lists of bytes that is handed in. -/
theorem open_lists {H : Type} {enc : TypeId × Value → H} {W : World} {d : DataW H} {ps : List MemPlace} {a : Option Addr} {len cap : Nat}
    (h : DataW.Trod enc Try.prog W 0 (fun _ => true) true 45 (.slice a len cap) d ps) :
    ∃ qs : List Part, len = qs.length ∧ CV W a (qs.map Part.v) ∧ (a = none → cap = 0) ∧ (∀ p ∈ qs, p.ok W ∧ p.bs.length ≤ p.cap) ∧ ((d = .nil ∧ qs = []) ∨ ∃ elems spare, d = .slice elems spare ∧ qs.length ≤ elems.length + spare.length ∧ ∀ p ∈ qs, ∃ e ∈ elems, DatIs9 e p.bs) := by
  obtain ⟨fuel, hf⟩ := h
  rcases Go.Deep.open_slice1 Try.underlying45 cellsB1 hf with ⟨hcs, hx⟩ | ⟨x, l, c, m, n, V, D, Pl, hcs, _, hl, hm, hmm, hx, hcell⟩
  · simp [Value.cells] at hcs
    obtain ⟨rfl, rfl, rfl⟩ := hcs
    simp only [Prod.mk.injEq] at hx
    exact ⟨[], rfl, ⟨fun _ => rfl, fun ad had => (by cases had)⟩, fun _ => rfl, fun p hp => (by cases hp), .inl ⟨hx.1, rfl⟩⟩
  · simp [Value.cells] at hcs
    obtain ⟨rfl, rfl, rfl⟩ := hcs
    simp only [Prod.mk.injEq] at hx
    simp only [if_true] at hmm
    have hlm : len ≤ m := by omega
    have hex : ∀ i, i < len → ∃ p : Part, p.v = V i ∧ p.ok W ∧ p.bs.length ≤ p.cap ∧ DatIs9 (D i) p.bs := fun i hi => open_part (hcell i (by omega)).2
    haveI : Inhabited Part := ⟨⟨none, 0, []⟩⟩
    obtain ⟨F, hF⟩ := Go.Deep.choose_lt hex
    have hml : ((List.range len).map F).length = len := by simp
    refine ⟨(List.range len).map F, hml.symm, ⟨fun h => (by cases h), fun ad had i hi => ?_⟩, fun h => (by cases h), fun p hp => ?_, .inr ⟨_, _, hx.1, ?_, fun p hp => ?_⟩⟩
    · obtain rfl := Option.some.inj had
      have hi' : i < len := by simpa using hi
      rw [(hcell i (by omega)).1]
      simp [(hF i hi').1]
    · obtain ⟨i, hi, rfl⟩ := List.mem_map.1 hp
      have := hF i (List.mem_range.1 hi)
      exact ⟨this.2.1, this.2.2.1⟩
    · simp
    · obtain ⟨i, hi, rfl⟩ := List.mem_map.1 hp
      exact ⟨D i, List.mem_map.2 ⟨i, hi, rfl⟩, (hF i (List.mem_range.1 hi)).2.2.2⟩

theorem weights_all_mem {H : Type} {P : Program} {e : TypeId} : ∀ {l : List (DataW H)} {d : DataW H}, d ∈ l → ∀ n ∈ d.weights P e, n ∈ DataW.weightsAll P e l
  | d0 :: r, d, hd, n, hn => by
    simp only [DataW.weightsAll, List.mem_append]
    rcases List.mem_cons.1 hd with rfl | h
    · exact .inl hn
    · exact .inr (weights_all_mem h n hn)

/-- How great it is. -/
theorem sized_lists {H : Type} {ts : List TypeId} {ds : List (DataW H)} (h : (DataW.weightsEach Try.prog ts ds).all (· ≤ reachBytes) = true) {j : Nat} {d : DataW H} {qs : List Part} (ht : ts[j]? = some 45) (hd : ds[j]? = some d)
    (hx : (d = .nil ∧ qs = []) ∨ ∃ elems spare, d = .slice elems spare ∧ qs.length ≤ elems.length + spare.length ∧ ∀ p ∈ qs, ∃ e ∈ elems, DatIs9 e p.bs) : qs.length * 24 ≤ 140737488351232 ∧ ∀ p ∈ qs, p.bs.length ≤ 140737488351232 := by
  rcases hx with ⟨_, rfl⟩ | ⟨elems, spare, rfl, hle, hp⟩
  · simp
  · have hw : ∀ n ∈ (DataW.slice elems spare : DataW H).weights Try.prog 45, n ≤ reachBytes := fun n hn => by
      have := List.all_eq_true.1 h _ (DataW.weights_mem_each ht hd n hn)
      simpa using this
    simp only [DataW.weights, Try.underlying45, List.mem_cons, List.mem_append] at hw
    constructor
    · have := hw _ (.inl rfl)
      rw [bytesB1] at this
      unfold reachBytes at this
      omega
    · intro p hp'
      obtain ⟨e, he, hd'⟩ := hp p hp'
      rcases hd' with ⟨_, h0⟩ | ⟨el, sp, rfl, hl⟩
      · rw [h0]; simp
      · have := hw ((el.length + sp.length) * Try.prog.bytesOf 5) (.inr (.inl (weights_all_mem he _ (by simp [DataW.weights, Try.underlying35]))))
        rw [bytesB8] at this
        unfold reachBytes at this
        omega

end Go.Proofs.Ytlfjpbedjmnpaaa
