/-
  What is read of an argument that is a list of blocks.
-/
import Derived.Test.YtencoknpocipbaaGreatLotP42
import Derived.Test.YtencoknpocipbaaGreatLotP12
import Derived.Deep.Slices
import Derived.SizedLaws
namespace Go.Proofs.YtencoknpocipbaaGreat
open Go.ChangeShapes Go.WideShapes Go.ChangeAt Go.RowKit
set_option maxRecDepth 100000

theorem cellsInt : Tryz.prog.cellsOf 3 = 1 := by kernel_rfl
theorem cellsIns : Tryz.prog.cellsOf 24 = 1 := by kernel_rfl
theorem cellsBk : Tryz.prog.cellsOf 56 = 8 := by kernel_rfl
theorem bytesBk : Tryz.prog.bytesOf 56 = 56 := by kernel_rfl

/-- What is said of a list of instructions by its datum. -/
def DatI {H : Type} (d : DataW H) (xs : List In) : Prop := (d = .nil ∧ xs = []) ∨ ∃ elems spare, d = .slice elems spare ∧ xs.length ≤ elems.length + spare.length

theorem block_cells {H : Type} {enc : TypeId × Value → H} {W : World} {fuel : Nat} {cs : List Value} {x : DataW H × List MemPlace} (h : DataW.trod enc Tryz.prog W 0 (fun _ => true) true fuel 56 cs = some x) :
    ∃ y : Bv, cs = y.cells ∧ BOk W y ∧ ∃ parts d, x.1 = .agg parts ∧ parts[0]? = some d ∧ DatI d y.b.code := by
  obtain ⟨ys, n, _, rfl, hl, hlen, hf⟩ := DataW.trod_struct Tryz.underlying56 h
  rw [cellsBk] at hl
  match cs, hl with
  | [c0, c1, c2, c3, c4, c5, c6, c7], _ =>
    match ys, hlen with
    | [y0, y1, y2, y3, y4], _ =>
      have f0 : DataW.trod enc Tryz.prog W 0 (fun _ => true) true n 24 (([c0, c1, c2, c3, c4, c5, c6, c7].drop 0).take (Tryz.prog.cellsOf 24)) = some y0 := hf 0 _ rfl
      have f1 : DataW.trod enc Tryz.prog W 0 (fun _ => true) true n 3 (([c0, c1, c2, c3, c4, c5, c6, c7].drop 1).take (Tryz.prog.cellsOf 3)) = some y1 := hf 1 _ rfl
      have f2 : DataW.trod enc Tryz.prog W 0 (fun _ => true) true n 54 (([c0, c1, c2, c3, c4, c5, c6, c7].drop 2).take (Tryz.prog.cellsOf 54)) = some y2 := hf 2 _ rfl
      have f3 : DataW.trod enc Tryz.prog W 0 (fun _ => true) true n 3 (([c0, c1, c2, c3, c4, c5, c6, c7].drop 6).take (Tryz.prog.cellsOf 3)) = some y3 := hf 3 _ rfl
      have f4 : DataW.trod enc Tryz.prog W 0 (fun _ => true) true n 3 (([c0, c1, c2, c3, c4, c5, c6, c7].drop 7).take (Tryz.prog.cellsOf 3)) = some y4 := hf 4 _ rfl
      rw [cellsIns] at f0
      rw [cellsInt] at f1 f3 f4
      rw [cells54] at f2
      obtain ⟨n1, e1, _, w1⟩ := DataW.trod_int Tryz.underlying3 f1
      obtain ⟨n3, e3, _, w3⟩ := DataW.trod_int Tryz.underlying3 f3
      obtain ⟨n4, e4, _, w4⟩ := DataW.trod_int Tryz.underlying3 f4
      have e2 := insn_cells f2
      simp at e1 e3 e4 e2 f0
      obtain ⟨a, l, c, rfl⟩ : ∃ a l c, c0 = .slice a l c := by
        rcases Go.Deep.open_slice Tryz.underlying24 f0 with ⟨hcs, _⟩ | ⟨x, l, c, m, n, D, Pl, hcs, _⟩
        · simp only [List.cons.injEq, and_true] at hcs
          exact ⟨_, _, _, hcs⟩
        · simp only [List.cons.injEq, and_true] at hcs
          exact ⟨_, _, _, hcs⟩
      obtain ⟨xs, rfl, hcv, hnil, hcp, hdat⟩ := open_insns (d := y0.1) (ps := y0.2) (a := a) (len := l) (cap := c) ⟨n, by simpa [Value.cells] using f0⟩
      refine ⟨⟨⟨xs, n1, inOf [c2, c3, c4, c5], n3, n4⟩, a, c⟩, ?_, ⟨hcv, hcp.1, hnil⟩, _, y0.1, rfl, rfl, hdat⟩
      generalize inOf [c2, c3, c4, c5] = z at *
      simp only [In.cells, List.cons.injEq, and_true] at e2
      obtain ⟨rfl, rfl, rfl, rfl⟩ := e2
      subst e1 e3 e4
      rfl

/-- A list of blocks that is handed in. -/
theorem open_blocks {H : Type} {enc : TypeId × Value → H} {W : World} {d : DataW H} {ps : List MemPlace} {a : Option Addr} {len cap : Nat}
    (h : DataW.Trod enc Tryz.prog W 0 (fun _ => true) true 22 (.slice a len cap) d ps) :
    ∃ xs : List Bv, len = xs.length ∧ GC W a xs ∧ (a = none → cap = 0) ∧ (xs.length ≤ cap ∧ cap ≤ maxLen) ∧ ((d = .nil ∧ xs = []) ∨ ∃ elems spare, d = .slice elems spare ∧ xs.length ≤ elems.length + spare.length ∧ ∀ y ∈ xs, ∃ e ∈ elems, ∃ parts dd, e = .agg parts ∧ parts[0]? = some dd ∧ DatI dd y.b.code) := by
  obtain ⟨fuel, hf⟩ := h
  rcases Go.Deep.open_slice Tryz.underlying22 hf with ⟨hcs, hx⟩ | ⟨x, l, c, m, n, D, Pl, hcs, _, hl, hm, hmm, hx, hcell⟩
  · simp [Value.cells] at hcs
    obtain ⟨rfl, rfl, rfl⟩ := hcs
    simp only [Prod.mk.injEq] at hx
    exact ⟨[], rfl, ⟨⟨fun _ => rfl, fun ad had => (by cases had)⟩, fun y hy => (by cases hy)⟩, fun _ => rfl, ⟨Nat.le_refl _, Nat.zero_le _⟩, .inl ⟨hx.1, rfl⟩⟩
  · simp [Value.cells] at hcs
    obtain ⟨rfl, rfl, rfl⟩ := hcs
    simp only [Prod.mk.injEq] at hx
    simp only [if_true] at hmm
    have hmm' : m = cap := hmm
    rw [cellsBk] at hcell
    have hex : ∀ i, i < len → ∃ y : Bv, W.cells? 0 (x.add (i * 8)) 8 = some y.cells ∧ BOk W y ∧ ∃ parts d, D i = .agg parts ∧ parts[0]? = some d ∧ DatI d y.b.code := fun i hi => by
      obtain ⟨cs', hcs', htr⟩ := hcell i (by omega)
      obtain ⟨y, hy, hok, hd⟩ := block_cells htr
      exact ⟨y, by rw [hcs', hy], hok, hd⟩
    haveI : Inhabited Bv := ⟨⟨bk0, none, 0⟩⟩
    obtain ⟨F, hF⟩ := Go.Deep.choose_lt hex
    have hlen : ((List.range len).map F).length = len := by simp
    refine ⟨(List.range len).map F, hlen.symm, ⟨⟨fun h => (by cases h), fun ad had q hq => ?_⟩, fun y hy => ?_⟩, fun h => (by cases h), ⟨by rw [hlen]; exact hl, hm⟩, .inr ⟨_, _, hx.1, ?_, fun y hy => ?_⟩⟩
    · obtain rfl := Option.some.inj had
      have hq8 : q < len * 8 := by rw [flatB_len, hlen] at hq; exact hq
      obtain ⟨_, hl8, hget⟩ := World.cells?_some (hF (q / 8) (by omega)).1
      have hj : q % 8 < 8 := Nat.mod_lt _ (by decide)
      have e1 : (x.add (q / 8 * 8)).add (q % 8) = x.add q := by
        rw [Addr.add_add]
        congr 1
        omega
      have e2 := hget (q % 8) hj
      rw [e1] at e2
      rw [e2]
      have e3 := flatB_get ((List.range len).map F) (q / 8) (q % 8) (by rw [hlen]; omega) hj
      rw [show q / 8 * 8 + q % 8 = q by omega, List.getElem?_eq_getElem hq] at e3
      rw [e3]
      simp only [List.getElem_map, List.getElem_range]
    · obtain ⟨i, hi, rfl⟩ := List.mem_map.1 hy
      exact (hF i (List.mem_range.1 hi)).2.1
    · rw [hlen]
      simp
    · obtain ⟨i, hi, rfl⟩ := List.mem_map.1 hy
      exact ⟨D i, List.mem_map.2 ⟨i, hi, rfl⟩, (hF i (List.mem_range.1 hi)).2.2⟩

theorem weights_all_memB {H : Type} {P : Program} {e : TypeId} : ∀ {l : List (DataW H)} {d : DataW H}, d ∈ l → ∀ n ∈ d.weights P e, n ∈ DataW.weightsAll P e l
  | d0 :: r, d, hd, n, hn => by
    simp only [DataW.weightsAll, List.mem_append]
    rcases List.mem_cons.1 hd with rfl | h
    · exact .inl hn
    · exact .inr (weights_all_memB h n hn)

/-- How great it is. -/
theorem sized_blocks {H : Type} {ts : List TypeId} {ds : List (DataW H)} (h : (DataW.weightsEach Tryz.prog ts ds).all (· ≤ reachBytes) = true) {j : Nat} {d : DataW H} {xs : List Bv} (ht : ts[j]? = some 22) (hd : ds[j]? = some d)
    (hx : (d = .nil ∧ xs = []) ∨ ∃ elems spare, d = .slice elems spare ∧ xs.length ≤ elems.length + spare.length ∧ ∀ y ∈ xs, ∃ e ∈ elems, ∃ parts dd, e = .agg parts ∧ parts[0]? = some dd ∧ DatI dd y.b.code) : xs.length * 56 ≤ 140737488351232 ∧ ∀ y ∈ xs, y.b.code.length * 8 ≤ 140737488351232 := by
  rcases hx with ⟨_, rfl⟩ | ⟨elems, spare, rfl, hle, hp⟩
  · simp
  · have hw : ∀ n ∈ (DataW.slice elems spare : DataW H).weights Tryz.prog 22, n ≤ reachBytes := fun n hn => by
      have := List.all_eq_true.1 h _ (DataW.weights_mem_each ht hd n hn)
      simpa using this
    simp only [DataW.weights, Tryz.underlying22, List.mem_cons, List.mem_append] at hw
    constructor
    · have := hw _ (.inl rfl)
      rw [bytesBk] at this
      unfold reachBytes at this
      omega
    · intro y hy
      obtain ⟨e, he, parts, dd, rfl, h0, hdat⟩ := hp y hy
      rcases hdat with ⟨_, h00⟩ | ⟨el, sp, rfl, hl⟩
      · rw [h00]; simp
      · have hm : (el.length + sp.length) * Tryz.prog.bytesOf 54 ∈ (DataW.agg parts : DataW H).weights Tryz.prog 56 := by
          simp only [DataW.weights, Tryz.underlying56]
          refine DataW.weights_mem_each (j := 0) rfl h0 _ ?_
          simp [DataW.weights, Tryz.underlying24]
        have := hw _ (.inr (.inl (weights_all_memB he _ hm)))
        rw [bytes54] at this
        unfold reachBytes at this
        omega

end Go.Proofs.YtencoknpocipbaaGreat
