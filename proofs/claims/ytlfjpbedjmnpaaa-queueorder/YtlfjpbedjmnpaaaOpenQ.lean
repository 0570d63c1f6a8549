/-
  Arguments that are lists of ints, of bools, of calls.
-/
import Derived.Test.YtlfjpbedjmnpaaaOpenLU
import Derived.Test.YtlfjpbedjmnpaaaQuQ
import Derived.Deep.Slices
import Derived.SizedLaws
namespace Go.Proofs.Ytlfjpbedjmnpaaa
open Go.ChangeShapes Go.WideShapes Go.ChangeAt Go.RowKit
set_option maxRecDepth 100000

theorem bytes3 : Try.prog.bytesOf 3 = 8 := by kernel_rfl
theorem bytes4 : Try.prog.bytesOf 4 = 1 := by kernel_rfl
theorem qcellsInt : Try.prog.cellsOf 3 = 1 := by kernel_rfl
theorem qcellsBool : Try.prog.cellsOf 4 = 1 := by kernel_rfl
theorem qcellsBts : Try.prog.cellsOf 35 = 1 := by kernel_rfl
theorem cellsAct : Try.prog.cellsOf 37 = 3 := by kernel_rfl
theorem bytesAct : Try.prog.bytesOf 37 = 40 := by kernel_rfl

/-- A list of bools that is handed in. -/
theorem open_bools {H : Type} {enc : TypeId × Value → H} {W : World} {d : DataW H} {ps : List MemPlace} {a : Option Addr} {len cap : Nat}
    (h : DataW.Trod enc Try.prog W 0 (fun _ => true) true 39 (.slice a len cap) d ps) :
    ∃ bs : List Bool, len = bs.length ∧ CV W a (bs.map Value.bool) ∧ (a = none → cap = 0) ∧ ((d = .nil ∧ bs = []) ∨ ∃ elems spare, d = .slice elems spare ∧ bs.length ≤ elems.length + spare.length) := by
  obtain ⟨fuel, hf⟩ := h
  rcases Go.Deep.open_slice1 Try.underlying39 qcellsBool hf with ⟨hcs, hx⟩ | ⟨x, l, c, m, n, V, D, Pl, hcs, _, hl, hm, hmm, hx, hcell⟩
  · simp [Value.cells] at hcs
    obtain ⟨rfl, rfl, rfl⟩ := hcs
    simp only [Prod.mk.injEq] at hx
    exact ⟨[], rfl, ⟨fun _ => rfl, fun ad had => (by cases had)⟩, fun _ => rfl, .inl ⟨hx.1, rfl⟩⟩
  · simp [Value.cells] at hcs
    obtain ⟨rfl, rfl, rfl⟩ := hcs
    simp only [Prod.mk.injEq] at hx
    simp only [if_true] at hmm
    have hlm : len ≤ m := by omega
    have hex : ∀ i, i < len → ∃ b : Bool, V i = .bool b := fun i hi => by
      obtain ⟨b, hb, -⟩ := DataW.trod_bool Try.underlying4 (hcell i (by omega)).2
      exact ⟨b, by simpa using hb⟩
    obtain ⟨F, hF⟩ := Go.Deep.choose_lt hex
    have hml : ((List.range len).map F).length = len := by simp
    refine ⟨(List.range len).map F, hml.symm, ⟨fun h => (by cases h), fun ad had i hi => ?_⟩, fun h => (by cases h), .inr ⟨_, _, hx.1, by simp⟩⟩
    obtain rfl := Option.some.inj had
    have hi' : i < len := by simpa using hi
    rw [(hcell i (by omega)).1]
    simp [hF i hi']

/-- A call that is handed in. -/
structure Av where
  kind : Int
  cls : Int
  a : Option Addr
  cap : Nat
  b : List UInt8
def Av.cells (x : Av) : List Value := [.int .i64 x.kind, .int .i64 x.cls, .slice x.a x.b.length x.cap]
def Av.val (x : Av) : Value := .agg x.cells.toArray
def Av.ok (x : Av) (W : World) : Prop := Cells W x.a x.b ∧ (x.a = none → x.cap = 0)
def flatA (xs : List Av) : List Value := xs.flatMap Av.cells
theorem flatA_len (xs : List Av) : (flatA xs).length = xs.length * 3 := by
  induction xs with
  | nil => rfl
  | cons x r ih =>
    simp only [flatA, List.flatMap_cons, List.length_append, List.length_cons] at ih ⊢
    rw [ih]
    simp [Av.cells]
    omega
theorem flatA_get : ∀ (xs : List Av) (k j : Nat) (hk : k < xs.length), j < 3 → (flatA xs)[k * 3 + j]? = xs[k].cells[j]?
  | [], k, j, h, _ => by simp at h
  | x :: r, 0, j, h, hj => by
    simp only [flatA, List.flatMap_cons, Nat.zero_mul, Nat.zero_add]
    exact List.getElem?_append_left (by simp [Av.cells]; omega)
  | x :: r, k + 1, j, h, hj => by
    have := flatA_get r k j (by simpa using h) hj
    simp only [flatA, List.flatMap_cons] at this ⊢
    rw [List.getElem?_append_right (by simp [Av.cells]; omega)]
    simp only [List.getElem_cons_succ]
    rw [← this]
    congr 1
    simp [Av.cells]
    omega

def DatB {H : Type} (d : DataW H) (xs : List UInt8) : Prop := (d = .nil ∧ xs = []) ∨ ∃ elems spare, d = .slice elems spare ∧ xs.length ≤ elems.length + spare.length

theorem act_cells {H : Type} {enc : TypeId × Value → H} {W : World} {fuel : Nat} {cs : List Value} {x : DataW H × List MemPlace} (h : DataW.trod enc Try.prog W 0 (fun _ => true) true fuel 37 cs = some x) :
    ∃ y : Av, cs = y.cells ∧ y.ok W ∧ ∃ parts d, x.1 = .agg parts ∧ parts[2]? = some d ∧ DatB d y.b := by
  obtain ⟨ys, n, _, rfl, hl, hlen, hf⟩ := DataW.trod_struct Try.underlying37 h
  rw [cellsAct] at hl
  match cs, hl with
  | [c0, c1, c2], _ =>
    match ys, hlen with
    | [y0, y1, y2], _ =>
      have f0 : DataW.trod enc Try.prog W 0 (fun _ => true) true n 3 (([c0, c1, c2].drop 0).take (Try.prog.cellsOf 3)) = some y0 := hf 0 _ rfl
      have f1 : DataW.trod enc Try.prog W 0 (fun _ => true) true n 3 (([c0, c1, c2].drop 1).take (Try.prog.cellsOf 3)) = some y1 := hf 1 _ rfl
      have f2 : DataW.trod enc Try.prog W 0 (fun _ => true) true n 35 (([c0, c1, c2].drop 2).take (Try.prog.cellsOf 35)) = some y2 := hf 2 _ rfl
      rw [qcellsInt] at f0 f1
      rw [qcellsBts] at f2
      obtain ⟨n0, e0, _, w0⟩ := DataW.trod_int Try.underlying3 f0
      obtain ⟨n1, e1, _, w1⟩ := DataW.trod_int Try.underlying3 f1
      simp at e0 e1 f2
      obtain ⟨a, l, c, rfl⟩ : ∃ a l c, c2 = .slice a l c := by
        rcases Go.Deep.open_slice Try.underlying35 f2 with ⟨hcs, _⟩ | ⟨x, l, c, m, n, D, Pl, hcs, _⟩
        · simp only [List.cons.injEq, and_true] at hcs
          exact ⟨_, _, _, hcs⟩
        · simp only [List.cons.injEq, and_true] at hcs
          exact ⟨_, _, _, hcs⟩
      obtain ⟨xs, rfl, hcv, hnil, hdat⟩ := open_bytes (d := y2.1) (ps := y2.2) (a := a) (len := l) (cap := c) Try.underlying35 Try.underlying5 (by kernel_rfl) ⟨n, by simpa [Value.cells] using f2⟩
      refine ⟨⟨n0, n1, a, c, xs⟩, ?_, ⟨hcv, hnil⟩, _, y2.1, rfl, rfl, hdat⟩
      subst e0 e1
      rfl

/-- A list of calls that is handed in. -/
theorem open_acts {H : Type} {enc : TypeId × Value → H} {W : World} {d : DataW H} {ps : List MemPlace} {a : Option Addr} {len cap : Nat}
    (h : DataW.Trod enc Try.prog W 0 (fun _ => true) true 23 (.slice a len cap) d ps) :
    ∃ xs : List Av, len = xs.length ∧ CV W a (flatA xs) ∧ (∀ y ∈ xs, y.ok W) ∧ (a = none → cap = 0) ∧ ((d = .nil ∧ xs = []) ∨ ∃ elems spare, d = .slice elems spare ∧ xs.length ≤ elems.length + spare.length ∧ ∀ y ∈ xs, ∃ e ∈ elems, ∃ parts dd, e = .agg parts ∧ parts[2]? = some dd ∧ DatB dd y.b) := by
  obtain ⟨fuel, hf⟩ := h
  rcases Go.Deep.open_slice Try.underlying23 hf with ⟨hcs, hx⟩ | ⟨x, l, c, m, n, D, Pl, hcs, _, hl, hm, hmm, hx, hcell⟩
  · simp [Value.cells] at hcs
    obtain ⟨rfl, rfl, rfl⟩ := hcs
    simp only [Prod.mk.injEq] at hx
    exact ⟨[], rfl, ⟨fun _ => rfl, fun ad had => (by cases had)⟩, fun y hy => (by cases hy), fun _ => rfl, .inl ⟨hx.1, rfl⟩⟩
  · simp [Value.cells] at hcs
    obtain ⟨rfl, rfl, rfl⟩ := hcs
    simp only [Prod.mk.injEq] at hx
    simp only [if_true] at hmm
    have hmm' : m = cap := hmm
    rw [cellsAct] at hcell
    have hex : ∀ i, i < len → ∃ y : Av, W.cells? 0 (x.add (i * 3)) 3 = some y.cells ∧ y.ok W ∧ ∃ parts d, D i = .agg parts ∧ parts[2]? = some d ∧ DatB d y.b := fun i hi => by
      obtain ⟨cs', hcs', htr⟩ := hcell i (by omega)
      obtain ⟨y, hy, hok, hd⟩ := act_cells htr
      exact ⟨y, by rw [hcs', hy], hok, hd⟩
    haveI : Inhabited Av := ⟨⟨0, 0, none, 0, []⟩⟩
    obtain ⟨F, hF⟩ := Go.Deep.choose_lt hex
    have hlen : ((List.range len).map F).length = len := by simp
    refine ⟨(List.range len).map F, hlen.symm, ⟨fun h => (by cases h), fun ad had q hq => ?_⟩, fun y hy => ?_, fun h => (by cases h), .inr ⟨_, _, hx.1, ?_, fun y hy => ?_⟩⟩
    · obtain rfl := Option.some.inj had
      have hq8 : q < len * 3 := by rw [flatA_len, hlen] at hq; exact hq
      obtain ⟨_, hl8, hget⟩ := World.cells?_some (hF (q / 3) (by omega)).1
      have hj : q % 3 < 3 := Nat.mod_lt _ (by decide)
      have e1 : (x.add (q / 3 * 3)).add (q % 3) = x.add q := by
        rw [Addr.add_add]
        congr 1
        omega
      have e2 := hget (q % 3) hj
      rw [e1] at e2
      rw [e2]
      have e3 := flatA_get ((List.range len).map F) (q / 3) (q % 3) (by rw [hlen]; omega) hj
      rw [show q / 3 * 3 + q % 3 = q by omega, List.getElem?_eq_getElem hq] at e3
      rw [e3]
      simp only [List.getElem_map, List.getElem_range]
    · obtain ⟨i, hi, rfl⟩ := List.mem_map.1 hy
      exact (hF i (List.mem_range.1 hi)).2.1
    · rw [hlen]
      simp
    · obtain ⟨i, hi, rfl⟩ := List.mem_map.1 hy
      exact ⟨D i, List.mem_map.2 ⟨i, hi, rfl⟩, (hF i (List.mem_range.1 hi)).2.2⟩

theorem weights_all_memQ {H : Type} {P : Program} {e : TypeId} : ∀ {l : List (DataW H)} {d : DataW H}, d ∈ l → ∀ n ∈ d.weights P e, n ∈ DataW.weightsAll P e l
  | d0 :: r, d, hd, n, hn => by
    simp only [DataW.weightsAll, List.mem_append]
    rcases List.mem_cons.1 hd with rfl | h
    · exact .inl hn
    · exact .inr (weights_all_memQ h n hn)

/-- How great it is. -/
theorem sized_acts {H : Type} {ts : List TypeId} {ds : List (DataW H)} (h : (DataW.weightsEach Try.prog ts ds).all (· ≤ reachBytes) = true) {j : Nat} {d : DataW H} {xs : List Av} (ht : ts[j]? = some 23) (hd : ds[j]? = some d)
    (hx : (d = .nil ∧ xs = []) ∨ ∃ elems spare, d = .slice elems spare ∧ xs.length ≤ elems.length + spare.length ∧ ∀ y ∈ xs, ∃ e ∈ elems, ∃ parts dd, e = .agg parts ∧ parts[2]? = some dd ∧ DatB dd y.b) : xs.length * 40 ≤ 140737488351232 ∧ ∀ y ∈ xs, y.b.length ≤ 140737488351232 := by
  rcases hx with ⟨_, rfl⟩ | ⟨elems, spare, rfl, hle, hp⟩
  · simp
  · have hw : ∀ n ∈ (DataW.slice elems spare : DataW H).weights Try.prog 23, n ≤ reachBytes := fun n hn => by
      have := List.all_eq_true.1 h _ (DataW.weights_mem_each ht hd n hn)
      simpa using this
    simp only [DataW.weights, Try.underlying23, List.mem_cons, List.mem_append] at hw
    constructor
    · have := hw _ (.inl rfl)
      rw [bytesAct] at this
      unfold reachBytes at this
      omega
    · intro y hy
      obtain ⟨e, he, parts, dd, rfl, h0, hdat⟩ := hp y hy
      rcases hdat with ⟨_, h00⟩ | ⟨el, sp, rfl, hl⟩
      · rw [h00]; simp
      · have hm : (el.length + sp.length) * Try.prog.bytesOf 5 ∈ (DataW.agg parts : DataW H).weights Try.prog 37 := by
          simp only [DataW.weights, Try.underlying37]
          refine DataW.weights_mem_each (j := 2) rfl h0 _ ?_
          simp [DataW.weights, Try.underlying35]
        have := hw _ (.inr (.inl (weights_all_memQ he _ hm)))
        rw [bytes5] at this
        unfold reachBytes at this
        omega

end Go.Proofs.Ytlfjpbedjmnpaaa
