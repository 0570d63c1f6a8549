/-
  What is read of an argument that is a list of bytes; how much the second form counts. What is read of an argument that is a list of instructions. What is read of an argument that is a list of blocks.
-/
import Derived.Test.YtpoleldfoahpoaaGreatBase
import Derived.Test.YtpoleldfoahpoaaGreatRows
import Derived.ProofKit
import Derived.OpenShut
import Derived.ShutString
import Derived.ChangeOld
import Derived.SizedLaws
import Derived.JoinedCond
import Derived.Test.YtpoleldfoahpoaaGreatICopy
import Derived.Deep.Slices
import Derived.Test.YtpoleldfoahpoaaGreatGrG
namespace Go.Proofs.YtpoleldfoahpoaaGreat
open Go.ChangeShapes Go.WideShapes Go.ChangeAt Go.RowKit
set_option maxRecDepth 100000

theorem own : ownKnob Tryz.prog.godebug = none := by kernel_rfl
theorem laidOut : laidOutB Tryz.prog = true := by kernel_rfl
theorem bytes5 : Tryz.prog.bytesOf 5 = 1 := by kernel_rfl

theorem open_bytes {H : Type} {enc : TypeId × Value → H} {P : Program} {W : World} {t e : TypeId} {d : DataW H} {ps : List MemPlace} {a : Option Addr} {len cap : Nat}
    (ht : P.underlying t = some (.slice e)) (he : P.underlying e = some (.int .u8)) (hc : P.cellsOf e = 1)
    (h : DataW.Trod enc P W 0 (fun _ => true) true t (.slice a len cap) d ps) :
    ∃ xs : List UInt8, len = xs.length ∧ Cells W a xs ∧ (a = none → cap = 0) ∧ ((d = .nil ∧ xs = []) ∨ ∃ elems spare, d = .slice elems spare ∧ xs.length ≤ elems.length + spare.length) := by
  obtain ⟨fuel, hf⟩ := h
  rcases open_ints ht he hc hf with ⟨hcs, hx⟩ | ⟨x, l, c, zs, hcs, _, hl, hm, hz, hx, hcell, hwz⟩
  · simp [Value.cells] at hcs
    obtain ⟨rfl, rfl, rfl⟩ := hcs
    simp only [Prod.mk.injEq] at hx
    exact ⟨[], rfl, ⟨fun _ => rfl, fun ad had => (by cases had)⟩, fun _ => rfl, .inl ⟨hx.1, rfl⟩⟩
  · simp [Value.cells] at hcs
    obtain ⟨rfl, rfl, rfl⟩ := hcs
    simp only [Prod.mk.injEq] at hx
    have hz' : zs.length = cap := by simpa using hz
    have hlen : ((zs.take len).map fun z => UInt8.ofNat z.toNat).length = len := by simp; omega
    refine ⟨(zs.take len).map fun z => UInt8.ofNat z.toNat, hlen.symm, ⟨fun h => (by cases h), fun ad had i hi => ?_⟩, fun h => (by cases h), .inr ⟨_, _, hx.1, ?_⟩⟩
    · obtain rfl := Option.some.inj had
      rw [hlen] at hi
      have hiz : i < zs.length := by omega
      rw [hcell i hiz]
      have hw := bounds_u8 (hwz (zs[i]) (List.getElem_mem hiz))
      simp only [List.getD_eq_getElem?_getD, List.getElem?_eq_getElem hiz, Option.getD_some, List.getElem_map, List.getElem_take, bv]
      congr 2
      simp
      omega
    · rw [hlen]
      simp [lits]
      omega

theorem bulk_one {H : Type} (d : DataW H) : 1 ≤ Rows.uptoBulk d := by
  unfold Rows.uptoBulk
  split <;> omega

theorem bulk_all {H : Type} (l : List (DataW H)) : l.length ≤ Rows.uptoBulkAll l := by
  induction l with
  | nil => exact Nat.zero_le _
  | cons x r ih =>
    have := bulk_one x
    rw [Rows.uptoBulkAll, List.length_cons]
    omega

/-- A list's places count. -/
theorem bulk_slice {H : Type} (elems spare : List (DataW H)) : elems.length + spare.length + 1 ≤ Rows.uptoBulk (.slice elems spare) := by
  have h1 := bulk_all elems
  have h2 := bulk_all spare
  rw [Rows.uptoBulk]
  omega

/-- A text's letters count. -/
theorem bulk_string {H : Type} (s : ByteArray) : Rows.uptoBulk (DataW.lit (H := H) (.string s.data.toList)) = s.size + 1 := by
  rw [Rows.uptoBulk, Array.length_toList]
  rfl

end Go.Proofs.YtpoleldfoahpoaaGreat

namespace Go.Proofs.YtpoleldfoahpoaaGreat
open Go.ChangeShapes Go.WideShapes Go.ChangeAt Go.RowKit
set_option maxRecDepth 100000

theorem bytes54 : Tryz.prog.bytesOf 54 = 8 := by kernel_rfl
theorem cells54 : Tryz.prog.cellsOf 54 = 4 := by kernel_rfl
theorem cells52 : Tryz.prog.cellsOf 52 = 1 := by kernel_rfl
theorem cells5 : Tryz.prog.cellsOf 5 = 1 := by kernel_rfl
theorem cells31 : Tryz.prog.cellsOf 31 = 1 := by kernel_rfl

/-- The instruction that four cells are. -/
def inOf : List Value → In
  | [.int _ a, .int _ b, .int _ c, .int _ d] => ⟨UInt16.ofNat a.toNat, UInt8.ofNat b.toNat, UInt8.ofNat c.toNat, UInt32.ofNat d.toNat⟩
  | _ => ⟨0, 0, 0, 0⟩

theorem insn_cells {H : Type} {enc : TypeId × Value → H} {W : World} {base : Nat} {spare : Nat → Bool} {held : Bool} {fuel : Nat} {cs : List Value} {x : DataW H × List MemPlace} (h : DataW.trod enc Tryz.prog W base spare held fuel 54 cs = some x) : cs = (inOf cs).cells := by
  obtain ⟨ys, n, _, rfl, hl, hlen, hf⟩ := DataW.trod_struct Tryz.underlying54 h
  rw [cells54] at hl
  match cs, hl with
  | [c0, c1, c2, c3], _ =>
    match ys, hlen with
    | [y0, y1, y2, y3], _ =>
      have f0 : DataW.trod enc Tryz.prog W base spare held n 52 (([c0, c1, c2, c3].drop 0).take (Tryz.prog.cellsOf 52)) = some y0 := hf 0 _ rfl
      have f1 : DataW.trod enc Tryz.prog W base spare held n 5 (([c0, c1, c2, c3].drop 1).take (Tryz.prog.cellsOf 5)) = some y1 := hf 1 _ rfl
      have f2 : DataW.trod enc Tryz.prog W base spare held n 5 (([c0, c1, c2, c3].drop 2).take (Tryz.prog.cellsOf 5)) = some y2 := hf 2 _ rfl
      have f3 : DataW.trod enc Tryz.prog W base spare held n 31 (([c0, c1, c2, c3].drop 3).take (Tryz.prog.cellsOf 31)) = some y3 := hf 3 _ rfl
      rw [cells52] at f0
      rw [cells5] at f1 f2
      rw [cells31] at f3
      obtain ⟨n0, e0, _, w0⟩ := DataW.trod_int Tryz.underlying52 f0
      obtain ⟨n1, e1, _, w1⟩ := DataW.trod_int Tryz.underlying5 f1
      obtain ⟨n2, e2, _, w2⟩ := DataW.trod_int Tryz.underlying5 f2
      obtain ⟨n3, e3, _, w3⟩ := DataW.trod_int Tryz.underlying31 f3
      simp at e0 e1 e2 e3
      subst e0 e1 e2 e3
      have b0 := bounds_u16 w0
      have b1 := bounds_u8 w1
      have b2 := bounds_u8 w2
      have b3 := bounds_u32 w3
      have z0 : ((UInt16.ofNat n0.toNat).toNat : Int) = n0 := by simp; omega
      have z1 : ((UInt8.ofNat n1.toNat).toNat : Int) = n1 := by simp; omega
      have z2 : ((UInt8.ofNat n2.toNat).toNat : Int) = n2 := by simp; omega
      have z3 : ((UInt32.ofNat n3.toNat).toNat : Int) = n3 := by simp; omega
      simp only [inOf, In.cells, z0, z1, z2, z3]

/-- An instruction that is handed in. -/
theorem open_insn {H : Type} {enc : TypeId × Value → H} {W : World} {d : DataW H} {ps : List MemPlace} {v : Value}
    (h : DataW.Trod enc Tryz.prog W 0 (fun _ => true) true 54 v d ps) : ∃ x : In, v = .agg x.cells.toArray := by
  obtain ⟨fuel, hf⟩ := h
  have e := insn_cells hf
  refine ⟨inOf v.cells.toList, ?_⟩
  cases v with
  | agg cs =>
    rw [← e]
    simp [Value.cells]
  | _ => have := congrArg List.length e; simp [Value.cells, In.cells] at this

theorem open_insns {H : Type} {enc : TypeId × Value → H} {W : World} {d : DataW H} {ps : List MemPlace} {a : Option Addr} {len cap : Nat}
    (h : DataW.Trod enc Tryz.prog W 0 (fun _ => true) true 46 (.slice a len cap) d ps) :
    ∃ xs : List In, len = xs.length ∧ CV W a (flat xs) ∧ (a = none → cap = 0) ∧ (xs.length ≤ cap ∧ cap ≤ maxLen) ∧ ((d = .nil ∧ xs = []) ∨ ∃ elems spare, d = .slice elems spare ∧ xs.length ≤ elems.length + spare.length) := by
  obtain ⟨fuel, hf⟩ := h
  rcases Go.Deep.open_slice Tryz.underlying46 hf with ⟨hcs, hx⟩ | ⟨x, l, c, m, n, D, Pl, hcs, _, hl, hm, hmm, hx, hcell⟩
  · simp [Value.cells] at hcs
    obtain ⟨rfl, rfl, rfl⟩ := hcs
    simp only [Prod.mk.injEq] at hx
    exact ⟨[], rfl, ⟨fun _ => rfl, fun ad had => (by cases had)⟩, fun _ => rfl, ⟨Nat.le_refl _, Nat.zero_le _⟩, .inl ⟨hx.1, rfl⟩⟩
  · simp [Value.cells] at hcs
    obtain ⟨rfl, rfl, rfl⟩ := hcs
    simp only [Prod.mk.injEq] at hx
    simp only [if_true] at hmm
    have hmm' : m = cap := hmm
    rw [cells54] at hcell
    have hlen : ((List.range len).map fun i => inOf ((W.cells? 0 (x.add (i * 4)) 4).getD [])).length = len := by simp
    refine ⟨(List.range len).map fun i => inOf ((W.cells? 0 (x.add (i * 4)) 4).getD []), hlen.symm, ⟨fun h => (by cases h), fun ad had q hq => ?_⟩, fun h => (by cases h), ⟨by rw [hlen]; exact hl, hm⟩, .inr ⟨_, _, hx.1, ?_⟩⟩
    · obtain rfl := Option.some.inj had
      have hq4 : q < len * 4 := by rw [flat_len, hlen] at hq; exact hq
      obtain ⟨cs', hcs', htr⟩ := hcell (q / 4) (by omega)
      obtain ⟨_, hl4, hget⟩ := World.cells?_some hcs'
      have hk := insn_cells htr
      have hj : q % 4 < 4 := Nat.mod_lt _ (by decide)
      have e1 : (x.add (q / 4 * 4)).add (q % 4) = x.add q := by
        rw [Addr.add_add]
        congr 1
        omega
      have e2 := hget (q % 4) hj
      rw [e1] at e2
      rw [e2]
      have e3 := flat_get ((List.range len).map fun i => inOf ((W.cells? 0 (x.add (i * 4)) 4).getD [])) (q / 4) (q % 4) (by rw [hlen]; omega) hj
      rw [show q / 4 * 4 + q % 4 = q by omega, List.getElem?_eq_getElem hq] at e3
      rw [e3]
      simp only [List.getElem_map, List.getElem_range, hcs', Option.getD_some]
      rw [← hk]
    · rw [hlen]
      simp

end Go.Proofs.YtpoleldfoahpoaaGreat

namespace Go.Proofs.YtpoleldfoahpoaaGreat
open Go.ChangeShapes Go.WideShapes Go.ChangeAt Go.RowKit
set_option maxRecDepth 100000

theorem cellsInt : Tryz.prog.cellsOf 3 = 1 := by kernel_rfl
theorem cellsIns : Tryz.prog.cellsOf 46 = 1 := by kernel_rfl
theorem cellsBk : Tryz.prog.cellsOf 56 = 8 := by kernel_rfl
theorem bytesBk : Tryz.prog.bytesOf 56 = 56 := by kernel_rfl

/-- What is said of a list of instructions by its datum. -/
def DatI {H : Type} (d : DataW H) (xs : List In) : Prop := (d = .nil ∧ xs = []) ∨ ∃ elems spare, d = .slice elems spare ∧ xs.length ≤ elems.length + spare.length

theorem block_cells {H : Type} {enc : TypeId × Value → H} {W : World} {fuel : Nat} {cs : List Value} {x : DataW H × List MemPlace} (h : DataW.trod enc Tryz.prog W 0 (fun _ => true) true fuel 56 cs = some x) :
    ∃ y : Bv, cs = y.cells ∧ BOk W y ∧ ∃ parts d, x.1 = .agg parts ∧ parts[0]? = some d ∧ DatI d y.b.code := by
  obtain ⟨ys, n, _, rfl, hl, hlen, hf⟩ := DataW.trod_struct Tryz.underlying56 h
  rw [cellsBk] at hl
  match cs, hl with
  | [c0, c1, c2, c3, c4, c5, c6, c7], _ =>
    match ys, hlen with
    | [y0, y1, y2, y3, y4], _ =>
      have f0 : DataW.trod enc Tryz.prog W 0 (fun _ => true) true n 46 (([c0, c1, c2, c3, c4, c5, c6, c7].drop 0).take (Tryz.prog.cellsOf 46)) = some y0 := hf 0 _ rfl
      have f1 : DataW.trod enc Tryz.prog W 0 (fun _ => true) true n 3 (([c0, c1, c2, c3, c4, c5, c6, c7].drop 1).take (Tryz.prog.cellsOf 3)) = some y1 := hf 1 _ rfl
      have f2 : DataW.trod enc Tryz.prog W 0 (fun _ => true) true n 54 (([c0, c1, c2, c3, c4, c5, c6, c7].drop 2).take (Tryz.prog.cellsOf 54)) = some y2 := hf 2 _ rfl
      have f3 : DataW.trod enc Tryz.prog W 0 (fun _ => true) true n 3 (([c0, c1, c2, c3, c4, c5, c6, c7].drop 6).take (Tryz.prog.cellsOf 3)) = some y3 := hf 3 _ rfl
      have f4 : DataW.trod enc Tryz.prog W 0 (fun _ => true) true n 3 (([c0, c1, c2, c3, c4, c5, c6, c7].drop 7).take (Tryz.prog.cellsOf 3)) = some y4 := hf 4 _ rfl
      rw [cellsIns] at f0
      rw [cellsInt] at f1 f3 f4
      rw [cells54] at f2
      obtain ⟨n1, e1, _, w1⟩ := DataW.trod_int Tryz.underlying3 f1
      obtain ⟨n3, e3, _, w3⟩ := DataW.trod_int Tryz.underlying3 f3
      obtain ⟨n4, e4, _, w4⟩ := DataW.trod_int Tryz.underlying3 f4
      have e2 := insn_cells f2
      simp at e1 e3 e4 e2 f0
      obtain ⟨a, l, c, rfl⟩ : ∃ a l c, c0 = .slice a l c := by
        rcases Go.Deep.open_slice Tryz.underlying46 f0 with ⟨hcs, _⟩ | ⟨x, l, c, m, n, D, Pl, hcs, _⟩
        · simp only [List.cons.injEq, and_true] at hcs
          exact ⟨_, _, _, hcs⟩
        · simp only [List.cons.injEq, and_true] at hcs
          exact ⟨_, _, _, hcs⟩
      obtain ⟨xs, rfl, hcv, hnil, hcp, hdat⟩ := open_insns (d := y0.1) (ps := y0.2) (a := a) (len := l) (cap := c) ⟨n, by simpa [Value.cells] using f0⟩
      refine ⟨⟨⟨xs, n1, inOf [c2, c3, c4, c5], n3, n4⟩, a, c⟩, ?_, ⟨hcv, hcp.1, hnil⟩, _, y0.1, rfl, rfl, hdat⟩
      generalize inOf [c2, c3, c4, c5] = z at *
      simp only [In.cells, List.cons.injEq, and_true] at e2
      obtain ⟨rfl, rfl, rfl, rfl⟩ := e2
      subst e1 e3 e4
      rfl

/-- A list of blocks that is handed in. -/
theorem open_blocks {H : Type} {enc : TypeId × Value → H} {W : World} {d : DataW H} {ps : List MemPlace} {a : Option Addr} {len cap : Nat}
    (h : DataW.Trod enc Tryz.prog W 0 (fun _ => true) true 22 (.slice a len cap) d ps) :
    ∃ xs : List Bv, len = xs.length ∧ GC W a xs ∧ (a = none → cap = 0) ∧ (xs.length ≤ cap ∧ cap ≤ maxLen) ∧ ((d = .nil ∧ xs = []) ∨ ∃ elems spare, d = .slice elems spare ∧ xs.length ≤ elems.length + spare.length ∧ ∀ y ∈ xs, ∃ e ∈ elems, ∃ parts dd, e = .agg parts ∧ parts[0]? = some dd ∧ DatI dd y.b.code) := by
  obtain ⟨fuel, hf⟩ := h
  rcases Go.Deep.open_slice Tryz.underlying22 hf with ⟨hcs, hx⟩ | ⟨x, l, c, m, n, D, Pl, hcs, _, hl, hm, hmm, hx, hcell⟩
  · simp [Value.cells] at hcs
    obtain ⟨rfl, rfl, rfl⟩ := hcs
    simp only [Prod.mk.injEq] at hx
    exact ⟨[], rfl, ⟨⟨fun _ => rfl, fun ad had => (by cases had)⟩, fun y hy => (by cases hy)⟩, fun _ => rfl, ⟨Nat.le_refl _, Nat.zero_le _⟩, .inl ⟨hx.1, rfl⟩⟩
  · simp [Value.cells] at hcs
    obtain ⟨rfl, rfl, rfl⟩ := hcs
    simp only [Prod.mk.injEq] at hx
    simp only [if_true] at hmm
    have hmm' : m = cap := hmm
    rw [cellsBk] at hcell
    have hex : ∀ i, i < len → ∃ y : Bv, W.cells? 0 (x.add (i * 8)) 8 = some y.cells ∧ BOk W y ∧ ∃ parts d, D i = .agg parts ∧ parts[0]? = some d ∧ DatI d y.b.code := fun i hi => by
      obtain ⟨cs', hcs', htr⟩ := hcell i (by omega)
      obtain ⟨y, hy, hok, hd⟩ := block_cells htr
      exact ⟨y, by rw [hcs', hy], hok, hd⟩
    haveI : Inhabited Bv := ⟨⟨bk0, none, 0⟩⟩
    obtain ⟨F, hF⟩ := Go.Deep.choose_lt hex
    have hlen : ((List.range len).map F).length = len := by simp
    refine ⟨(List.range len).map F, hlen.symm, ⟨⟨fun h => (by cases h), fun ad had q hq => ?_⟩, fun y hy => ?_⟩, fun h => (by cases h), ⟨by rw [hlen]; exact hl, hm⟩, .inr ⟨_, _, hx.1, ?_, fun y hy => ?_⟩⟩
    · obtain rfl := Option.some.inj had
      have hq8 : q < len * 8 := by rw [flatB_len, hlen] at hq; exact hq
      obtain ⟨_, hl8, hget⟩ := World.cells?_some (hF (q / 8) (by omega)).1
      have hj : q % 8 < 8 := Nat.mod_lt _ (by decide)
      have e1 : (x.add (q / 8 * 8)).add (q % 8) = x.add q := by
        rw [Addr.add_add]
        congr 1
        omega
      have e2 := hget (q % 8) hj
      rw [e1] at e2
      rw [e2]
      have e3 := flatB_get ((List.range len).map F) (q / 8) (q % 8) (by rw [hlen]; omega) hj
      rw [show q / 8 * 8 + q % 8 = q by omega, List.getElem?_eq_getElem hq] at e3
      rw [e3]
      simp only [List.getElem_map, List.getElem_range]
    · obtain ⟨i, hi, rfl⟩ := List.mem_map.1 hy
      exact (hF i (List.mem_range.1 hi)).2.1
    · rw [hlen]
      simp
    · obtain ⟨i, hi, rfl⟩ := List.mem_map.1 hy
      exact ⟨D i, List.mem_map.2 ⟨i, hi, rfl⟩, (hF i (List.mem_range.1 hi)).2.2⟩

theorem weights_all_memB {H : Type} {P : Program} {e : TypeId} : ∀ {l : List (DataW H)} {d : DataW H}, d ∈ l → ∀ n ∈ d.weights P e, n ∈ DataW.weightsAll P e l
  | d0 :: r, d, hd, n, hn => by
    simp only [DataW.weightsAll, List.mem_append]
    rcases List.mem_cons.1 hd with rfl | h
    · exact .inl hn
    · exact .inr (weights_all_memB h n hn)

/-- How great it is. -/
theorem sized_blocks {H : Type} {ts : List TypeId} {ds : List (DataW H)} (h : (DataW.weightsEach Tryz.prog ts ds).all (· ≤ reachBytes) = true) {j : Nat} {d : DataW H} {xs : List Bv} (ht : ts[j]? = some 22) (hd : ds[j]? = some d)
    (hx : (d = .nil ∧ xs = []) ∨ ∃ elems spare, d = .slice elems spare ∧ xs.length ≤ elems.length + spare.length ∧ ∀ y ∈ xs, ∃ e ∈ elems, ∃ parts dd, e = .agg parts ∧ parts[0]? = some dd ∧ DatI dd y.b.code) : xs.length * 56 ≤ 140737488351232 ∧ ∀ y ∈ xs, y.b.code.length * 8 ≤ 140737488351232 := by
  rcases hx with ⟨_, rfl⟩ | ⟨elems, spare, rfl, hle, hp⟩
  · simp
  · have hw : ∀ n ∈ (DataW.slice elems spare : DataW H).weights Tryz.prog 22, n ≤ reachBytes := fun n hn => by
      have := List.all_eq_true.1 h _ (DataW.weights_mem_each ht hd n hn)
      simpa using this
    simp only [DataW.weights, Tryz.underlying22, List.mem_cons, List.mem_append] at hw
    constructor
    · have := hw _ (.inl rfl)
      rw [bytesBk] at this
      unfold reachBytes at this
      omega
    · intro y hy
      obtain ⟨e, he, parts, dd, rfl, h0, hdat⟩ := hp y hy
      rcases hdat with ⟨_, h00⟩ | ⟨el, sp, rfl, hl⟩
      · rw [h00]; simp
      · have hm : (el.length + sp.length) * Tryz.prog.bytesOf 54 ∈ (DataW.agg parts : DataW H).weights Tryz.prog 56 := by
          simp only [DataW.weights, Tryz.underlying56]
          refine DataW.weights_mem_each (j := 0) rfl h0 _ ?_
          simp [DataW.weights, Tryz.underlying46]
        have := hw _ (.inr (.inl (weights_all_memB he _ hm)))
        rw [bytes54] at this
        unfold reachBytes at this
        omega

end Go.Proofs.YtpoleldfoahpoaaGreat
