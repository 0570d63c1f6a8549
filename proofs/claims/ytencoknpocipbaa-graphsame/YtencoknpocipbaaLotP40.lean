/-
  What is read of an argument that is a list of bytes; how much the second form counts. What is read of an argument that is a list of instructions.
-/
import Derived.Test.YtencoknpocipbaaLotP2
import Derived.Test.YtencoknpocipbaaRows
import Derived.ProofKit
import Derived.OpenShut
import Derived.ShutString
import Derived.ChangeOld
import Derived.SizedLaws
import Derived.JoinedCond
import Derived.Test.YtencoknpocipbaaLotP3
import Derived.Deep.Slices
namespace Go.Proofs.Ytencoknpocipbaa
open Go.ChangeShapes Go.WideShapes Go.ChangeAt Go.RowKit
set_option maxRecDepth 100000

theorem own : ownKnob Try.prog.godebug = none := by kernel_rfl
theorem laidOut : laidOutB Try.prog = true := by kernel_rfl
theorem bytes5 : Try.prog.bytesOf 5 = 1 := by kernel_rfl

theorem open_bytes {H : Type} {enc : TypeId × Value → H} {P : Program} {W : World} {t e : TypeId} {d : DataW H} {ps : List MemPlace} {a : Option Addr} {len cap : Nat}
    (ht : P.underlying t = some (.slice e)) (he : P.underlying e = some (.int .u8)) (hc : P.cellsOf e = 1)
    (h : DataW.Trod enc P W 0 (fun _ => true) true t (.slice a len cap) d ps) :
    ∃ xs : List UInt8, len = xs.length ∧ Cells W a xs ∧ (a = none → cap = 0) ∧ ((d = .nil ∧ xs = []) ∨ ∃ elems spare, d = .slice elems spare ∧ xs.length ≤ elems.length + spare.length) := by
  obtain ⟨fuel, hf⟩ := h
  rcases open_ints ht he hc hf with ⟨hcs, hx⟩ | ⟨x, l, c, zs, hcs, _, hl, hm, hz, hx, hcell, hwz⟩
  · simp [Value.cells] at hcs
    obtain ⟨rfl, rfl, rfl⟩ := hcs
    simp only [Prod.mk.injEq] at hx
    exact ⟨[], rfl, ⟨fun _ => rfl, fun ad had => (by cases had)⟩, fun _ => rfl, .inl ⟨hx.1, rfl⟩⟩
  · simp [Value.cells] at hcs
    obtain ⟨rfl, rfl, rfl⟩ := hcs
    simp only [Prod.mk.injEq] at hx
    have hz' : zs.length = cap := by simpa using hz
    have hlen : ((zs.take len).map fun z => UInt8.ofNat z.toNat).length = len := by simp; omega
    refine ⟨(zs.take len).map fun z => UInt8.ofNat z.toNat, hlen.symm, ⟨fun h => (by cases h), fun ad had i hi => ?_⟩, fun h => (by cases h), .inr ⟨_, _, hx.1, ?_⟩⟩
    · obtain rfl := Option.some.inj had
      rw [hlen] at hi
      have hiz : i < zs.length := by omega
      rw [hcell i hiz]
      have hw := bounds_u8 (hwz (zs[i]) (List.getElem_mem hiz))
      simp only [List.getD_eq_getElem?_getD, List.getElem?_eq_getElem hiz, Option.getD_some, List.getElem_map, List.getElem_take, bv]
      congr 2
      simp
      omega
    · rw [hlen]
      simp [lits]
      omega

theorem bulk_one {H : Type} (d : DataW H) : 1 ≤ Rows.uptoBulk d := by
  unfold Rows.uptoBulk
  split <;> omega

theorem bulk_all {H : Type} (l : List (DataW H)) : l.length ≤ Rows.uptoBulkAll l := by
  induction l with
  | nil => exact Nat.zero_le _
  | cons x r ih =>
    have := bulk_one x
    rw [Rows.uptoBulkAll, List.length_cons]
    omega

/-- A list's places count. -/
theorem bulk_slice {H : Type} (elems spare : List (DataW H)) : elems.length + spare.length + 1 ≤ Rows.uptoBulk (.slice elems spare) := by
  have h1 := bulk_all elems
  have h2 := bulk_all spare
  rw [Rows.uptoBulk]
  omega

/-- A text's letters count. -/
theorem bulk_string {H : Type} (s : ByteArray) : Rows.uptoBulk (DataW.lit (H := H) (.string s.data.toList)) = s.size + 1 := by
  rw [Rows.uptoBulk, Array.length_toList]
  rfl

end Go.Proofs.Ytencoknpocipbaa

namespace Go.Proofs.Ytencoknpocipbaa
open Go.ChangeShapes Go.WideShapes Go.ChangeAt Go.RowKit
set_option maxRecDepth 100000

theorem bytes46 : Try.prog.bytesOf 46 = 8 := by kernel_rfl
theorem cells46 : Try.prog.cellsOf 46 = 4 := by kernel_rfl
theorem cells44 : Try.prog.cellsOf 44 = 1 := by kernel_rfl
theorem cells5 : Try.prog.cellsOf 5 = 1 := by kernel_rfl
theorem cells34 : Try.prog.cellsOf 34 = 1 := by kernel_rfl

/-- The instruction that four cells are. -/
def inOf : List Value → In
  | [.int _ a, .int _ b, .int _ c, .int _ d] => ⟨UInt16.ofNat a.toNat, UInt8.ofNat b.toNat, UInt8.ofNat c.toNat, UInt32.ofNat d.toNat⟩
  | _ => ⟨0, 0, 0, 0⟩

theorem insn_cells {H : Type} {enc : TypeId × Value → H} {W : World} {base : Nat} {spare : Nat → Bool} {held : Bool} {fuel : Nat} {cs : List Value} {x : DataW H × List MemPlace} (h : DataW.trod enc Try.prog W base spare held fuel 46 cs = some x) : cs = (inOf cs).cells := by
  obtain ⟨ys, n, _, rfl, hl, hlen, hf⟩ := DataW.trod_struct Try.underlying46 h
  rw [cells46] at hl
  match cs, hl with
  | [c0, c1, c2, c3], _ =>
    match ys, hlen with
    | [y0, y1, y2, y3], _ =>
      have f0 : DataW.trod enc Try.prog W base spare held n 44 (([c0, c1, c2, c3].drop 0).take (Try.prog.cellsOf 44)) = some y0 := hf 0 _ rfl
      have f1 : DataW.trod enc Try.prog W base spare held n 5 (([c0, c1, c2, c3].drop 1).take (Try.prog.cellsOf 5)) = some y1 := hf 1 _ rfl
      have f2 : DataW.trod enc Try.prog W base spare held n 5 (([c0, c1, c2, c3].drop 2).take (Try.prog.cellsOf 5)) = some y2 := hf 2 _ rfl
      have f3 : DataW.trod enc Try.prog W base spare held n 34 (([c0, c1, c2, c3].drop 3).take (Try.prog.cellsOf 34)) = some y3 := hf 3 _ rfl
      rw [cells44] at f0
      rw [cells5] at f1 f2
      rw [cells34] at f3
      obtain ⟨n0, e0, _, w0⟩ := DataW.trod_int Try.underlying44 f0
      obtain ⟨n1, e1, _, w1⟩ := DataW.trod_int Try.underlying5 f1
      obtain ⟨n2, e2, _, w2⟩ := DataW.trod_int Try.underlying5 f2
      obtain ⟨n3, e3, _, w3⟩ := DataW.trod_int Try.underlying34 f3
      simp at e0 e1 e2 e3
      subst e0 e1 e2 e3
      have b0 := bounds_u16 w0
      have b1 := bounds_u8 w1
      have b2 := bounds_u8 w2
      have b3 := bounds_u32 w3
      have z0 : ((UInt16.ofNat n0.toNat).toNat : Int) = n0 := by simp; omega
      have z1 : ((UInt8.ofNat n1.toNat).toNat : Int) = n1 := by simp; omega
      have z2 : ((UInt8.ofNat n2.toNat).toNat : Int) = n2 := by simp; omega
      have z3 : ((UInt32.ofNat n3.toNat).toNat : Int) = n3 := by simp; omega
      simp only [inOf, In.cells, z0, z1, z2, z3]

/-- An instruction that is handed in. -/
theorem open_insn {H : Type} {enc : TypeId × Value → H} {W : World} {d : DataW H} {ps : List MemPlace} {v : Value}
    (h : DataW.Trod enc Try.prog W 0 (fun _ => true) true 46 v d ps) : ∃ x : In, v = .agg x.cells.toArray := by
  obtain ⟨fuel, hf⟩ := h
  have e := insn_cells hf
  refine ⟨inOf v.cells.toList, ?_⟩
  cases v with
  | agg cs =>
    rw [← e]
    simp [Value.cells]
  | _ => have := congrArg List.length e; simp [Value.cells, In.cells] at this

theorem open_insns {H : Type} {enc : TypeId × Value → H} {W : World} {d : DataW H} {ps : List MemPlace} {a : Option Addr} {len cap : Nat}
    (h : DataW.Trod enc Try.prog W 0 (fun _ => true) true 22 (.slice a len cap) d ps) :
    ∃ xs : List In, len = xs.length ∧ CV W a (flat xs) ∧ (a = none → cap = 0) ∧ (xs.length ≤ cap ∧ cap ≤ maxLen) ∧ ((d = .nil ∧ xs = []) ∨ ∃ elems spare, d = .slice elems spare ∧ xs.length ≤ elems.length + spare.length) := by
  obtain ⟨fuel, hf⟩ := h
  rcases Go.Deep.open_slice Try.underlying22 hf with ⟨hcs, hx⟩ | ⟨x, l, c, m, n, D, Pl, hcs, _, hl, hm, hmm, hx, hcell⟩
  · simp [Value.cells] at hcs
    obtain ⟨rfl, rfl, rfl⟩ := hcs
    simp only [Prod.mk.injEq] at hx
    exact ⟨[], rfl, ⟨fun _ => rfl, fun ad had => (by cases had)⟩, fun _ => rfl, ⟨Nat.le_refl _, Nat.zero_le _⟩, .inl ⟨hx.1, rfl⟩⟩
  · simp [Value.cells] at hcs
    obtain ⟨rfl, rfl, rfl⟩ := hcs
    simp only [Prod.mk.injEq] at hx
    simp only [if_true] at hmm
    have hmm' : m = cap := hmm
    rw [cells46] at hcell
    have hlen : ((List.range len).map fun i => inOf ((W.cells? 0 (x.add (i * 4)) 4).getD [])).length = len := by simp
    refine ⟨(List.range len).map fun i => inOf ((W.cells? 0 (x.add (i * 4)) 4).getD []), hlen.symm, ⟨fun h => (by cases h), fun ad had q hq => ?_⟩, fun h => (by cases h), ⟨by rw [hlen]; exact hl, hm⟩, .inr ⟨_, _, hx.1, ?_⟩⟩
    · obtain rfl := Option.some.inj had
      have hq4 : q < len * 4 := by rw [flat_len, hlen] at hq; exact hq
      obtain ⟨cs', hcs', htr⟩ := hcell (q / 4) (by omega)
      obtain ⟨_, hl4, hget⟩ := World.cells?_some hcs'
      have hk := insn_cells htr
      have hj : q % 4 < 4 := Nat.mod_lt _ (by decide)
      have e1 : (x.add (q / 4 * 4)).add (q % 4) = x.add q := by
        rw [Addr.add_add]
        congr 1
        omega
      have e2 := hget (q % 4) hj
      rw [e1] at e2
      rw [e2]
      have e3 := flat_get ((List.range len).map fun i => inOf ((W.cells? 0 (x.add (i * 4)) 4).getD [])) (q / 4) (q % 4) (by rw [hlen]; omega) hj
      rw [show q / 4 * 4 + q % 4 = q by omega, List.getElem?_eq_getElem hq] at e3
      rw [e3]
      simp only [List.getElem_map, List.getElem_range, hcs', Option.getD_some]
      rw [← hk]
    · rw [hlen]
      simp

end Go.Proofs.Ytencoknpocipbaa
