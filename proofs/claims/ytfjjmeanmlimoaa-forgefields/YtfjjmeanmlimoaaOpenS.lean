/-
  What is read of an argument that is a spec.
-/
import Derived.Test.YtfjjmeanmlimoaaOpenL
import Derived.Test.YtfjjmeanmlimoaaForgeS
import Derived.Deep.Slices
import Derived.SizedLaws
namespace Go.Proofs.Ytfjjmeanmlimoaa
open Go.ChangeShapes Go.WideShapes Go.ChangeAt Go.RowKit
set_option maxRecDepth 100000

theorem cells8 : Try.prog.cellsOf 5 = 1 := by kernel_rfl
theorem cells32 : Try.prog.cellsOf 24 = 1 := by kernel_rfl
theorem cells16 : Try.prog.cellsOf 25 = 16 := by kernel_rfl
theorem cellsSl : Try.prog.cellsOf 26 = 1 := by kernel_rfl
theorem cellsSp : Try.prog.cellsOf 28 = 44 := by kernel_rfl
theorem bytes8 : Try.prog.bytesOf 5 = 1 := by kernel_rfl

/-- The byte that a cell is. -/
def byteC8 : Value → UInt8
  | .int _ a => UInt8.ofNat a.toNat
  | _ => 0

theorem arr16_cells {H : Type} {enc : TypeId × Value → H} {W : World} {base : Nat} {spare : Nat → Bool} {held : Bool} {fuel : Nat} {cs : List Value} {x : DataW H × List MemPlace}
    (h : DataW.trod enc Try.prog W base spare held fuel 25 cs = some x) : ∃ ys : List UInt8, ys.length = 16 ∧ cs = ys.map bv := by
  obtain ⟨ys, m, _, rfl, hl, hlen, hf⟩ := DataW.trod_array Try.underlying25 h
  rw [cells16] at hl
  refine ⟨cs.map byteC8, by simpa using hl, ?_⟩
  apply List.ext_getElem
  · simp
  · intro i h1 h2
    have hi : i < 16 := by omega
    have f := hf i hi
    rw [cells8, List.getElem?_eq_getElem (by omega), Nat.mul_one, List.drop_eq_getElem_cons h1, List.take_succ_cons, List.take_zero] at f
    obtain ⟨k, e, _, w⟩ := DataW.trod_int Try.underlying5 f
    simp only [List.cons.injEq, and_true] at e
    have b := bounds_u8 w
    simp only [List.getElem_map]
    rw [e]
    have z : ((UInt8.ofNat k.toNat).toNat : Int) = k := by simp; omega
    simp only [byteC8, bv, z]

theorem drop_cut (cs : List Value) (o n : Nat) : cs.drop o = (cs.drop o).take n ++ cs.drop (o + n) := by
  rw [← List.drop_drop, List.take_append_drop]

/-- What is said of a list of bytes by its datum. -/
def DatIs {H : Type} (d : DataW H) (xs : List UInt8) : Prop := (d = .nil ∧ xs = []) ∨ ∃ elems spare, d = .slice elems spare ∧ xs.length ≤ elems.length + spare.length

theorem spec_cells {H : Type} {enc : TypeId × Value → H} {W : World} {fuel : Nat} {cs : List Value} {x : DataW H × List MemPlace} (h : DataW.trod enc Try.prog W 0 (fun _ => true) true fuel 28 cs = some x) :
    ∃ (s : Sp) (a : Option Addr) (ca : Nat), cs = spL s a ca ∧ s.ok ∧ Cells W a s.data ∧ (a = none → ca = 0) ∧ s.data.length ≤ ca ∧ ∃ parts d, x.1 = .agg parts ∧ parts[13]? = some d ∧ DatIs d s.data := by
  obtain ⟨ys, n, _, rfl, hl, hlen, hf⟩ := DataW.trod_struct Try.underlying28 h
  rw [cellsSp] at hl
  have hlen14 : ys.length = 14 := hlen
  have hy : ∀ i, i < 14 → ∃ y, ys[i]? = some y := fun i hi => ⟨ys[i], List.getElem?_eq_getElem (by omega)⟩
  have f0 : DataW.trod enc Try.prog W 0 (fun _ => true) true n 4 ((cs.drop 0).take (Try.prog.cellsOf 4)) = ys[0]? := hf 0 _ rfl
  have f1 : DataW.trod enc Try.prog W 0 (fun _ => true) true n 4 ((cs.drop 1).take (Try.prog.cellsOf 4)) = ys[1]? := hf 1 _ rfl
  have f2 : DataW.trod enc Try.prog W 0 (fun _ => true) true n 4 ((cs.drop 2).take (Try.prog.cellsOf 4)) = ys[2]? := hf 2 _ rfl
  have f3 : DataW.trod enc Try.prog W 0 (fun _ => true) true n 4 ((cs.drop 3).take (Try.prog.cellsOf 4)) = ys[3]? := hf 3 _ rfl
  have f4 : DataW.trod enc Try.prog W 0 (fun _ => true) true n 4 ((cs.drop 4).take (Try.prog.cellsOf 4)) = ys[4]? := hf 4 _ rfl
  have f5 : DataW.trod enc Try.prog W 0 (fun _ => true) true n 24 ((cs.drop 5).take (Try.prog.cellsOf 24)) = ys[5]? := hf 5 _ rfl
  have f6 : DataW.trod enc Try.prog W 0 (fun _ => true) true n 24 ((cs.drop 6).take (Try.prog.cellsOf 24)) = ys[6]? := hf 6 _ rfl
  have f7 : DataW.trod enc Try.prog W 0 (fun _ => true) true n 3 ((cs.drop 7).take (Try.prog.cellsOf 3)) = ys[7]? := hf 7 _ rfl
  have f8 : DataW.trod enc Try.prog W 0 (fun _ => true) true n 25 ((cs.drop 8).take (Try.prog.cellsOf 25)) = ys[8]? := hf 8 _ rfl
  have f9 : DataW.trod enc Try.prog W 0 (fun _ => true) true n 25 ((cs.drop 24).take (Try.prog.cellsOf 25)) = ys[9]? := hf 9 _ rfl
  have f10 : DataW.trod enc Try.prog W 0 (fun _ => true) true n 4 ((cs.drop 40).take (Try.prog.cellsOf 4)) = ys[10]? := hf 10 _ rfl
  have f11 : DataW.trod enc Try.prog W 0 (fun _ => true) true n 24 ((cs.drop 41).take (Try.prog.cellsOf 24)) = ys[11]? := hf 11 _ rfl
  have f12 : DataW.trod enc Try.prog W 0 (fun _ => true) true n 24 ((cs.drop 42).take (Try.prog.cellsOf 24)) = ys[12]? := hf 12 _ rfl
  have f13 : DataW.trod enc Try.prog W 0 (fun _ => true) true n 26 ((cs.drop 43).take (Try.prog.cellsOf 26)) = ys[13]? := hf 13 _ rfl
  rw [cellsBool] at f0 f1 f2 f3 f4 f10
  rw [cells32] at f5 f6 f11 f12
  rw [cellsInt] at f7
  rw [cells16] at f8 f9
  rw [cellsSl] at f13
  obtain ⟨y0, h0⟩ := hy 0 (by omega)
  obtain ⟨y1, h1⟩ := hy 1 (by omega)
  obtain ⟨y2, h2⟩ := hy 2 (by omega)
  obtain ⟨y3, h3⟩ := hy 3 (by omega)
  obtain ⟨y4, h4⟩ := hy 4 (by omega)
  obtain ⟨y5, h5⟩ := hy 5 (by omega)
  obtain ⟨y6, h6⟩ := hy 6 (by omega)
  obtain ⟨y7, h7⟩ := hy 7 (by omega)
  obtain ⟨y8, h8⟩ := hy 8 (by omega)
  obtain ⟨y9, h9⟩ := hy 9 (by omega)
  obtain ⟨y10, h10⟩ := hy 10 (by omega)
  obtain ⟨y11, h11⟩ := hy 11 (by omega)
  obtain ⟨y12, h12⟩ := hy 12 (by omega)
  obtain ⟨y13, h13⟩ := hy 13 (by omega)
  obtain ⟨n0, e0, _⟩ := DataW.trod_bool Try.underlying4 (f0.trans h0)
  obtain ⟨n1, e1, _⟩ := DataW.trod_bool Try.underlying4 (f1.trans h1)
  obtain ⟨n2, e2, _⟩ := DataW.trod_bool Try.underlying4 (f2.trans h2)
  obtain ⟨n3, e3, _⟩ := DataW.trod_bool Try.underlying4 (f3.trans h3)
  obtain ⟨n4, e4, _⟩ := DataW.trod_bool Try.underlying4 (f4.trans h4)
  obtain ⟨n5, e5, _, w5⟩ := DataW.trod_int Try.underlying24 (f5.trans h5)
  obtain ⟨n6, e6, _, w6⟩ := DataW.trod_int Try.underlying24 (f6.trans h6)
  obtain ⟨n7, e7, _, _⟩ := DataW.trod_int Try.underlying3 (f7.trans h7)
  obtain ⟨n8, l8, e8⟩ := arr16_cells (f8.trans h8)
  obtain ⟨n9, l9, e9⟩ := arr16_cells (f9.trans h9)
  obtain ⟨n10, e10, _⟩ := DataW.trod_bool Try.underlying4 (f10.trans h10)
  obtain ⟨n11, e11, _, w11⟩ := DataW.trod_int Try.underlying24 (f11.trans h11)
  obtain ⟨n12, e12, _, w12⟩ := DataW.trod_int Try.underlying24 (f12.trans h12)
  have b5 := bounds_u32 w5
  have b6 := bounds_u32 w6
  have b11 := bounds_u32 w11
  have b12 := bounds_u32 w12
  obtain ⟨m5, rfl⟩ := Int.eq_ofNat_of_zero_le b5.1
  obtain ⟨m6, rfl⟩ := Int.eq_ofNat_of_zero_le b6.1
  obtain ⟨m11, rfl⟩ := Int.eq_ofNat_of_zero_le b11.1
  obtain ⟨m12, rfl⟩ := Int.eq_ofNat_of_zero_le b12.1
  have hsl : ∃ (a : Option Addr) (ca : Nat) (xs : List UInt8), (cs.drop 43).take 1 = [.slice a xs.length ca] ∧ Cells W a xs ∧ (a = none → ca = 0) ∧ xs.length ≤ ca ∧ DatIs y13.1 xs := by
    have hh := f13.trans h13
    rcases Go.Deep.open_slice Try.underlying26 hh with ⟨hcs, hx⟩ | ⟨x, len, cap, m, k, D, Pl, hcs, _, hl', hm, hmm, hx, hcell⟩
    · exact ⟨none, 0, [], hcs, ⟨fun _ => rfl, fun ad had => (by cases had)⟩, fun _ => rfl, Nat.le_refl _, .inl ⟨by rw [hx], rfl⟩⟩
    · have ht : DataW.Trod enc Try.prog W 0 (fun _ => true) true 26 (.slice (some x) len cap) y13.1 y13.2 := ⟨n, by rw [hcs] at hh; exact hh⟩
      obtain ⟨xs, rfl, hc, h0, hd⟩ := open_bytes Try.underlying26 Try.underlying5 (by kernel_rfl) ht
      exact ⟨some x, cap, xs, hcs, hc, h0, hl', hd⟩
  obtain ⟨a, ca, xs, e13, hC, hc0, hcap, hdat⟩ := hsl
  refine ⟨⟨n0, n1, n2, n3, n4, m5, m6, n7, n8, n9, n10, m11, m12, xs⟩, a, ca, ?_, ⟨l8, l9, (show m5 ≤ 4294967295 by omega), (show m6 ≤ 4294967295 by omega), (show m11 ≤ 4294967295 by omega), (show m12 ≤ 4294967295 by omega)⟩, hC, hc0, hcap, _, y13.1, rfl, by rw [List.getElem?_map, h13]; rfl, hdat⟩
  have q0 := drop_cut cs 0 1
  have q1 := drop_cut cs 1 1
  have q2 := drop_cut cs 2 1
  have q3 := drop_cut cs 3 1
  have q4 := drop_cut cs 4 1
  have q5 := drop_cut cs 5 1
  have q6 := drop_cut cs 6 1
  have q7 := drop_cut cs 7 1
  have q8 := drop_cut cs 8 16
  have q9 := drop_cut cs 24 16
  have q10 := drop_cut cs 40 1
  have q11 := drop_cut cs 41 1
  have q12 := drop_cut cs 42 1
  have q13 := drop_cut cs 43 1
  have q14 : cs.drop (43 + 1) = [] := List.drop_eq_nil_of_le (by omega)
  rw [q14, e13] at q13
  rw [q13, e12] at q12
  rw [q12, e11] at q11
  rw [q11, e10] at q10
  rw [q10, e9] at q9
  rw [q9, e8] at q8
  rw [q8, e7] at q7
  rw [q7, e6] at q6
  rw [q6, e5] at q5
  rw [q5, e4] at q4
  rw [q4, e3] at q3
  rw [q3, e2] at q2
  rw [q2, e1] at q1
  rw [q1, e0, List.drop_zero] at q0
  rw [q0]
  rfl

/-- A spec that is handed in. -/
theorem open_spec {H : Type} {enc : TypeId × Value → H} {W : World} {d : DataW H} {ps : List MemPlace} {v : Value}
    (h : DataW.Trod enc Try.prog W 0 (fun _ => true) true 28 v d ps) :
    ∃ (s : Sp) (a : Option Addr) (ca : Nat), v = .agg (spA s a ca) ∧ s.ok ∧ Cells W a s.data ∧ (a = none → ca = 0) ∧ s.data.length ≤ ca ∧ ∃ parts e, d = .agg parts ∧ parts[13]? = some e ∧ DatIs e s.data := by
  obtain ⟨fuel, hf⟩ := h
  obtain ⟨s, a, ca, e, hok, hC, h0, hcap, parts, dd, hp, hp2, hd⟩ := spec_cells hf
  refine ⟨s, a, ca, ?_, hok, hC, h0, hcap, parts, dd, hp, hp2, hd⟩
  have hlen := spL_len hok a ca
  cases v with
  | agg cs =>
    simp only [Value.cells] at e
    rw [spA, ← e]
  | _ => rw [← e] at hlen; simp [Value.cells] at hlen

/-- How long the data are that a spec has which is handed in. -/
theorem sized_spec {H : Type} {ts : List TypeId} {ds : List (DataW H)} (h : (DataW.weightsEach Try.prog ts ds).all (· ≤ reachBytes) = true) {j : Nat} {parts : List (DataW H)} {e : DataW H} {xs : List UInt8} (ht : ts[j]? = some 28) (hd : ds[j]? = some (.agg parts)) (hp : parts[13]? = some e) (hx : DatIs e xs) : xs.length ≤ 140737488351232 := by
  rcases hx with ⟨_, rfl⟩ | ⟨elems, spare, rfl, hle⟩
  · simp
  · have hm : (elems.length + spare.length) * Try.prog.bytesOf 5 ∈ DataW.weightsEach Try.prog [4, 4, 4, 4, 4, 24, 24, 3, 25, 25, 4, 24, 24, 26] parts :=
      DataW.weights_mem_each (t := 26) rfl hp _ (by simp [DataW.weights, Try.underlying26])
    have := List.all_eq_true.1 h _ (DataW.weights_mem_each ht hd _ (by simp only [DataW.weights, Try.underlying28]; exact hm))
    rw [bytes8] at this
    simp only [decide_eq_true_eq] at this
    unfold reachBytes at this
    omega

end Go.Proofs.Ytfjjmeanmlimoaa
