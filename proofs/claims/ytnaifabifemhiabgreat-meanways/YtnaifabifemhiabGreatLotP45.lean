/-
  What chapter 14 says of numbers without loads. No Go text here. What is read of an argument that is a list of bytes; how much the second form counts. What is read of an argument that is a list of nodes. What is read of an argument that is a link. Low: a number without its sign.
-/
import Derived.Test.YtnaifabifemhiabGreatLotP44
import Derived.Test.YtnaifabifemhiabGreatLotP2
import Derived.Test.YtnaifabifemhiabGreatRows
import Derived.ProofKit
import Derived.OpenShut
import Derived.ShutString
import Derived.ChangeOld
import Derived.SizedLaws
import Derived.JoinedCond
import Derived.Test.YtnaifabifemhiabGreatTyF
import Derived.Deep.Slices
import Derived.Test.YtnaifabifemhiabGreatLotP8
namespace Go.Proofs.YtnaifabifemhiabGreat
open Go.RowKit
set_option maxRecDepth 100000

theorem mwalk_left : ∀ (l : List Ng) (st s : List Pt) (k : Nat), walkG st k l = .ok s → leftG st.length l = some s.length
  | [], st, s, k, h => by cases h; rfl
  | x :: l, st, s, k, h => by
    simp only [walkG] at h
    cases e : stepG x st with
    | error e' => rw [e] at h; cases h
    | ok s1 =>
      rw [e] at h
      obtain ⟨a, ha, hle, -, h1⟩ := mstep_inv e
      have h2 := mwalk_left l s1 s (k + 1) h
      have h3 : s1.length = st.length - a + 1 := by rw [h1]; simp
      rw [h3] at h2
      unfold leftG
      rw [ha]
      simp only
      rw [if_neg (by omega)]
      exact h2
def lenN : Ng := ⟨2, 0, 0, 0, 0, 0, 0, zeros 16, 0⟩
theorem len_check : (checkG (cmpdM [lenN])).2 = 0 := by kernel_rfl
/-- MeanNumbers. -/
theorem num_pure {t : List Ng} {l : Lk} {b : List UInt8} {c : Nat} (hn : ∀ x ∈ t, x.n ≤ 4294967295) (hc : constG t = some c) (hr : refuseM (cmpdM t) l 1 = 0) :
    leftG 0 t = some 1 ∧ (exE (lookX l b) ≠ 0 → meanM t l 1 b = ⟨2, 0⟩) ∧ (exE (lookX l b) = 0 → meanM t l 1 b = ⟨1, c⟩ ∧ refuseM (cmpdM [lenN]) l 1 = 0 ∧ meanM [lenN] l 1 b = ⟨1, b.length⟩ ∧ b.length ≤ 65535) := by
  obtain ⟨h1, h2, h3⟩ := refuse_zero hr
  obtain ⟨p, hw, hp, -⟩ := cmpd_iff.1 h1
  refine ⟨mwalk_left t [] [p] 0 hw, fun he => ?_, fun he => ?_⟩
  · cases hl : lookX l b with
    | ok v => rw [hl] at he; exact absurd rfl he
    | error e => exact mean_bad hl
  · cases hl : lookX l b with
    | error e =>
      rw [hl] at he
      have := look_err hl
      rw [bne_iff_ne] at this
      exact absurd he this
    | ok v =>
      refine ⟨?_, refuse_ok len_check h2 (.inr rfl), ?_, (look_ok hl).len⟩
      · obtain ⟨q, hq, k⟩ := eval_one (s := ⟨v, 1, b⟩) (look_sg 1 hl).len hn hw
        unfold meanM
        rw [hl]
        simp only [hq]
        unfold constG at hc
        rw [hw] at hc
        have hf : p.fixed = true ∧ p.val = c := by
          simp only [List.length_cons, List.length_nil, Nat.zero_add, ne_eq, not_true_eq_false, if_false] at hc
          split at hc
          · rename_i hfx
            exact ⟨hfx, Option.some.inj hc⟩
          · cases hc
        obtain ⟨k1, k2⟩ := k.fixed hf.1
        obtain ⟨qh, qv⟩ := q
        simp only at k1 k2
        rw [k1, k2, hf.2]
        rfl
      · unfold meanM
        rw [hl]
        rfl
end Go.Proofs.YtnaifabifemhiabGreat

namespace Go.Proofs.YtnaifabifemhiabGreat
open Go.ChangeShapes Go.WideShapes Go.ChangeAt Go.RowKit
set_option maxRecDepth 100000

theorem own : ownKnob Tryz.prog.godebug = none := by kernel_rfl
theorem laidOut : laidOutB Tryz.prog = true := by kernel_rfl
theorem bytes5 : Tryz.prog.bytesOf 5 = 1 := by kernel_rfl

theorem open_bytes {H : Type} {enc : TypeId × Value → H} {P : Program} {W : World} {t e : TypeId} {d : DataW H} {ps : List MemPlace} {a : Option Addr} {len cap : Nat}
    (ht : P.underlying t = some (.slice e)) (he : P.underlying e = some (.int .u8)) (hc : P.cellsOf e = 1)
    (h : DataW.Trod enc P W 0 (fun _ => true) true t (.slice a len cap) d ps) :
    ∃ xs : List UInt8, len = xs.length ∧ Cells W a xs ∧ (a = none → cap = 0) ∧ ((d = .nil ∧ xs = []) ∨ ∃ elems spare, d = .slice elems spare ∧ xs.length ≤ elems.length + spare.length) := by
  obtain ⟨fuel, hf⟩ := h
  rcases open_ints ht he hc hf with ⟨hcs, hx⟩ | ⟨x, l, c, zs, hcs, _, hl, hm, hz, hx, hcell, hwz⟩
  · simp [Value.cells] at hcs
    obtain ⟨rfl, rfl, rfl⟩ := hcs
    simp only [Prod.mk.injEq] at hx
    exact ⟨[], rfl, ⟨fun _ => rfl, fun ad had => (by cases had)⟩, fun _ => rfl, .inl ⟨hx.1, rfl⟩⟩
  · simp [Value.cells] at hcs
    obtain ⟨rfl, rfl, rfl⟩ := hcs
    simp only [Prod.mk.injEq] at hx
    have hz' : zs.length = cap := by simpa using hz
    have hlen : ((zs.take len).map fun z => UInt8.ofNat z.toNat).length = len := by simp; omega
    refine ⟨(zs.take len).map fun z => UInt8.ofNat z.toNat, hlen.symm, ⟨fun h => (by cases h), fun ad had i hi => ?_⟩, fun h => (by cases h), .inr ⟨_, _, hx.1, ?_⟩⟩
    · obtain rfl := Option.some.inj had
      rw [hlen] at hi
      have hiz : i < zs.length := by omega
      rw [hcell i hiz]
      have hw := bounds_u8 (hwz (zs[i]) (List.getElem_mem hiz))
      simp only [List.getD_eq_getElem?_getD, List.getElem?_eq_getElem hiz, Option.getD_some, List.getElem_map, List.getElem_take, bv]
      congr 2
      simp
      omega
    · rw [hlen]
      simp [lits]
      omega

theorem bulk_one {H : Type} (d : DataW H) : 1 ≤ Rows.uptoBulk d := by
  unfold Rows.uptoBulk
  split <;> omega

theorem bulk_all {H : Type} (l : List (DataW H)) : l.length ≤ Rows.uptoBulkAll l := by
  induction l with
  | nil => exact Nat.zero_le _
  | cons x r ih =>
    have := bulk_one x
    rw [Rows.uptoBulkAll, List.length_cons]
    omega

/-- A list's places count. -/
theorem bulk_slice {H : Type} (elems spare : List (DataW H)) : elems.length + spare.length + 1 ≤ Rows.uptoBulk (.slice elems spare) := by
  have h1 := bulk_all elems
  have h2 := bulk_all spare
  rw [Rows.uptoBulk]
  omega

/-- A text's letters count. -/
theorem bulk_string {H : Type} (s : ByteArray) : Rows.uptoBulk (DataW.lit (H := H) (.string s.data.toList)) = s.size + 1 := by
  rw [Rows.uptoBulk, Array.length_toList]
  rfl

end Go.Proofs.YtnaifabifemhiabGreat

namespace Go.Proofs.YtnaifabifemhiabGreat
open Go.ChangeShapes Go.WideShapes Go.ChangeAt Go.RowKit
set_option maxRecDepth 100000

theorem bytes37 : Tryz.prog.bytesOf 37 = 72 := by kernel_rfl
theorem cellsNd : Tryz.prog.cellsOf 37 = 24 := by kernel_rfl
theorem cellsI : Tryz.prog.cellsOf 3 = 1 := by kernel_rfl
theorem cellsU : Tryz.prog.cellsOf 25 = 1 := by kernel_rfl
theorem cellsB : Tryz.prog.cellsOf 5 = 1 := by kernel_rfl
theorem cellsA : Tryz.prog.cellsOf 35 = 16 := by kernel_rfl

def byteN : Value → UInt8
  | .int _ a => UInt8.ofNat a.toNat
  | _ => 0
def intN : Value → Int
  | .int _ a => a
  | _ => 0
def ivl (cs : List Value) (i : Nat) : Int := intN (cs.getD i undef)
/-- The node that some cells are. -/
def ngOf (cs : List Value) : Ng := ⟨ivl cs 0, ivl cs 1, (ivl cs 2).toNat, (ivl cs 3).toNat, ivl cs 4, ivl cs 5, ivl cs 6, ((cs.drop 7).take 16).map byteN, ivl cs 23⟩
def Ng.ok (x : Ng) : Prop := x.n ≤ 4294967295 ∧ x.m ≤ 4294967295 ∧ x.addr.length = 16

theorem arr16N {H : Type} {enc : TypeId × Value → H} {W : World} {base : Nat} {spare : Nat → Bool} {held : Bool} {fuel : Nat} {cs : List Value} {x : DataW H × List MemPlace}
    (h : DataW.trod enc Tryz.prog W base spare held fuel 35 cs = some x) : cs.length = 16 ∧ ∀ i (hi : i < cs.length), cs[i] = .int .u8 ((byteN cs[i]).toNat : Int) := by
  obtain ⟨ys, m, _, rfl, hl, hlen, hf⟩ := DataW.trod_array Tryz.underlying35 h
  rw [cellsA] at hl
  refine ⟨hl, fun i hi => ?_⟩
  have f := hf i (by omega)
  rw [cellsB, Nat.mul_one, List.getElem?_eq_getElem (by omega), List.drop_eq_getElem_cons hi, List.take_succ_cons, List.take_zero] at f
  obtain ⟨k, e, _, w⟩ := DataW.trod_int Tryz.underlying5 f
  simp only [List.cons.injEq, and_true] at e
  have b := bounds_u8 w
  rw [e]
  have z : ((UInt8.ofNat k.toNat).toNat : Int) = k := by simp; omega
  simp only [byteN, z]

theorem one_int {H : Type} {enc : TypeId × Value → H} {W : World} {base : Nat} {spare : Nat → Bool} {held : Bool} {fuel : Nat} {cs : List Value} {x : DataW H × List MemPlace} (o : Nat) (ho : o < cs.length)
    (h : DataW.trod enc Tryz.prog W base spare held fuel 3 ((cs.drop o).take 1) = some x) : cs[o] = .int .i64 (ivl cs o) := by
  rw [List.drop_eq_getElem_cons ho, List.take_succ_cons, List.take_zero] at h
  obtain ⟨k, e, _, _⟩ := DataW.trod_int Tryz.underlying3 h
  simp only [List.cons.injEq, and_true] at e
  unfold ivl
  rw [List.getD_eq_getElem?_getD, List.getElem?_eq_getElem ho, e]
  rfl
theorem one_u32 {H : Type} {enc : TypeId × Value → H} {W : World} {base : Nat} {spare : Nat → Bool} {held : Bool} {fuel : Nat} {cs : List Value} {x : DataW H × List MemPlace} (o : Nat) (ho : o < cs.length)
    (h : DataW.trod enc Tryz.prog W base spare held fuel 25 ((cs.drop o).take 1) = some x) : cs[o] = .int .u32 ((ivl cs o).toNat : Int) ∧ (ivl cs o).toNat ≤ 4294967295 := by
  rw [List.drop_eq_getElem_cons ho, List.take_succ_cons, List.take_zero] at h
  obtain ⟨k, e, _, w⟩ := DataW.trod_int Tryz.underlying25 h
  simp only [List.cons.injEq, and_true] at e
  have b := bounds_u32 w
  have hi : ivl cs o = k := by
    unfold ivl
    rw [List.getD_eq_getElem?_getD, List.getElem?_eq_getElem ho, e]
    rfl
  rw [hi]
  refine ⟨?_, by omega⟩
  rw [e]
  congr 1
  omega

theorem node_cells {H : Type} {enc : TypeId × Value → H} {W : World} {base : Nat} {spare : Nat → Bool} {held : Bool} {fuel : Nat} {cs : List Value} {x : DataW H × List MemPlace} (h : DataW.trod enc Tryz.prog W base spare held fuel 37 cs = some x) : cs = (ngOf cs).cells ∧ (ngOf cs).ok := by
  obtain ⟨ys, n, _, rfl, hl, hlen, hf⟩ := DataW.trod_struct Tryz.underlying37 h
  rw [cellsNd] at hl
  have hy9 : ys.length = 9 := hlen
  have hy : ∀ i, i < 9 → ∃ y, ys[i]? = some y := fun i hi => ⟨ys[i], List.getElem?_eq_getElem (by omega)⟩
  have f0 : DataW.trod enc Tryz.prog W base spare held n 3 ((cs.drop 0).take (Tryz.prog.cellsOf 3)) = ys[0]? := hf 0 _ rfl
  have f1 : DataW.trod enc Tryz.prog W base spare held n 3 ((cs.drop 1).take (Tryz.prog.cellsOf 3)) = ys[1]? := hf 1 _ rfl
  have f2 : DataW.trod enc Tryz.prog W base spare held n 25 ((cs.drop 2).take (Tryz.prog.cellsOf 25)) = ys[2]? := hf 2 _ rfl
  have f3 : DataW.trod enc Tryz.prog W base spare held n 25 ((cs.drop 3).take (Tryz.prog.cellsOf 25)) = ys[3]? := hf 3 _ rfl
  have f4 : DataW.trod enc Tryz.prog W base spare held n 3 ((cs.drop 4).take (Tryz.prog.cellsOf 3)) = ys[4]? := hf 4 _ rfl
  have f5 : DataW.trod enc Tryz.prog W base spare held n 3 ((cs.drop 5).take (Tryz.prog.cellsOf 3)) = ys[5]? := hf 5 _ rfl
  have f6 : DataW.trod enc Tryz.prog W base spare held n 3 ((cs.drop 6).take (Tryz.prog.cellsOf 3)) = ys[6]? := hf 6 _ rfl
  have f7 : DataW.trod enc Tryz.prog W base spare held n 35 ((cs.drop 7).take (Tryz.prog.cellsOf 35)) = ys[7]? := hf 7 _ rfl
  have f8 : DataW.trod enc Tryz.prog W base spare held n 3 ((cs.drop 23).take (Tryz.prog.cellsOf 3)) = ys[8]? := hf 8 _ rfl
  rw [cellsI] at f0 f1 f4 f5 f6 f8
  rw [cellsU] at f2 f3
  rw [cellsA] at f7
  obtain ⟨y0, h0⟩ := hy 0 (by omega)
  obtain ⟨y1, h1⟩ := hy 1 (by omega)
  obtain ⟨y2, h2⟩ := hy 2 (by omega)
  obtain ⟨y3, h3⟩ := hy 3 (by omega)
  obtain ⟨y4, h4⟩ := hy 4 (by omega)
  obtain ⟨y5, h5⟩ := hy 5 (by omega)
  obtain ⟨y6, h6⟩ := hy 6 (by omega)
  obtain ⟨y7, h7⟩ := hy 7 (by omega)
  obtain ⟨y8, h8⟩ := hy 8 (by omega)
  have e0 := one_int 0 (by omega) (f0.trans h0)
  have e1 := one_int 1 (by omega) (f1.trans h1)
  have e2 := one_u32 2 (by omega) (f2.trans h2)
  have e3 := one_u32 3 (by omega) (f3.trans h3)
  have e4 := one_int 4 (by omega) (f4.trans h4)
  have e5 := one_int 5 (by omega) (f5.trans h5)
  have e6 := one_int 6 (by omega) (f6.trans h6)
  have e8 := one_int 23 (by omega) (f8.trans h8)
  obtain ⟨l7, e7⟩ := arr16N (f7.trans h7)
  have a7 : ∀ i (hi : i < 16), cs[7 + i]'(by omega) = adg (ngOf cs) i := fun i hi => by
    have := e7 i (by omega)
    rw [List.getElem_take, List.getElem_drop] at this
    rw [this]
    unfold adg ngOf
    simp only
    rw [List.getD_eq_getElem?_getD, List.getElem?_map, List.getElem?_eq_getElem (by omega), List.getElem_take, List.getElem_drop]
    rfl
  refine ⟨?_, e2.2, e3.2, by simp [ngOf, hl]⟩
  apply List.ext_getElem
  · rw [hl]; rfl
  · intro i hi1 hi2
    have hi : i < 24 := by omega
    have : i = 0 ∨ i = 1 ∨ i = 2 ∨ i = 3 ∨ i = 4 ∨ i = 5 ∨ i = 6 ∨ i = 7 ∨ i = 8 ∨ i = 9 ∨ i = 10 ∨ i = 11 ∨ i = 12 ∨ i = 13 ∨ i = 14 ∨ i = 15 ∨ i = 16 ∨ i = 17 ∨ i = 18 ∨ i = 19 ∨ i = 20 ∨ i = 21 ∨ i = 22 ∨ i = 23 := by omega
    rcases this with rfl | rfl | rfl | rfl | rfl | rfl | rfl | rfl | rfl | rfl | rfl | rfl | rfl | rfl | rfl | rfl | rfl | rfl | rfl | rfl | rfl | rfl | rfl | rfl
    · exact e0
    · exact e1
    · exact e2.1
    · exact e3.1
    · exact e4
    · exact e5
    · exact e6
    · exact a7 0 (by omega)
    · exact a7 1 (by omega)
    · exact a7 2 (by omega)
    · exact a7 3 (by omega)
    · exact a7 4 (by omega)
    · exact a7 5 (by omega)
    · exact a7 6 (by omega)
    · exact a7 7 (by omega)
    · exact a7 8 (by omega)
    · exact a7 9 (by omega)
    · exact a7 10 (by omega)
    · exact a7 11 (by omega)
    · exact a7 12 (by omega)
    · exact a7 13 (by omega)
    · exact a7 14 (by omega)
    · exact a7 15 (by omega)
    · exact e8

theorem open_nodes {H : Type} {enc : TypeId × Value → H} {W : World} {d : DataW H} {ps : List MemPlace} {a : Option Addr} {len cap : Nat}
    (h : DataW.Trod enc Tryz.prog W 0 (fun _ => true) true 38 (.slice a len cap) d ps) :
    ∃ xs : List Ng, len = xs.length ∧ CV W a (flatG xs) ∧ (a = none → cap = 0) ∧ (xs.length ≤ cap ∧ cap ≤ maxLen) ∧ (∀ x ∈ xs, x.ok) ∧ ((d = .nil ∧ xs = []) ∨ ∃ elems spare, d = .slice elems spare ∧ xs.length ≤ elems.length + spare.length) := by
  obtain ⟨fuel, hf⟩ := h
  rcases Go.Deep.open_slice Tryz.underlying38 hf with ⟨hcs, hx⟩ | ⟨x, l, c, m, n, D, Pl, hcs, _, hl, hm, hmm, hx, hcell⟩
  · simp [Value.cells] at hcs
    obtain ⟨rfl, rfl, rfl⟩ := hcs
    simp only [Prod.mk.injEq] at hx
    exact ⟨[], rfl, ⟨fun _ => rfl, fun ad had => (by cases had)⟩, fun _ => rfl, ⟨Nat.le_refl _, Nat.zero_le _⟩, (fun x hx => by cases hx), .inl ⟨hx.1, rfl⟩⟩
  · simp [Value.cells] at hcs
    obtain ⟨rfl, rfl, rfl⟩ := hcs
    simp only [Prod.mk.injEq] at hx
    simp only [if_true] at hmm
    have hmm' : m = cap := hmm
    rw [cellsNd] at hcell
    have hlen : ((List.range len).map fun i => ngOf ((W.cells? 0 (x.add (i * 24)) 24).getD [])).length = len := by simp
    refine ⟨(List.range len).map fun i => ngOf ((W.cells? 0 (x.add (i * 24)) 24).getD []), hlen.symm, ⟨fun h => (by cases h), fun ad had q hq => ?_⟩, fun h => (by cases h), ⟨by rw [hlen]; exact hl, hm⟩, fun y hy => ?_, .inr ⟨_, _, hx.1, ?_⟩⟩
    · obtain rfl := Option.some.inj had
      have hq4 : q < len * 24 := by rw [flatG_len, hlen] at hq; exact hq
      obtain ⟨cs', hcs', htr⟩ := hcell (q / 24) (by omega)
      obtain ⟨_, hl4, hget⟩ := World.cells?_some hcs'
      have hk := (node_cells htr).1
      have hj : q % 24 < 24 := Nat.mod_lt _ (by decide)
      have e1 : (x.add (q / 24 * 24)).add (q % 24) = x.add q := by
        rw [Addr.add_add]
        congr 1
        omega
      have e2 := hget (q % 24) hj
      rw [e1] at e2
      rw [e2]
      have e3 := flatG_get ((List.range len).map fun i => ngOf ((W.cells? 0 (x.add (i * 24)) 24).getD [])) (q / 24) (q % 24) (by rw [hlen]; omega) hj
      rw [show q / 24 * 24 + q % 24 = q by omega, List.getElem?_eq_getElem hq] at e3
      rw [e3]
      simp only [List.getElem_map, List.getElem_range, hcs', Option.getD_some]
      rw [← hk]
    · obtain ⟨i, hi, rfl⟩ := List.mem_map.1 hy
      rw [List.mem_range] at hi
      obtain ⟨cs', hcs', htr⟩ := hcell i (by omega)
      rw [hcs', Option.getD_some]
      exact (node_cells htr).2
    · rw [hlen]
      simp

end Go.Proofs.YtnaifabifemhiabGreat

namespace Go.Proofs.YtnaifabifemhiabGreat
open Go.ChangeShapes Go.WideShapes Go.ChangeAt Go.RowKit
set_option maxRecDepth 100000

theorem cellsLink : Tryz.prog.cellsOf 23 = 3 := by kernel_rfl
theorem cellsBool : Tryz.prog.cellsOf 4 = 1 := by kernel_rfl
theorem cellsInt : Tryz.prog.cellsOf 3 = 1 := by kernel_rfl

/-- The link that three cells are. -/
def lkOf : List Value → Lk
  | [.bool a, .bool b, .int _ c] => ⟨a, b, c⟩
  | _ => ⟨false, false, 0⟩

theorem link_cells {H : Type} {enc : TypeId × Value → H} {W : World} {base : Nat} {spare : Nat → Bool} {held : Bool} {fuel : Nat} {cs : List Value} {x : DataW H × List MemPlace} (h : DataW.trod enc Tryz.prog W base spare held fuel 23 cs = some x) : cs = (lkA (lkOf cs)).toList := by
  obtain ⟨ys, n, _, rfl, hl, hlen, hf⟩ := DataW.trod_struct Tryz.underlying23 h
  rw [cellsLink] at hl
  match cs, hl with
  | [c0, c1, c2], _ =>
    match ys, hlen with
    | [y0, y1, y2], _ =>
      have f0 : DataW.trod enc Tryz.prog W base spare held n 4 (([c0, c1, c2].drop 0).take (Tryz.prog.cellsOf 4)) = some y0 := hf 0 _ rfl
      have f1 : DataW.trod enc Tryz.prog W base spare held n 4 (([c0, c1, c2].drop 1).take (Tryz.prog.cellsOf 4)) = some y1 := hf 1 _ rfl
      have f2 : DataW.trod enc Tryz.prog W base spare held n 3 (([c0, c1, c2].drop 2).take (Tryz.prog.cellsOf 3)) = some y2 := hf 2 _ rfl
      rw [cellsBool] at f0 f1
      rw [cellsInt] at f2
      obtain ⟨n0, e0, _⟩ := DataW.trod_bool Tryz.underlying4 f0
      obtain ⟨n1, e1, _⟩ := DataW.trod_bool Tryz.underlying4 f1
      obtain ⟨n2, e2, _, _⟩ := DataW.trod_int Tryz.underlying3 f2
      simp at e0 e1 e2
      subst e0 e1 e2
      rfl

/-- A link that is handed in. -/
theorem open_link {H : Type} {enc : TypeId × Value → H} {W : World} {d : DataW H} {ps : List MemPlace} {v : Value}
    (h : DataW.Trod enc Tryz.prog W 0 (fun _ => true) true 23 v d ps) : ∃ x : Lk, v = .agg (lkA x) := by
  obtain ⟨fuel, hf⟩ := h
  have e := link_cells hf
  refine ⟨lkOf v.cells.toList, ?_⟩
  cases v with
  | agg cs =>
    simp only [Value.cells] at e ⊢
    congr 1
    exact Array.toList_inj.1 e
  | _ => have := congrArg List.length e; simp [Value.cells, lkA] at this

/-- How much room a list of bytes has that is handed in. -/
theorem open_cap {H : Type} {enc : TypeId × Value → H} {P : Program} {W : World} {t e : TypeId} {d : DataW H} {ps : List MemPlace} {a : Option Addr} {len cap : Nat}
    (ht : P.underlying t = some (.slice e)) (he : P.underlying e = some (.int .u8)) (hc : P.cellsOf e = 1)
    (h : DataW.Trod enc P W 0 (fun _ => true) true t (.slice a len cap) d ps) : len ≤ cap := by
  obtain ⟨fuel, hf⟩ := h
  rcases open_ints ht he hc hf with ⟨hcs, hx⟩ | ⟨x, l, c, zs, hcs, _, hl, hm, hz, hx, hcell, hwz⟩
  · simp [Value.cells] at hcs
    obtain ⟨rfl, rfl, rfl⟩ := hcs
    exact Nat.le_refl _
  · simp [Value.cells] at hcs
    obtain ⟨rfl, rfl, rfl⟩ := hcs
    exact hl

end Go.Proofs.YtnaifabifemhiabGreat

namespace Go.Proofs.YtnaifabifemhiabGreat
open Go.RowKit
set_option maxRecDepth 100000

/-- The number's 63 low bits. -/
def lowV (x : Int) : Nat := (BitVec.ofInt IntKind.i64.bits x).toNat % 2 ^ 63

theorem lowV_lt (x : Int) : lowV x < 2 ^ 63 := Nat.mod_lt _ (by decide)

theorem low_bits (x : Int) : bits .and .i64 x 9223372036854775807 = (lowV x : Int) := by
  have hm : (9223372036854775807 : Int) = ((2 ^ 63 - 1 : Nat) : Int) := by decide
  rw [hm]
  have h64 : IntKind.i64.bits = 64 := rfl
  simp only [bits, BitVec.ofInt_natCast, BitVec.toNat_and, BitVec.toNat_ofNat, h64]
  rw [show (2 ^ 63 - 1) % 2 ^ 64 = 2 ^ 63 - 1 by decide, Nat.and_two_pow_sub_one_eq_mod]
  have h := lowV_lt x
  unfold lowV at h ⊢
  generalize (BitVec.ofInt IntKind.i64.bits x).toNat % 2 ^ 63 = n at *
  rw [IntKind.wrap_i64]
  omega

set_option maxHeartbeats 400000 in
theorem low_any (x : Int) (w : World) : Calls Tryz.prog 10 #[.int .i64 x] w fun e w' => e = .returned (.int .i64 (lowV x : Int)) ∧ w = w' := by
  go_enter Tryz.func10, Tryz.ntmps10
  go_wp2
  go_ret
  exact ⟨ret_int (low_bits x), rfl⟩

end Go.Proofs.YtnaifabifemhiabGreat
