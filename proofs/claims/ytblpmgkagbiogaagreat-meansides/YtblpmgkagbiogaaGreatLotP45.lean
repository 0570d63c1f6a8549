/-
  What is read of an argument that is a list of nodes. What is read of an argument that is a node. What is read of an argument that is a link. The document's own chapter 12: kinds and weights. The document's own chapter 12: weights. The document's own chapter 12: whether a list is a tree.
-/
import Derived.Test.YtblpmgkagbiogaaGreatLotP44
import Derived.Test.YtblpmgkagbiogaaGreatTyF
import Derived.Deep.Slices
import Derived.Test.YtblpmgkagbiogaaGreatLotP7
import Derived.Test.YtblpmgkagbiogaaGreatLotP28
namespace Go.Proofs.YtblpmgkagbiogaaGreat
open Go.ChangeShapes Go.WideShapes Go.ChangeAt Go.RowKit
set_option maxRecDepth 100000

theorem bytes37 : Tryz.prog.bytesOf 37 = 72 := by kernel_rfl
theorem cellsNd : Tryz.prog.cellsOf 37 = 24 := by kernel_rfl
theorem cellsI : Tryz.prog.cellsOf 3 = 1 := by kernel_rfl
theorem cellsU : Tryz.prog.cellsOf 24 = 1 := by kernel_rfl
theorem cellsB : Tryz.prog.cellsOf 5 = 1 := by kernel_rfl
theorem cellsA : Tryz.prog.cellsOf 25 = 16 := by kernel_rfl

def byteN : Value → UInt8
  | .int _ a => UInt8.ofNat a.toNat
  | _ => 0
def intN : Value → Int
  | .int _ a => a
  | _ => 0
def ivl (cs : List Value) (i : Nat) : Int := intN (cs.getD i undef)
/-- The node that some cells are. -/
def ngOf (cs : List Value) : Ng := ⟨ivl cs 0, ivl cs 1, (ivl cs 2).toNat, (ivl cs 3).toNat, ivl cs 4, ivl cs 5, ivl cs 6, ((cs.drop 7).take 16).map byteN, ivl cs 23⟩
def Ng.ok (x : Ng) : Prop := x.n ≤ 4294967295 ∧ x.m ≤ 4294967295 ∧ x.addr.length = 16

theorem arr16N {H : Type} {enc : TypeId × Value → H} {W : World} {base : Nat} {spare : Nat → Bool} {held : Bool} {fuel : Nat} {cs : List Value} {x : DataW H × List MemPlace}
    (h : DataW.trod enc Tryz.prog W base spare held fuel 25 cs = some x) : cs.length = 16 ∧ ∀ i (hi : i < cs.length), cs[i] = .int .u8 ((byteN cs[i]).toNat : Int) := by
  obtain ⟨ys, m, _, rfl, hl, hlen, hf⟩ := DataW.trod_array Tryz.underlying25 h
  rw [cellsA] at hl
  refine ⟨hl, fun i hi => ?_⟩
  have f := hf i (by omega)
  rw [cellsB, Nat.mul_one, List.getElem?_eq_getElem (by omega), List.drop_eq_getElem_cons hi, List.take_succ_cons, List.take_zero] at f
  obtain ⟨k, e, _, w⟩ := DataW.trod_int Tryz.underlying5 f
  simp only [List.cons.injEq, and_true] at e
  have b := bounds_u8 w
  rw [e]
  have z : ((UInt8.ofNat k.toNat).toNat : Int) = k := by simp; omega
  simp only [byteN, z]

theorem one_int {H : Type} {enc : TypeId × Value → H} {W : World} {base : Nat} {spare : Nat → Bool} {held : Bool} {fuel : Nat} {cs : List Value} {x : DataW H × List MemPlace} (o : Nat) (ho : o < cs.length)
    (h : DataW.trod enc Tryz.prog W base spare held fuel 3 ((cs.drop o).take 1) = some x) : cs[o] = .int .i64 (ivl cs o) := by
  rw [List.drop_eq_getElem_cons ho, List.take_succ_cons, List.take_zero] at h
  obtain ⟨k, e, _, _⟩ := DataW.trod_int Tryz.underlying3 h
  simp only [List.cons.injEq, and_true] at e
  unfold ivl
  rw [List.getD_eq_getElem?_getD, List.getElem?_eq_getElem ho, e]
  rfl
theorem one_u32 {H : Type} {enc : TypeId × Value → H} {W : World} {base : Nat} {spare : Nat → Bool} {held : Bool} {fuel : Nat} {cs : List Value} {x : DataW H × List MemPlace} (o : Nat) (ho : o < cs.length)
    (h : DataW.trod enc Tryz.prog W base spare held fuel 24 ((cs.drop o).take 1) = some x) : cs[o] = .int .u32 ((ivl cs o).toNat : Int) ∧ (ivl cs o).toNat ≤ 4294967295 := by
  rw [List.drop_eq_getElem_cons ho, List.take_succ_cons, List.take_zero] at h
  obtain ⟨k, e, _, w⟩ := DataW.trod_int Tryz.underlying24 h
  simp only [List.cons.injEq, and_true] at e
  have b := bounds_u32 w
  have hi : ivl cs o = k := by
    unfold ivl
    rw [List.getD_eq_getElem?_getD, List.getElem?_eq_getElem ho, e]
    rfl
  rw [hi]
  refine ⟨?_, by omega⟩
  rw [e]
  congr 1
  omega

theorem node_cells {H : Type} {enc : TypeId × Value → H} {W : World} {base : Nat} {spare : Nat → Bool} {held : Bool} {fuel : Nat} {cs : List Value} {x : DataW H × List MemPlace} (h : DataW.trod enc Tryz.prog W base spare held fuel 37 cs = some x) : cs = (ngOf cs).cells ∧ (ngOf cs).ok := by
  obtain ⟨ys, n, _, rfl, hl, hlen, hf⟩ := DataW.trod_struct Tryz.underlying37 h
  rw [cellsNd] at hl
  have hy9 : ys.length = 9 := hlen
  have hy : ∀ i, i < 9 → ∃ y, ys[i]? = some y := fun i hi => ⟨ys[i], List.getElem?_eq_getElem (by omega)⟩
  have f0 : DataW.trod enc Tryz.prog W base spare held n 3 ((cs.drop 0).take (Tryz.prog.cellsOf 3)) = ys[0]? := hf 0 _ rfl
  have f1 : DataW.trod enc Tryz.prog W base spare held n 3 ((cs.drop 1).take (Tryz.prog.cellsOf 3)) = ys[1]? := hf 1 _ rfl
  have f2 : DataW.trod enc Tryz.prog W base spare held n 24 ((cs.drop 2).take (Tryz.prog.cellsOf 24)) = ys[2]? := hf 2 _ rfl
  have f3 : DataW.trod enc Tryz.prog W base spare held n 24 ((cs.drop 3).take (Tryz.prog.cellsOf 24)) = ys[3]? := hf 3 _ rfl
  have f4 : DataW.trod enc Tryz.prog W base spare held n 3 ((cs.drop 4).take (Tryz.prog.cellsOf 3)) = ys[4]? := hf 4 _ rfl
  have f5 : DataW.trod enc Tryz.prog W base spare held n 3 ((cs.drop 5).take (Tryz.prog.cellsOf 3)) = ys[5]? := hf 5 _ rfl
  have f6 : DataW.trod enc Tryz.prog W base spare held n 3 ((cs.drop 6).take (Tryz.prog.cellsOf 3)) = ys[6]? := hf 6 _ rfl
  have f7 : DataW.trod enc Tryz.prog W base spare held n 25 ((cs.drop 7).take (Tryz.prog.cellsOf 25)) = ys[7]? := hf 7 _ rfl
  have f8 : DataW.trod enc Tryz.prog W base spare held n 3 ((cs.drop 23).take (Tryz.prog.cellsOf 3)) = ys[8]? := hf 8 _ rfl
  rw [cellsI] at f0 f1 f4 f5 f6 f8
  rw [cellsU] at f2 f3
  rw [cellsA] at f7
  obtain ⟨y0, h0⟩ := hy 0 (by omega)
  obtain ⟨y1, h1⟩ := hy 1 (by omega)
  obtain ⟨y2, h2⟩ := hy 2 (by omega)
  obtain ⟨y3, h3⟩ := hy 3 (by omega)
  obtain ⟨y4, h4⟩ := hy 4 (by omega)
  obtain ⟨y5, h5⟩ := hy 5 (by omega)
  obtain ⟨y6, h6⟩ := hy 6 (by omega)
  obtain ⟨y7, h7⟩ := hy 7 (by omega)
  obtain ⟨y8, h8⟩ := hy 8 (by omega)
  have e0 := one_int 0 (by omega) (f0.trans h0)
  have e1 := one_int 1 (by omega) (f1.trans h1)
  have e2 := one_u32 2 (by omega) (f2.trans h2)
  have e3 := one_u32 3 (by omega) (f3.trans h3)
  have e4 := one_int 4 (by omega) (f4.trans h4)
  have e5 := one_int 5 (by omega) (f5.trans h5)
  have e6 := one_int 6 (by omega) (f6.trans h6)
  have e8 := one_int 23 (by omega) (f8.trans h8)
  obtain ⟨l7, e7⟩ := arr16N (f7.trans h7)
  have a7 : ∀ i (hi : i < 16), cs[7 + i]'(by omega) = adg (ngOf cs) i := fun i hi => by
    have := e7 i (by omega)
    rw [List.getElem_take, List.getElem_drop] at this
    rw [this]
    unfold adg ngOf
    simp only
    rw [List.getD_eq_getElem?_getD, List.getElem?_map, List.getElem?_eq_getElem (by omega), List.getElem_take, List.getElem_drop]
    rfl
  refine ⟨?_, e2.2, e3.2, by simp [ngOf, hl]⟩
  apply List.ext_getElem
  · rw [hl]; rfl
  · intro i hi1 hi2
    have hi : i < 24 := by omega
    have : i = 0 ∨ i = 1 ∨ i = 2 ∨ i = 3 ∨ i = 4 ∨ i = 5 ∨ i = 6 ∨ i = 7 ∨ i = 8 ∨ i = 9 ∨ i = 10 ∨ i = 11 ∨ i = 12 ∨ i = 13 ∨ i = 14 ∨ i = 15 ∨ i = 16 ∨ i = 17 ∨ i = 18 ∨ i = 19 ∨ i = 20 ∨ i = 21 ∨ i = 22 ∨ i = 23 := by omega
    rcases this with rfl | rfl | rfl | rfl | rfl | rfl | rfl | rfl | rfl | rfl | rfl | rfl | rfl | rfl | rfl | rfl | rfl | rfl | rfl | rfl | rfl | rfl | rfl | rfl
    · exact e0
    · exact e1
    · exact e2.1
    · exact e3.1
    · exact e4
    · exact e5
    · exact e6
    · exact a7 0 (by omega)
    · exact a7 1 (by omega)
    · exact a7 2 (by omega)
    · exact a7 3 (by omega)
    · exact a7 4 (by omega)
    · exact a7 5 (by omega)
    · exact a7 6 (by omega)
    · exact a7 7 (by omega)
    · exact a7 8 (by omega)
    · exact a7 9 (by omega)
    · exact a7 10 (by omega)
    · exact a7 11 (by omega)
    · exact a7 12 (by omega)
    · exact a7 13 (by omega)
    · exact a7 14 (by omega)
    · exact a7 15 (by omega)
    · exact e8

theorem open_nodes {H : Type} {enc : TypeId × Value → H} {W : World} {d : DataW H} {ps : List MemPlace} {a : Option Addr} {len cap : Nat}
    (h : DataW.Trod enc Tryz.prog W 0 (fun _ => true) true 40 (.slice a len cap) d ps) :
    ∃ xs : List Ng, len = xs.length ∧ CV W a (flatG xs) ∧ (a = none → cap = 0) ∧ (xs.length ≤ cap ∧ cap ≤ maxLen) ∧ (∀ x ∈ xs, x.ok) ∧ ((d = .nil ∧ xs = []) ∨ ∃ elems spare, d = .slice elems spare ∧ xs.length ≤ elems.length + spare.length) := by
  obtain ⟨fuel, hf⟩ := h
  rcases Go.Deep.open_slice Tryz.underlying40 hf with ⟨hcs, hx⟩ | ⟨x, l, c, m, n, D, Pl, hcs, _, hl, hm, hmm, hx, hcell⟩
  · simp [Value.cells] at hcs
    obtain ⟨rfl, rfl, rfl⟩ := hcs
    simp only [Prod.mk.injEq] at hx
    exact ⟨[], rfl, ⟨fun _ => rfl, fun ad had => (by cases had)⟩, fun _ => rfl, ⟨Nat.le_refl _, Nat.zero_le _⟩, (fun x hx => by cases hx), .inl ⟨hx.1, rfl⟩⟩
  · simp [Value.cells] at hcs
    obtain ⟨rfl, rfl, rfl⟩ := hcs
    simp only [Prod.mk.injEq] at hx
    simp only [if_true] at hmm
    have hmm' : m = cap := hmm
    rw [cellsNd] at hcell
    have hlen : ((List.range len).map fun i => ngOf ((W.cells? 0 (x.add (i * 24)) 24).getD [])).length = len := by simp
    refine ⟨(List.range len).map fun i => ngOf ((W.cells? 0 (x.add (i * 24)) 24).getD []), hlen.symm, ⟨fun h => (by cases h), fun ad had q hq => ?_⟩, fun h => (by cases h), ⟨by rw [hlen]; exact hl, hm⟩, fun y hy => ?_, .inr ⟨_, _, hx.1, ?_⟩⟩
    · obtain rfl := Option.some.inj had
      have hq4 : q < len * 24 := by rw [flatG_len, hlen] at hq; exact hq
      obtain ⟨cs', hcs', htr⟩ := hcell (q / 24) (by omega)
      obtain ⟨_, hl4, hget⟩ := World.cells?_some hcs'
      have hk := (node_cells htr).1
      have hj : q % 24 < 24 := Nat.mod_lt _ (by decide)
      have e1 : (x.add (q / 24 * 24)).add (q % 24) = x.add q := by
        rw [Addr.add_add]
        congr 1
        omega
      have e2 := hget (q % 24) hj
      rw [e1] at e2
      rw [e2]
      have e3 := flatG_get ((List.range len).map fun i => ngOf ((W.cells? 0 (x.add (i * 24)) 24).getD [])) (q / 24) (q % 24) (by rw [hlen]; omega) hj
      rw [show q / 24 * 24 + q % 24 = q by omega, List.getElem?_eq_getElem hq] at e3
      rw [e3]
      simp only [List.getElem_map, List.getElem_range, hcs', Option.getD_some]
      rw [← hk]
    · obtain ⟨i, hi, rfl⟩ := List.mem_map.1 hy
      rw [List.mem_range] at hi
      obtain ⟨cs', hcs', htr⟩ := hcell i (by omega)
      rw [hcs', Option.getD_some]
      exact (node_cells htr).2
    · rw [hlen]
      simp

end Go.Proofs.YtblpmgkagbiogaaGreat

namespace Go.Proofs.YtblpmgkagbiogaaGreat
open Go.ChangeShapes Go.WideShapes Go.ChangeAt Go.RowKit
set_option maxRecDepth 100000

theorem open_node {H : Type} {enc : TypeId × Value → H} {W : World} {d : DataW H} {ps : List MemPlace} {v : Value}
    (h : DataW.Trod enc Tryz.prog W 0 (fun _ => true) true 37 v d ps) : ∃ x : Ng, v = .agg x.cells.toArray ∧ x.ok := by
  obtain ⟨fuel, hf⟩ := h
  obtain ⟨e, hok⟩ := node_cells hf
  refine ⟨ngOf v.cells.toList, ?_, hok⟩
  cases v with
  | agg cs =>
    simp only [Value.cells] at e ⊢
    congr 1
    exact Array.toList_inj.1 e
  | _ => have := congrArg List.length e; rw [Ng.cells_len] at this; simp [Value.cells] at this

end Go.Proofs.YtblpmgkagbiogaaGreat

namespace Go.Proofs.YtblpmgkagbiogaaGreat
open Go.ChangeShapes Go.WideShapes Go.ChangeAt Go.RowKit
set_option maxRecDepth 100000

theorem cellsLink : Tryz.prog.cellsOf 23 = 3 := by kernel_rfl
theorem cellsBool : Tryz.prog.cellsOf 4 = 1 := by kernel_rfl
theorem cellsInt : Tryz.prog.cellsOf 3 = 1 := by kernel_rfl

/-- The link that three cells are. -/
def lkOf : List Value → Lk
  | [.bool a, .bool b, .int _ c] => ⟨a, b, c⟩
  | _ => ⟨false, false, 0⟩

theorem link_cells {H : Type} {enc : TypeId × Value → H} {W : World} {base : Nat} {spare : Nat → Bool} {held : Bool} {fuel : Nat} {cs : List Value} {x : DataW H × List MemPlace} (h : DataW.trod enc Tryz.prog W base spare held fuel 23 cs = some x) : cs = (lkA (lkOf cs)).toList := by
  obtain ⟨ys, n, _, rfl, hl, hlen, hf⟩ := DataW.trod_struct Tryz.underlying23 h
  rw [cellsLink] at hl
  match cs, hl with
  | [c0, c1, c2], _ =>
    match ys, hlen with
    | [y0, y1, y2], _ =>
      have f0 : DataW.trod enc Tryz.prog W base spare held n 4 (([c0, c1, c2].drop 0).take (Tryz.prog.cellsOf 4)) = some y0 := hf 0 _ rfl
      have f1 : DataW.trod enc Tryz.prog W base spare held n 4 (([c0, c1, c2].drop 1).take (Tryz.prog.cellsOf 4)) = some y1 := hf 1 _ rfl
      have f2 : DataW.trod enc Tryz.prog W base spare held n 3 (([c0, c1, c2].drop 2).take (Tryz.prog.cellsOf 3)) = some y2 := hf 2 _ rfl
      rw [cellsBool] at f0 f1
      rw [cellsInt] at f2
      obtain ⟨n0, e0, _⟩ := DataW.trod_bool Tryz.underlying4 f0
      obtain ⟨n1, e1, _⟩ := DataW.trod_bool Tryz.underlying4 f1
      obtain ⟨n2, e2, _, _⟩ := DataW.trod_int Tryz.underlying3 f2
      simp at e0 e1 e2
      subst e0 e1 e2
      rfl

/-- A link that is handed in. -/
theorem open_link {H : Type} {enc : TypeId × Value → H} {W : World} {d : DataW H} {ps : List MemPlace} {v : Value}
    (h : DataW.Trod enc Tryz.prog W 0 (fun _ => true) true 23 v d ps) : ∃ x : Lk, v = .agg (lkA x) := by
  obtain ⟨fuel, hf⟩ := h
  have e := link_cells hf
  refine ⟨lkOf v.cells.toList, ?_⟩
  cases v with
  | agg cs =>
    simp only [Value.cells] at e ⊢
    congr 1
    exact Array.toList_inj.1 e
  | _ => have := congrArg List.length e; simp [Value.cells, lkA] at this

/-- How much room a list of bytes has that is handed in. -/
theorem open_cap {H : Type} {enc : TypeId × Value → H} {P : Program} {W : World} {t e : TypeId} {d : DataW H} {ps : List MemPlace} {a : Option Addr} {len cap : Nat}
    (ht : P.underlying t = some (.slice e)) (he : P.underlying e = some (.int .u8)) (hc : P.cellsOf e = 1)
    (h : DataW.Trod enc P W 0 (fun _ => true) true t (.slice a len cap) d ps) : len ≤ cap := by
  obtain ⟨fuel, hf⟩ := h
  rcases open_ints ht he hc hf with ⟨hcs, hx⟩ | ⟨x, l, c, zs, hcs, _, hl, hm, hz, hx, hcell, hwz⟩
  · simp [Value.cells] at hcs
    obtain ⟨rfl, rfl, rfl⟩ := hcs
    exact Nat.le_refl _
  · simp [Value.cells] at hcs
    obtain ⟨rfl, rfl, rfl⟩ := hcs
    exact hl

end Go.Proofs.YtblpmgkagbiogaaGreat

namespace Go.Proofs.YtblpmgkagbiogaaGreat
open Go.RowKit
set_option maxRecDepth 100000

/-- How many parts a kind takes; -1: it is none. -/
def arI (k : Int) : Int := match arG k with
  | some a => (a : Int)
  | none => -1

end Go.Proofs.YtblpmgkagbiogaaGreat

namespace Go.Proofs.YtblpmgkagbiogaaGreat
open Go.RowKit
set_option maxRecDepth 100000

end Go.Proofs.YtblpmgkagbiogaaGreat

namespace Go.Proofs.YtblpmgkagbiogaaGreat
open Go.RowKit
set_option maxRecDepth 100000

/-- How many trees are left behind all nodes, if each finds its parts. -/
def leftG (n : Nat) : List Ng → Option Nat
  | [] => some n
  | x :: r => match arG x.kind with
    | none => none
    | some a => if n < a then none else leftG (n - a + 1) r
theorem starts_left : ∀ (l : List Ng) (ss : List Nat) (k : Nat), (startsG ss k l).map List.length = leftG ss.length l
  | [], ss, k => rfl
  | x :: r, ss, k => by
    simp only [startsG, leftG]
    cases arG x.kind with
    | none => rfl
    | some a =>
      simp only
      by_cases h : ss.length < a
      · rw [if_pos h, if_pos h]; rfl
      · rw [if_neg h, if_neg h]
        by_cases h0 : a = 0
        · rw [if_pos h0, starts_left r, List.length_append, h0]; rfl
        · rw [if_neg h0, starts_left r, List.length_take, Nat.min_eq_left (by omega)]

theorem long12_any (k : Int) (w : World) : Calls Tryz.prog 9 #[.int .i64 k] w fun e w' => e = .returned (.int .i64 (if k = 3 then 16 else 4)) ∧ w' = w := by
  by_cases h : k = 3
  · rw [if_pos h]
    subst h
    go_enter Tryz.func9, Tryz.ntmps9
    go_wp2
    go_ret
    exact ⟨rfl, rfl⟩
  · rw [if_neg h]
    have t3 : (k == 3) = false := by simpa using h
    clear h
    go_enter Tryz.func9, Tryz.ntmps9
    go_wp2
    go_ret
    exact ⟨rfl, rfl⟩

end Go.Proofs.YtblpmgkagbiogaaGreat
