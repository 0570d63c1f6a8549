/-
  What is read of an argument that is a list of nodes. Chapter 12 in words: a node that is spoilt. No Go text here.
-/
import Derived.Test.YtdajpnlpcdnckabLotP26
import Derived.Test.YtdajpnlpcdnckabTyF
import Derived.Deep.Slices
namespace Go.Proofs.Ytdajpnlpcdnckab
open Go.ChangeShapes Go.WideShapes Go.ChangeAt Go.RowKit
set_option maxRecDepth 100000

theorem bytes32 : Try.prog.bytesOf 32 = 72 := by kernel_rfl
theorem cellsNd : Try.prog.cellsOf 32 = 24 := by kernel_rfl
theorem cellsI : Try.prog.cellsOf 3 = 1 := by kernel_rfl
theorem cellsU : Try.prog.cellsOf 29 = 1 := by kernel_rfl
theorem cellsB : Try.prog.cellsOf 5 = 1 := by kernel_rfl
theorem cellsA : Try.prog.cellsOf 30 = 16 := by kernel_rfl

def byteN : Value → UInt8
  | .int _ a => UInt8.ofNat a.toNat
  | _ => 0
def intN : Value → Int
  | .int _ a => a
  | _ => 0
def ivl (cs : List Value) (i : Nat) : Int := intN (cs.getD i undef)
/-- The node that some cells are. -/
def ngOf (cs : List Value) : Ng := ⟨ivl cs 0, ivl cs 1, (ivl cs 2).toNat, (ivl cs 3).toNat, ivl cs 4, ivl cs 5, ivl cs 6, ((cs.drop 7).take 16).map byteN, ivl cs 23⟩
def Ng.ok (x : Ng) : Prop := x.n ≤ 4294967295 ∧ x.m ≤ 4294967295 ∧ x.addr.length = 16

theorem arr16N {H : Type} {enc : TypeId × Value → H} {W : World} {base : Nat} {spare : Nat → Bool} {held : Bool} {fuel : Nat} {cs : List Value} {x : DataW H × List MemPlace}
    (h : DataW.trod enc Try.prog W base spare held fuel 30 cs = some x) : cs.length = 16 ∧ ∀ i (hi : i < cs.length), cs[i] = .int .u8 ((byteN cs[i]).toNat : Int) := by
  obtain ⟨ys, m, _, rfl, hl, hlen, hf⟩ := DataW.trod_array Try.underlying30 h
  rw [cellsA] at hl
  refine ⟨hl, fun i hi => ?_⟩
  have f := hf i (by omega)
  rw [cellsB, Nat.mul_one, List.getElem?_eq_getElem (by omega), List.drop_eq_getElem_cons hi, List.take_succ_cons, List.take_zero] at f
  obtain ⟨k, e, _, w⟩ := DataW.trod_int Try.underlying5 f
  simp only [List.cons.injEq, and_true] at e
  have b := bounds_u8 w
  rw [e]
  have z : ((UInt8.ofNat k.toNat).toNat : Int) = k := by simp; omega
  simp only [byteN, z]

theorem one_int {H : Type} {enc : TypeId × Value → H} {W : World} {base : Nat} {spare : Nat → Bool} {held : Bool} {fuel : Nat} {cs : List Value} {x : DataW H × List MemPlace} (o : Nat) (ho : o < cs.length)
    (h : DataW.trod enc Try.prog W base spare held fuel 3 ((cs.drop o).take 1) = some x) : cs[o] = .int .i64 (ivl cs o) := by
  rw [List.drop_eq_getElem_cons ho, List.take_succ_cons, List.take_zero] at h
  obtain ⟨k, e, _, _⟩ := DataW.trod_int Try.underlying3 h
  simp only [List.cons.injEq, and_true] at e
  unfold ivl
  rw [List.getD_eq_getElem?_getD, List.getElem?_eq_getElem ho, e]
  rfl
theorem one_u32 {H : Type} {enc : TypeId × Value → H} {W : World} {base : Nat} {spare : Nat → Bool} {held : Bool} {fuel : Nat} {cs : List Value} {x : DataW H × List MemPlace} (o : Nat) (ho : o < cs.length)
    (h : DataW.trod enc Try.prog W base spare held fuel 29 ((cs.drop o).take 1) = some x) : cs[o] = .int .u32 ((ivl cs o).toNat : Int) ∧ (ivl cs o).toNat ≤ 4294967295 := by
  rw [List.drop_eq_getElem_cons ho, List.take_succ_cons, List.take_zero] at h
  obtain ⟨k, e, _, w⟩ := DataW.trod_int Try.underlying29 h
  simp only [List.cons.injEq, and_true] at e
  have b := bounds_u32 w
  have hi : ivl cs o = k := by
    unfold ivl
    rw [List.getD_eq_getElem?_getD, List.getElem?_eq_getElem ho, e]
    rfl
  rw [hi]
  refine ⟨?_, by omega⟩
  rw [e]
  congr 1
  omega

theorem node_cells {H : Type} {enc : TypeId × Value → H} {W : World} {base : Nat} {spare : Nat → Bool} {held : Bool} {fuel : Nat} {cs : List Value} {x : DataW H × List MemPlace} (h : DataW.trod enc Try.prog W base spare held fuel 32 cs = some x) : cs = (ngOf cs).cells ∧ (ngOf cs).ok := by
  obtain ⟨ys, n, _, rfl, hl, hlen, hf⟩ := DataW.trod_struct Try.underlying32 h
  rw [cellsNd] at hl
  have hy9 : ys.length = 9 := hlen
  have hy : ∀ i, i < 9 → ∃ y, ys[i]? = some y := fun i hi => ⟨ys[i], List.getElem?_eq_getElem (by omega)⟩
  have f0 : DataW.trod enc Try.prog W base spare held n 3 ((cs.drop 0).take (Try.prog.cellsOf 3)) = ys[0]? := hf 0 _ rfl
  have f1 : DataW.trod enc Try.prog W base spare held n 3 ((cs.drop 1).take (Try.prog.cellsOf 3)) = ys[1]? := hf 1 _ rfl
  have f2 : DataW.trod enc Try.prog W base spare held n 29 ((cs.drop 2).take (Try.prog.cellsOf 29)) = ys[2]? := hf 2 _ rfl
  have f3 : DataW.trod enc Try.prog W base spare held n 29 ((cs.drop 3).take (Try.prog.cellsOf 29)) = ys[3]? := hf 3 _ rfl
  have f4 : DataW.trod enc Try.prog W base spare held n 3 ((cs.drop 4).take (Try.prog.cellsOf 3)) = ys[4]? := hf 4 _ rfl
  have f5 : DataW.trod enc Try.prog W base spare held n 3 ((cs.drop 5).take (Try.prog.cellsOf 3)) = ys[5]? := hf 5 _ rfl
  have f6 : DataW.trod enc Try.prog W base spare held n 3 ((cs.drop 6).take (Try.prog.cellsOf 3)) = ys[6]? := hf 6 _ rfl
  have f7 : DataW.trod enc Try.prog W base spare held n 30 ((cs.drop 7).take (Try.prog.cellsOf 30)) = ys[7]? := hf 7 _ rfl
  have f8 : DataW.trod enc Try.prog W base spare held n 3 ((cs.drop 23).take (Try.prog.cellsOf 3)) = ys[8]? := hf 8 _ rfl
  rw [cellsI] at f0 f1 f4 f5 f6 f8
  rw [cellsU] at f2 f3
  rw [cellsA] at f7
  obtain ⟨y0, h0⟩ := hy 0 (by omega)
  obtain ⟨y1, h1⟩ := hy 1 (by omega)
  obtain ⟨y2, h2⟩ := hy 2 (by omega)
  obtain ⟨y3, h3⟩ := hy 3 (by omega)
  obtain ⟨y4, h4⟩ := hy 4 (by omega)
  obtain ⟨y5, h5⟩ := hy 5 (by omega)
  obtain ⟨y6, h6⟩ := hy 6 (by omega)
  obtain ⟨y7, h7⟩ := hy 7 (by omega)
  obtain ⟨y8, h8⟩ := hy 8 (by omega)
  have e0 := one_int 0 (by omega) (f0.trans h0)
  have e1 := one_int 1 (by omega) (f1.trans h1)
  have e2 := one_u32 2 (by omega) (f2.trans h2)
  have e3 := one_u32 3 (by omega) (f3.trans h3)
  have e4 := one_int 4 (by omega) (f4.trans h4)
  have e5 := one_int 5 (by omega) (f5.trans h5)
  have e6 := one_int 6 (by omega) (f6.trans h6)
  have e8 := one_int 23 (by omega) (f8.trans h8)
  obtain ⟨l7, e7⟩ := arr16N (f7.trans h7)
  have a7 : ∀ i (hi : i < 16), cs[7 + i]'(by omega) = adg (ngOf cs) i := fun i hi => by
    have := e7 i (by omega)
    rw [List.getElem_take, List.getElem_drop] at this
    rw [this]
    unfold adg ngOf
    simp only
    rw [List.getD_eq_getElem?_getD, List.getElem?_map, List.getElem?_eq_getElem (by omega), List.getElem_take, List.getElem_drop]
    rfl
  refine ⟨?_, e2.2, e3.2, by simp [ngOf, hl]⟩
  apply List.ext_getElem
  · rw [hl]; rfl
  · intro i hi1 hi2
    have hi : i < 24 := by omega
    have : i = 0 ∨ i = 1 ∨ i = 2 ∨ i = 3 ∨ i = 4 ∨ i = 5 ∨ i = 6 ∨ i = 7 ∨ i = 8 ∨ i = 9 ∨ i = 10 ∨ i = 11 ∨ i = 12 ∨ i = 13 ∨ i = 14 ∨ i = 15 ∨ i = 16 ∨ i = 17 ∨ i = 18 ∨ i = 19 ∨ i = 20 ∨ i = 21 ∨ i = 22 ∨ i = 23 := by omega
    rcases this with rfl | rfl | rfl | rfl | rfl | rfl | rfl | rfl | rfl | rfl | rfl | rfl | rfl | rfl | rfl | rfl | rfl | rfl | rfl | rfl | rfl | rfl | rfl | rfl
    · exact e0
    · exact e1
    · exact e2.1
    · exact e3.1
    · exact e4
    · exact e5
    · exact e6
    · exact a7 0 (by omega)
    · exact a7 1 (by omega)
    · exact a7 2 (by omega)
    · exact a7 3 (by omega)
    · exact a7 4 (by omega)
    · exact a7 5 (by omega)
    · exact a7 6 (by omega)
    · exact a7 7 (by omega)
    · exact a7 8 (by omega)
    · exact a7 9 (by omega)
    · exact a7 10 (by omega)
    · exact a7 11 (by omega)
    · exact a7 12 (by omega)
    · exact a7 13 (by omega)
    · exact a7 14 (by omega)
    · exact a7 15 (by omega)
    · exact e8

theorem open_nodes {H : Type} {enc : TypeId × Value → H} {W : World} {d : DataW H} {ps : List MemPlace} {a : Option Addr} {len cap : Nat}
    (h : DataW.Trod enc Try.prog W 0 (fun _ => true) true 22 (.slice a len cap) d ps) :
    ∃ xs : List Ng, len = xs.length ∧ CV W a (flatG xs) ∧ (a = none → cap = 0) ∧ (xs.length ≤ cap ∧ cap ≤ maxLen) ∧ (∀ x ∈ xs, x.ok) ∧ ((d = .nil ∧ xs = []) ∨ ∃ elems spare, d = .slice elems spare ∧ xs.length ≤ elems.length + spare.length) := by
  obtain ⟨fuel, hf⟩ := h
  rcases Go.Deep.open_slice Try.underlying22 hf with ⟨hcs, hx⟩ | ⟨x, l, c, m, n, D, Pl, hcs, _, hl, hm, hmm, hx, hcell⟩
  · simp [Value.cells] at hcs
    obtain ⟨rfl, rfl, rfl⟩ := hcs
    simp only [Prod.mk.injEq] at hx
    exact ⟨[], rfl, ⟨fun _ => rfl, fun ad had => (by cases had)⟩, fun _ => rfl, ⟨Nat.le_refl _, Nat.zero_le _⟩, (fun x hx => by cases hx), .inl ⟨hx.1, rfl⟩⟩
  · simp [Value.cells] at hcs
    obtain ⟨rfl, rfl, rfl⟩ := hcs
    simp only [Prod.mk.injEq] at hx
    simp only [if_true] at hmm
    have hmm' : m = cap := hmm
    rw [cellsNd] at hcell
    have hlen : ((List.range len).map fun i => ngOf ((W.cells? 0 (x.add (i * 24)) 24).getD [])).length = len := by simp
    refine ⟨(List.range len).map fun i => ngOf ((W.cells? 0 (x.add (i * 24)) 24).getD []), hlen.symm, ⟨fun h => (by cases h), fun ad had q hq => ?_⟩, fun h => (by cases h), ⟨by rw [hlen]; exact hl, hm⟩, fun y hy => ?_, .inr ⟨_, _, hx.1, ?_⟩⟩
    · obtain rfl := Option.some.inj had
      have hq4 : q < len * 24 := by rw [flatG_len, hlen] at hq; exact hq
      obtain ⟨cs', hcs', htr⟩ := hcell (q / 24) (by omega)
      obtain ⟨_, hl4, hget⟩ := World.cells?_some hcs'
      have hk := (node_cells htr).1
      have hj : q % 24 < 24 := Nat.mod_lt _ (by decide)
      have e1 : (x.add (q / 24 * 24)).add (q % 24) = x.add q := by
        rw [Addr.add_add]
        congr 1
        omega
      have e2 := hget (q % 24) hj
      rw [e1] at e2
      rw [e2]
      have e3 := flatG_get ((List.range len).map fun i => ngOf ((W.cells? 0 (x.add (i * 24)) 24).getD [])) (q / 24) (q % 24) (by rw [hlen]; omega) hj
      rw [show q / 24 * 24 + q % 24 = q by omega, List.getElem?_eq_getElem hq] at e3
      rw [e3]
      simp only [List.getElem_map, List.getElem_range, hcs', Option.getD_some]
      rw [← hk]
    · obtain ⟨i, hi, rfl⟩ := List.mem_map.1 hy
      rw [List.mem_range] at hi
      obtain ⟨cs', hcs', htr⟩ := hcell i (by omega)
      rw [hcs', Option.getD_some]
      exact (node_cells htr).2
    · rw [hlen]
      simp

end Go.Proofs.Ytdajpnlpcdnckab

namespace Go.Proofs.Ytdajpnlpcdnckab
open Go.RowKit
set_option maxRecDepth 100000

/-- A node in the place of another that is none of its kind. -/
def Spoils (x y : Ng) : Prop := arG y.kind = none ∨ (y.kind = x.kind ∧ formG y = false)
theorem same_false_op {x y : Ng} (h : x.op ≠ y.op) : sameG x y = false := by unfold sameG; rw [decide_eq_false h]; simp
theorem same_false_size {x y : Ng} (h : x.size ≠ y.size) : sameG x y = false := by unfold sameG; rw [decide_eq_false h]; simp
theorem same_false_bits {x y : Ng} (h : x.bits ≠ y.bits) : sameG x y = false := by unfold sameG; rw [decide_eq_false h]; simp
theorem same_false_addr {x y : Ng} (h : adgs x ≠ adgs y) : sameG x y = false := by unfold sameG; rw [decide_eq_false h]; simp
theorem form_same {y : Ng} (h : sameG y (useG y) = false) : formG y = false := by unfold formG; rw [h]; rfl
theorem form_may {y : Ng} (h : mayG y = false) : formG y = false := by unfold formG; rw [h]; simp
theorem use_op (x : Ng) (h1 : x.kind ≠ 4) (h2 : x.kind ≠ 6) : (useG x).op = 0 := by
  unfold useG
  repeat' split
  all_goals first | rfl | omega
theorem use_size (x : Ng) (h1 : x.kind ≠ 3) : (useG x).size = 0 := by
  unfold useG
  repeat' split
  all_goals first | rfl | omega
theorem use_bits (x : Ng) (h1 : x.kind ≠ 15) : (useG x).bits = 0 := by
  unfold useG
  repeat' split
  all_goals first | rfl | omega
theorem use_addr (x : Ng) (h1 : x.kind ≠ 14) (h2 : x.kind ≠ 15) : (useG x).addr = zeros 16 := by
  unfold useG
  repeat' split
  all_goals first | rfl | omega
theorem walkG_kinds : ∀ (l : List Ng) (st s : List Pt) (k : Nat), walkG st k l = .ok s → ∀ x ∈ l, 1 ≤ x.kind ∧ x.kind ≤ 16
  | [], _, _, _, _, x, hx => by cases hx
  | y :: l, st, s, k, h, x, hx => by
    simp only [walkG] at h
    cases hs : stepG y st with
    | error e => rw [hs] at h; cases h
    | ok s1 =>
      rw [hs] at h
      rcases List.mem_cons.1 hx with rfl | hx
      · unfold stepG at hs
        split at hs
        · cases hs
        · rename_i a ha
          exact arG_in ha
      · exact walkG_kinds l s1 s (k + 1) h x hx
theorem spoil_kind (x : Ng) (k : Int) (h : ¬ (1 ≤ k ∧ k ≤ 16)) : Spoils x { x with kind := k } := .inl (arG_none.2 h)
theorem spoil_op1 (x : Ng) (h1 : x.kind ≠ 4) (h2 : x.kind ≠ 6) : Spoils x { x with op := 1 } := .inr ⟨rfl, form_same (same_false_op (by rw [use_op { x with op := 1 } h1 h2]; show (1 : Int) ≠ 0; decide))⟩
theorem spoil_op11 (x : Ng) (h : x.kind = 4 ∨ x.kind = 6) : Spoils x { x with op := 11 } := .inr ⟨rfl, form_may (by
  unfold mayG
  rcases h with h | h <;> rw [h] <;> rfl)⟩
theorem spoil_size (x : Ng) (h : x.kind ≠ 3) : Spoils x { x with size := 1 } := .inr ⟨rfl, form_same (same_false_size (by rw [use_size { x with size := 1 } h]; show (1 : Int) ≠ 0; decide))⟩
theorem spoil_of13 (x : Ng) (h : x.kind = 3) : Spoils x { x with of := 13 } := .inr ⟨rfl, form_may (by unfold mayG; rw [h]; rfl)⟩
theorem spoil_bits (x : Ng) (h : x.kind ≠ 15) : Spoils x { x with bits := -1 } := .inr ⟨rfl, form_same (same_false_bits (by rw [use_bits { x with bits := -1 } h]; show (-1 : Int) ≠ 0; decide))⟩
theorem may_host {y : Ng} (h : y.kind = 14 ∨ y.kind = 15) : mayG y = hostG y := by
  unfold mayG
  rw [if_neg (by omega), if_neg (by omega), if_neg (by omega), if_neg (by omega), if_neg (by omega), if_neg (by omega), if_pos h]
theorem spoil_side (x : Ng) (h : x.kind = 15) : Spoils x { x with side := 3 } := .inr ⟨rfl, form_may (by
  rw [may_host (y := { x with side := 3 }) (.inr h)]
  unfold hostG
  simp only [show inG 3 0 2 = false from rfl, Bool.and_false, Bool.false_and])⟩
theorem spoil_of4 (x : Ng) (h : x.kind = 14 ∨ x.kind = 15) : Spoils x { x with of := 4 } := .inr ⟨rfl, form_may (by
  rw [may_host (y := { x with of := 4 }) h]
  unfold hostG
  simp only [show inG 4 2 3 = false from rfl, Bool.false_and])⟩
theorem spoil_addr (x : Ng) (hl : x.addr.length = 16) (h1 : x.kind ≠ 14) (h2 : x.kind ≠ 15) : Spoils x { x with addr := x.addr.set 0 1 } := .inr ⟨rfl, form_same (same_false_addr (by
  intro e
  have e0 := congrArg List.head? e
  unfold adgs at e0
  rw [use_addr { x with addr := x.addr.set 0 1 } h1 h2] at e0
  simp only [List.head?_cons, Option.some.injEq, List.getD_eq_getElem?_getD] at e0
  rw [List.getElem?_set_self (by omega)] at e0
  exact absurd e0 (by decide)))⟩

theorem filt_kind {t : List Ng} (h : (checkG t).2 = 0) {x : Ng} (hx : x ∈ t) : 1 ≤ x.kind ∧ x.kind ≤ 16 := by
  obtain ⟨p, hw, -⟩ := filt_iff.1 h
  exact walkG_kinds t [] [p] 0 hw x hx
theorem set_addr (x : Ng) (hl : x.addr.length = 16) : x.cells.toArray.setIfInBounds 7 (.int .u8 1) = ({ x with addr := x.addr.set 0 1 } : Ng).cells.toArray := by
  obtain ⟨k, op, n, m, sz, of, sd, ad, bt⟩ := x
  match ad, hl with
  | a0 :: r, _ => rfl

theorem spoilt_check {t : List Ng} {y : Ng} {i : Nat} (h : (checkG t).2 = 0) (hi : i < t.length) (hs : Spoils t[i] y) : checkG (t.set i y) = (i, 120) := by
  obtain ⟨p, hw, -, -⟩ := filt_iff.1 h
  have e : t = t.take i ++ t[i] :: t.drop (i + 1) := by rw [← List.drop_eq_getElem_cons hi, List.take_append_drop]
  have e2 : t.set i y = t.take i ++ y :: t.drop (i + 1) := by rw [List.set_eq_take_append_cons_drop, if_pos hi]
  have hw2 : walkG [] 0 (t.take i ++ t[i] :: t.drop (i + 1)) = .ok [p] := by rw [← e]; exact hw
  rw [walkG_app] at hw2
  rw [e2]
  apply checkG_er
  rw [walkG_app]
  cases hb : walkG [] 0 (t.take i) with
  | error x => rw [hb] at hw2; cases hw2
  | ok st =>
    rw [hb] at hw2
    simp only [walkG] at hw2 ⊢
    have hl : (t.take i).length = i := by rw [List.length_take]; omega
    cases hx : stepG t[i] st with
    | error e' => rw [hx] at hw2; cases hw2
    | ok s1 =>
      have hy : stepG y st = .error 120 := by
        rcases hs with h0 | ⟨h1, h2⟩
        · exact stepG_none h0
        · unfold stepG at hx ⊢
          rw [h1]
          split at hx
          · cases hx
          · rename_i a ha
            split at hx
            · cases hx
            · rename_i hla
              rw [if_neg hla]
              have : faultG y (st.drop (st.length - a)) = 120 := by unfold faultG; rw [if_pos h2]
              rw [this]
              rfl
      rw [hy, hl, Nat.zero_add]

/-- Cells written one behind the other, as a list. -/
def laidL : List Value → Nat → List Value → List Value
  | vs, _, [] => vs
  | vs, o, u :: us => laidL (vs.set o u) (o + 1) us
theorem owns_cells {base e size g n cap : Nat} : ∀ (us : List Value) (o : Nat) (w : World) (vs : List Value), w.ownsRow base e size (.slice (some ⟨g, 0, none⟩) n cap) n vs → (w.setCells g o us).ownsRow base e size (.slice (some ⟨g, 0, none⟩) n cap) n (laidL vs o us)
  | [], _, _, _, h => h
  | u :: us, o, w, vs, h => owns_cells us (o + 1) (w.setCell ⟨g, o, none⟩ u) (vs.set o u) (h.stored o u).1
theorem laidL_eq : ∀ (us : List Value) (a b c : List Value), b.length = us.length → laidL (a ++ b ++ c) a.length us = a ++ us ++ c
  | [], a, b, c, h => by rw [List.eq_nil_of_length_eq_zero h]; rfl
  | u :: us, a, [], c, h => by cases h
  | u :: us, a, b0 :: b, c, h => by
    have e : (a ++ b0 :: b ++ c).set a.length u = (a ++ [u]) ++ b ++ c := by
      rw [List.append_assoc, List.set_append_right _ _ (Nat.le_refl _), Nat.sub_self]
      simp
    have hl : a.length + 1 = (a ++ [u]).length := by simp
    rw [laidL, e, hl, laidL_eq us (a ++ [u]) b c (by simpa using h)]
    simp
theorem owns_setG {w : World} {base g cap : Nat} {t : List Ng} {i : Nat} (hi : i < t.length) (y : Ng) (h : NgOwns w base (.slice (some ⟨g, 0, none⟩) t.length cap) t) : NgOwns (w.setCells g (i * 24) y.cells) base (.slice (some ⟨g, 0, none⟩) t.length cap) (t.set i y) := by
  have := owns_cells y.cells (i * 24) w (flatG t) h
  have e : t = t.take i ++ [t[i]] ++ t.drop (i + 1) := by
    rw [List.append_assoc, List.singleton_append, ← List.drop_eq_getElem_cons hi, List.take_append_drop]
  have e2 : t.set i y = t.take i ++ [y] ++ t.drop (i + 1) := by rw [List.set_eq_take_append_cons_drop, if_pos hi]; simp
  have hl : (flatG (t.take i)).length = i * 24 := by rw [flatG_len, List.length_take, Nat.min_eq_left (by omega)]
  have key : laidL (flatG t) (i * 24) y.cells = flatG (t.set i y) := by
    have : flatG t = flatG (t.take i) ++ flatG [t[i]] ++ flatG (t.drop (i + 1)) := by rw [← flatG_append, ← flatG_append, ← e]
    rw [this, ← hl, laidL_eq _ _ _ _ (by rw [flatG_one1]; rfl), e2, flatG_append, flatG_append, flatG_one1]
  rw [key] at this
  show World.ownsRow _ _ _ _ _ _ _
  rw [List.length_set]
  exact this

end Go.Proofs.Ytdajpnlpcdnckab
