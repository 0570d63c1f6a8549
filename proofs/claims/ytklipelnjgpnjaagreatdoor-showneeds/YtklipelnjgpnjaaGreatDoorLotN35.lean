import Derived.Test.YtklipelnjgpnjaaGreatDoorNAb
import Derived.Test.YtklipelnjgpnjaaGreatDoorLotN11
import Derived.Test.YtklipelnjgpnjaaGreatDoorLotN5
import Derived.Test.YtklipelnjgpnjaaGreatDoorLotN1
import Derived.Test.YtklipelnjgpnjaaGreatDoorRows
import Derived.ProofKit
import Derived.OpenShut
import Derived.ShutString
import Derived.ChangeOld
import Derived.SizedLaws
import Derived.JoinedCond
import Derived.Test.YtklipelnjgpnjaaGreatDoorLotN4
import Derived.Deep.Slices
import Derived.Test.YtklipelnjgpnjaaGreatDoorLotN34
import Derived.Test.YtklipelnjgpnjaaGreatDoorLotN15
import Derived.Test.YtklipelnjgpnjaaGreatDoorLotN7
import Derived.Test.YtklipelnjgpnjaaGreatDoorLotN13
import Derived.Deep.DeepCutAuto
import Derived.Test.YtklipelnjgpnjaaGreatDoorLotN3
import Derived.Test.YtklipelnjgpnjaaGreatDoorLotN2
set_option maxHeartbeats 64000000
set_option maxRecDepth 100000
namespace Go.Proofs.YtklipelnjgpnjaaGreatDoor
open Go.RowKit
theorem aN3 (xs : List UInt8) (h : xs.length = 4) : (T3 xs).length ≤ 84 := by
 have := a2b 46 (xs.map fun x => dec x.toNat) 20 (fun l hl => by
  obtain ⟨y, -, rfl⟩ := List.mem_map.1 hl
  exact S7 _)
 rw [List.length_map, h] at this
 exact this
theorem af5 (x : Ng) : (I0 x).length ≤ 84 := by
 unfold I0
 split
 ·have := aN5 (d8 (k8 x)) (a3I 8 _ (a06 x))
  omega
 ·exact aN3 _ (by rw [List.length_take, a06]; rfl)
theorem az6 {x : Ng} (ha : arG x.kind = some 0) : (x6 x).length + 1 ≤ 21 * E0 x := by
 have h1 := S7 x.n
 have h2 := S7 x.m
 have h3 := S7 x.bits.toNat
 have h4 := af5 x
 have h5 := a9U x.side
 have h6 := a2V x.of
 rcases a0H ha with ⟨e, -⟩ | ⟨e, -⟩ | ⟨-, hk⟩
 ·cases e
 ·cases e
 ·clear ha
  unfold x6 E0
  repeat' split
  all_goals
   try simp only [List.length_append, List.length_cons, List.length_nil]
   omega
theorem a6S (a b : List Ng) : J8 (a ++ b) = J8 a + J8 b := by unfold J8; simp
theorem a6T (x : Ng) : J8 [x] = E0 x := by unfold J8; simp
theorem ad6 {x : Ng} {a : Nat} (h : arG x.kind = some a) : 1 ≤ E0 x := by
 have hk := a0H h
 clear h
 unfold E0
 repeat' split
 all_goals omega
theorem a4T (full : Bool) : ∀ {T : Tr}, T.Wf → (T.txt full).1.length + 1 ≤ 21 * J8 T.flat
 | .leaf x, hw => by
  show (x6 x).length + 1 ≤ 21 * J8 [x]
  rw [a6T]
  exact az6 hw
 | .one x p, hw => by
  have h1 := a4T full hw.2
  have hf : J8 (Tr.one x p).flat = J8 p.flat + E0 x := by show J8 (p.flat ++ [x]) = _; rw [a6S, a6T]
  have hn := a2V x.of
  have hs := aa2 x.size
  have hp1 := ad6 hw.1
  rw [hf, Tr.txt]
  split
  ·rename_i hk
   have : E0 x = 24 := by unfold E0; rw [if_neg (by omega), if_neg (by omega), if_pos hk]
   simp only [List.length_append, List.length_cons, List.length_nil]
   omega
  ·have hp := a39 (D2 full (d5 p.root) (d5 x)) (p.txt full)
   have hq : ((if x.kind = 9 then [110, 111, 116, 32] else [45]) : List UInt8).length ≤ 4 := by split <;> decide
   simp only [List.length_append]
   omega
 | .two x p q, hw => by
  have h1 := a4T full hw.2.1
  have h2 := a4T full hw.2.2
  have hf : J8 (Tr.two x p q).flat = J8 p.flat + J8 q.flat + E0 x := by show J8 (p.flat ++ q.flat ++ [x]) = _; rw [a6S, a6S, a6T]
  have hp1 := ad6 hw.1
  have hs := aa1 x
  have hp := a39 (D2 full (d5 p.root) (if d5 x = 4 then 5 else d5 x)) (p.txt full)
  have hq := a39 (D2 full (d5 q.root) (d5 x + 1)) (q.txt full)
  rw [hf, Tr.txt]
  simp only [List.length_append, List.length_cons, List.length_nil]
  omega

open Go.ChangeShapes Go.WideShapes Go.ChangeAt Go.RowKit
theorem own : ownKnob Tryz.prog.godebug = none := by kernel_rfl
theorem ay0 : laidOutB Tryz.prog = true := by kernel_rfl

open Go.ChangeShapes Go.WideShapes Go.ChangeAt Go.RowKit
theorem al4 : Tryz.prog.bytesOf 43 = 72 := by kernel_rfl
theorem a7K : Tryz.prog.cellsOf 43 = 24 := by kernel_rfl
theorem am1 : Tryz.prog.cellsOf 3 = 1 := by kernel_rfl
theorem am2 : Tryz.prog.cellsOf 40 = 1 := by kernel_rfl
theorem am0 : Tryz.prog.cellsOf 5 = 1 := by kernel_rfl
theorem a7J : Tryz.prog.cellsOf 41 = 16 := by kernel_rfl
def a5m : Value → UInt8
 | .int _ a => UInt8.ofNat a.toNat
 | _ => 0
def av4 : Value → Int
 | .int _ a => a
 | _ => 0
def ivl (cs : List Value) (i : Nat) : Int := av4 (cs.getD i undef)
def a1L (cs : List Value) : Ng := ⟨ivl cs 0, ivl cs 1, (ivl cs 2).toNat, (ivl cs 3).toNat, ivl cs 4, ivl cs 5, ivl cs 6, ((cs.drop 7).take 16).map a5m, ivl cs 23⟩
def Ng.ok (x : Ng) : Prop := x.n ≤ 4294967295 ∧ x.m ≤ 4294967295 ∧ x.addr.length = 16
theorem ag5 {H : Type} {enc : TypeId × Value → H} {W : World} {base : Nat} {spare : Nat → Bool} {held : Bool} {fuel : Nat} {cs : List Value} {x : DataW H × List MemPlace}
  (h : DataW.trod enc Tryz.prog W base spare held fuel 41 cs = some x) : cs.length = 16 ∧ ∀ i (hi : i < cs.length), cs[i] = .int .u8 ((a5m cs[i]).toNat : Int) := by
 obtain ⟨ys, m, _, rfl, hl, hlen, hf⟩ := DataW.trod_array Tryz.underlying41 h
 rw [a7J] at hl
 refine ⟨hl, fun i hi => ?_⟩
 have f := hf i (by omega)
 rw [am0, Nat.mul_one, List.getElem?_eq_getElem (by omega), List.drop_eq_getElem_cons hi, List.take_succ_cons, List.take_zero] at f
 obtain ⟨k, e, _, w⟩ := DataW.trod_int Tryz.underlying5 f
 simp only [List.cons.injEq, and_true] at e
 have b := bounds_u8 w
 rw [e]
 have z : ((UInt8.ofNat k.toNat).toNat : Int) = k := by simp; omega
 simp only [a5m, z]
theorem a2X {H : Type} {enc : TypeId × Value → H} {W : World} {base : Nat} {spare : Nat → Bool} {held : Bool} {fuel : Nat} {cs : List Value} {x : DataW H × List MemPlace} (o : Nat) (ho : o < cs.length)
  (h : DataW.trod enc Tryz.prog W base spare held fuel 3 ((cs.drop o).take 1) = some x) : cs[o] = .int .i64 (ivl cs o) := by
 rw [List.drop_eq_getElem_cons ho, List.take_succ_cons, List.take_zero] at h
 obtain ⟨k, e, _, _⟩ := DataW.trod_int Tryz.underlying3 h
 simp only [List.cons.injEq, and_true] at e
 unfold ivl
 rw [List.getD_eq_getElem?_getD, List.getElem?_eq_getElem ho, e]
 rfl
theorem a9c {H : Type} {enc : TypeId × Value → H} {W : World} {base : Nat} {spare : Nat → Bool} {held : Bool} {fuel : Nat} {cs : List Value} {x : DataW H × List MemPlace} (o : Nat) (ho : o < cs.length)
  (h : DataW.trod enc Tryz.prog W base spare held fuel 40 ((cs.drop o).take 1) = some x) : cs[o] = .int .u32 ((ivl cs o).toNat : Int) ∧ (ivl cs o).toNat ≤ 4294967295 := by
 rw [List.drop_eq_getElem_cons ho, List.take_succ_cons, List.take_zero] at h
 obtain ⟨k, e, _, w⟩ := DataW.trod_int Tryz.underlying40 h
 simp only [List.cons.injEq, and_true] at e
 have b := bounds_u32 w
 have hi : ivl cs o = k := by
  unfold ivl
  rw [List.getD_eq_getElem?_getD, List.getElem?_eq_getElem ho, e]
  rfl
 rw [hi]
 refine ⟨?_, by omega⟩
 rw [e]
 congr 1
 omega
theorem a96 {H : Type} {enc : TypeId × Value → H} {W : World} {base : Nat} {spare : Nat → Bool} {held : Bool} {fuel : Nat} {cs : List Value} {x : DataW H × List MemPlace} (h : DataW.trod enc Tryz.prog W base spare held fuel 43 cs = some x) : cs = (a1L cs).cells ∧ (a1L cs).ok := by
 obtain ⟨ys, n, _, rfl, hl, hlen, hf⟩ := DataW.trod_struct Tryz.underlying43 h
 rw [a7K] at hl
 have hy9 : ys.length = 9 := hlen
 have hy : ∀ i, i < 9 → ∃ y, ys[i]? = some y := fun i hi => ⟨ys[i], List.getElem?_eq_getElem (by omega)⟩
 have f0 : DataW.trod enc Tryz.prog W base spare held n 3 ((cs.drop 0).take (Tryz.prog.cellsOf 3)) = ys[0]? := hf 0 _ rfl
 have f1 : DataW.trod enc Tryz.prog W base spare held n 3 ((cs.drop 1).take (Tryz.prog.cellsOf 3)) = ys[1]? := hf 1 _ rfl
 have f2 : DataW.trod enc Tryz.prog W base spare held n 40 ((cs.drop 2).take (Tryz.prog.cellsOf 40)) = ys[2]? := hf 2 _ rfl
 have f3 : DataW.trod enc Tryz.prog W base spare held n 40 ((cs.drop 3).take (Tryz.prog.cellsOf 40)) = ys[3]? := hf 3 _ rfl
 have f4 : DataW.trod enc Tryz.prog W base spare held n 3 ((cs.drop 4).take (Tryz.prog.cellsOf 3)) = ys[4]? := hf 4 _ rfl
 have f5 : DataW.trod enc Tryz.prog W base spare held n 3 ((cs.drop 5).take (Tryz.prog.cellsOf 3)) = ys[5]? := hf 5 _ rfl
 have f6 : DataW.trod enc Tryz.prog W base spare held n 3 ((cs.drop 6).take (Tryz.prog.cellsOf 3)) = ys[6]? := hf 6 _ rfl
 have f7 : DataW.trod enc Tryz.prog W base spare held n 41 ((cs.drop 7).take (Tryz.prog.cellsOf 41)) = ys[7]? := hf 7 _ rfl
 have f8 : DataW.trod enc Tryz.prog W base spare held n 3 ((cs.drop 23).take (Tryz.prog.cellsOf 3)) = ys[8]? := hf 8 _ rfl
 rw [am1] at f0 f1 f4 f5 f6 f8
 rw [am2] at f2 f3
 rw [a7J] at f7
 obtain ⟨y0, h0⟩ := hy 0 (by omega)
 obtain ⟨y1, h1⟩ := hy 1 (by omega)
 obtain ⟨y2, h2⟩ := hy 2 (by omega)
 obtain ⟨y3, h3⟩ := hy 3 (by omega)
 obtain ⟨y4, h4⟩ := hy 4 (by omega)
 obtain ⟨y5, h5⟩ := hy 5 (by omega)
 obtain ⟨y6, h6⟩ := hy 6 (by omega)
 obtain ⟨y7, h7⟩ := hy 7 (by omega)
 obtain ⟨y8, h8⟩ := hy 8 (by omega)
 have e0 := a2X 0 (by omega) (f0.trans h0)
 have e1 := a2X 1 (by omega) (f1.trans h1)
 have e2 := a9c 2 (by omega) (f2.trans h2)
 have e3 := a9c 3 (by omega) (f3.trans h3)
 have e4 := a2X 4 (by omega) (f4.trans h4)
 have e5 := a2X 5 (by omega) (f5.trans h5)
 have e6 := a2X 6 (by omega) (f6.trans h6)
 have e8 := a2X 23 (by omega) (f8.trans h8)
 obtain ⟨l7, e7⟩ := ag5 (f7.trans h7)
 have a7 : ∀ i (hi : i < 16), cs[7 + i]'(by omega) = adg (a1L cs) i := fun i hi => by
  have := e7 i (by omega)
  rw [List.getElem_take, List.getElem_drop] at this
  rw [this]
  unfold adg a1L
  simp only
  rw [List.getD_eq_getElem?_getD, List.getElem?_map, List.getElem?_eq_getElem (by omega), List.getElem_take, List.getElem_drop]
  rfl
 refine ⟨?_, e2.2, e3.2, by simp [a1L, hl]⟩
 apply List.ext_getElem
 ·rw [hl]; rfl
 ·intro i hi1 hi2
  have hi : i < 24 := by omega
  have : i = 0 ∨ i = 1 ∨ i = 2 ∨ i = 3 ∨ i = 4 ∨ i = 5 ∨ i = 6 ∨ i = 7 ∨ i = 8 ∨ i = 9 ∨ i = 10 ∨ i = 11 ∨ i = 12 ∨ i = 13 ∨ i = 14 ∨ i = 15 ∨ i = 16 ∨ i = 17 ∨ i = 18 ∨ i = 19 ∨ i = 20 ∨ i = 21 ∨ i = 22 ∨ i = 23 := by omega
  rcases this with rfl | rfl | rfl | rfl | rfl | rfl | rfl | rfl | rfl | rfl | rfl | rfl | rfl | rfl | rfl | rfl | rfl | rfl | rfl | rfl | rfl | rfl | rfl | rfl
  ·exact e0
  ·exact e1
  ·exact e2.1
  ·exact e3.1
  ·exact e4
  ·exact e5
  ·exact e6
  ·exact a7 0 (by omega)
  ·exact a7 1 (by omega)
  ·exact a7 2 (by omega)
  ·exact a7 3 (by omega)
  ·exact a7 4 (by omega)
  ·exact a7 5 (by omega)
  ·exact a7 6 (by omega)
  ·exact a7 7 (by omega)
  ·exact a7 8 (by omega)
  ·exact a7 9 (by omega)
  ·exact a7 10 (by omega)
  ·exact a7 11 (by omega)
  ·exact a7 12 (by omega)
  ·exact a7 13 (by omega)
  ·exact a7 14 (by omega)
  ·exact a7 15 (by omega)
  ·exact e8
theorem aH4 {H : Type} {enc : TypeId × Value → H} {W : World} {d : DataW H} {ps : List MemPlace} {a : Option Addr} {len cap : Nat}
  (h : DataW.Trod enc Tryz.prog W 0 (fun _ => true) true 22 (.slice a len cap) d ps) :
  ∃ xs : List Ng, len = xs.length ∧ CV W a (p9 xs) ∧ (a = none → cap = 0) ∧ (xs.length ≤ cap ∧ cap ≤ maxLen) ∧ (∀ x ∈ xs, x.ok) ∧ ((d = .nil ∧ xs = []) ∨ ∃ elems spare, d = .slice elems spare ∧ xs.length ≤ elems.length + spare.length) := by
 obtain ⟨fuel, hf⟩ := h
 rcases Go.Deep.open_slice Tryz.underlying22 hf with ⟨hcs, hx⟩ | ⟨x, l, c, m, n, D, Pl, hcs, _, hl, hm, hmm, hx, hcell⟩
 ·simp [Value.cells] at hcs
  obtain ⟨rfl, rfl, rfl⟩ := hcs
  simp only [Prod.mk.injEq] at hx
  exact ⟨[], rfl, ⟨fun _ => rfl, fun ad had => (by cases had)⟩, fun _ => rfl, ⟨Nat.le_refl _, Nat.zero_le _⟩, (fun x hx => by cases hx), .inl ⟨hx.1, rfl⟩⟩
 ·simp [Value.cells] at hcs
  obtain ⟨rfl, rfl, rfl⟩ := hcs
  simp only [Prod.mk.injEq] at hx
  simp only [if_true] at hmm
  have hmm' : m = cap := hmm
  rw [a7K] at hcell
  have hlen : ((List.range len).map fun i => a1L ((W.cells? 0 (x.add (i * 24)) 24).getD [])).length = len := by simp
  refine ⟨(List.range len).map fun i => a1L ((W.cells? 0 (x.add (i * 24)) 24).getD []), hlen.symm, ⟨fun h => (by cases h), fun ad had q hq => ?_⟩, fun h => (by cases h), ⟨by rw [hlen]; exact hl, hm⟩, fun y hy => ?_, .inr ⟨_, _, hx.1, ?_⟩⟩
  ·obtain rfl := Option.some.inj had
   have hq4 : q < len * 24 := by rw [a5F, hlen] at hq; exact hq
   obtain ⟨cs', hcs', htr⟩ := hcell (q / 24) (by omega)
   obtain ⟨_, hl4, hget⟩ := World.cells?_some hcs'
   have hk := (a96 htr).1
   have hj : q % 24 < 24 := Nat.mod_lt _ (by decide)
   have e1 : (x.add (q / 24 * 24)).add (q % 24) = x.add q := by
    rw [Addr.add_add]
    congr 1
    omega
   have e2 := hget (q % 24) hj
   rw [e1] at e2
   rw [e2]
   have e3 := a88 ((List.range len).map fun i => a1L ((W.cells? 0 (x.add (i * 24)) 24).getD [])) (q / 24) (q % 24) (by rw [hlen]; omega) hj
   rw [show q / 24 * 24 + q % 24 = q by omega, List.getElem?_eq_getElem hq] at e3
   rw [e3]
   simp only [List.getElem_map, List.getElem_range, hcs', Option.getD_some]
   rw [← hk]
  ·obtain ⟨i, hi, rfl⟩ := List.mem_map.1 hy
   rw [List.mem_range] at hi
   obtain ⟨cs', hcs', htr⟩ := hcell i (by omega)
   rw [hcs', Option.getD_some]
   exact (a96 htr).2
  ·rw [hlen]
   simp
theorem aq4 {t : List Ng} (h : (J4 t).2 = 0) (hao : ∀ x ∈ t, x.ok) {T : Tr} (hT : T.Wf) (hf : T.flat = t) : T.Good ∧ T.Typed ∧ (∀ x ∈ T.flat, ae8 x) ∧ ∀ full, (T.txt full).1.length ≤ 65536 := by
 obtain ⟨q, hq, -, hw⟩ := a3v.1 h
 obtain ⟨h1, -⟩ := a81 h hT hf
 rw [hf]
 refine ⟨⟨hT, fun x hx => ?_⟩, h1, fun x hx => ⟨(hao x hx).1, (hao x hx).2.1⟩, fun full => ?_⟩
 ·rw [hf] at hx
  have := a4Y t [] _ 0 hq x hx
  exact ⟨this.1, this.2.1, (hao x hx).2.2⟩
 ·have := a4T full hT
  rw [hf] at this
  omega
theorem aq3 {t : List Ng} (h : (J4 t).2 = 0) (hao : ∀ x ∈ t, x.ok) : ∀ x ∈ t, a1F x := fun x hx => by
 obtain ⟨q, hq, -, -⟩ := a3v.1 h
 have hw := a4Y t [] _ 0 hq x hx
 obtain ⟨g1, g2, g3, g4, g5, g6, g7, g8, -⟩ := a4a hw.1 hw.2.1
 have h1 := (hao x hx).1
 have h2 := (hao x hx).2.1
 refine ⟨by omega, by omega, by omega, fun hk => ?_⟩
 have := g8 hk
 omega
def a2J (xs ys : List Ng) : Prop := xs.length = ys.length ∧ ∀ i (h1 : i < xs.length) (h2 : i < ys.length), a0a xs[i] ys[i] = true
theorem a9M {x y : Ng} (hx : x.addr.length = 16) (hy : y.addr.length = 16) : a0a x y = true ↔ x = y := by
 have key : ∀ z : Ng, z.addr.length = 16 → k8 z = z.addr := fun z hl => by
  unfold k8
  generalize z.addr = l at *
  match l, hl with
  | [_, _, _, _, _, _, _, _, _, _, _, _, _, _, _, _], _ => rfl
 unfold a0a
 rw [key x hx, key y hy]
 cases x
 cases y
 simp
 constructor
 ·rintro ⟨⟨⟨⟨⟨⟨⟨⟨h1, h2⟩, h3⟩, h4⟩, h5⟩, h6⟩, h7⟩, h8⟩, h9⟩
  exact ⟨h1, h2, h3, h4, h5, h6, h7, h8, h9⟩
 ·rintro ⟨h1, h2, h3, h4, h5, h6, h7, h8, h9⟩
  exact ⟨⟨⟨⟨⟨⟨⟨⟨h1, h2⟩, h3⟩, h4⟩, h5⟩, h6⟩, h7⟩, h8⟩, h9⟩
theorem aR1 {xs ys : List Ng} (hx : ∀ x ∈ xs, x.addr.length = 16) (hy : ∀ x ∈ ys, x.addr.length = 16) : a2J xs ys ↔ xs = ys := by
 constructor
 ·rintro ⟨h1, h2⟩
  refine List.ext_getElem h1 fun i g1 g2 => ?_
  exact (a9M (hx _ (List.getElem_mem g1)) (hy _ (List.getElem_mem g2))).1 (h2 i g1 g2)
 ·rintro rfl
  exact ⟨rfl, fun i g1 g2 => (a9M (hx _ (List.getElem_mem g1)) (hx _ (List.getElem_mem g1))).2 rfl⟩
def SmE (xs ys : List Ng) (w : World) (e : Ending) (w' : World) : Prop := ∃ r : Bool, ((r = true) ↔ a2J xs ys) ∧ e = .returned (.bool r) ∧ ∃ n, w' = w.drewN n
theorem at7 (a b : Option Addr) (ca cb : Nat) (xs ys : List Ng) (w : World) (ha : CV w a (p9 xs)) (hb : CV w b (p9 ys)) (hm : xs.length ≤ 9223372036854775807) :
  Calls Tryz.prog 18 #[.slice a xs.length ca, .slice b ys.length cb] w fun e w' => SmE xs ys w e w' := by
 by_cases hlen : xs.length = ys.length
 rotate_left
 ·have hne : ((xs.length : Int) != (ys.length : Int)) = true := by rw [bne_iff_ne]; omega
  have HF : Hid ((false = true) ↔ a2J xs ys) := ⟨fun h => (by cases h), fun h => absurd h.1 hlen⟩
  clear hlen ha hb
  go_enter Tryz.func18, Tryz.ntmps18
  go_wp2
  go_ret
  exact ⟨false, (by first | exact HF.out | simpa using HF.out), rfl, 0, rfl⟩
 have HLE : Hid (xs.length = ys.length) := hlen
 rw [← hlen]
 clear hlen
 have hne : ((xs.length : Int) != (xs.length : Int)) = false := by simp
 go_enter Tryz.func18, Tryz.ntmps18
 go_wp2
 go_loopw [5] (fun i wr => ∃ k : Nat, k ≤ xs.length ∧ i = .int .i64 k ∧ (∃ n, wr = w.drewN n) ∧ Hid (∀ j (h1 : j < xs.length) (h2 : j < ys.length), j < k → a0a xs[j] ys[j] = true)) (fun i _ => xs.length - (intOf i).toNat)
 case atStart => exact ⟨0, Nat.zero_le _, rfl, ⟨0, rfl⟩, fun j _ _ h => absurd h (Nat.not_lt_zero _)⟩
 case round =>
  obtain ⟨k, hk, rfl, ⟨n, rfl⟩, HS⟩ := hrel
  by_cases hlt : k < xs.length
  ·obtain ⟨b1, o1, rfl, -⟩ := ha.ngs hlt
   have hlt2 : k < ys.length := HLE.out ▸ hlt
   obtain ⟨b2, o2, rfl, -⟩ := hb.ngs hlt2
   have HA : Hid (∀ W, (∃ n, W = w.drewN n) → W.rangeAt b1 (o1 + k * 24) xs[k].cells) := fun W ⟨n, hW⟩ => by
    obtain ⟨b, o, e, h⟩ := (ha.keptNone (hW ▸ f9 w n none)).ngs hlt
    simp only [Option.some.injEq, Addr.mk.injEq] at e
    obtain ⟨rfl, rfl, -⟩ := e
    exact h k hlt
   have HB : Hid (∀ W, (∃ n, W = w.drewN n) → W.rangeAt b2 (o2 + k * 24) ys[k].cells) := fun W ⟨n, hW⟩ => by
    obtain ⟨b, o, e, h⟩ := (hb.keptNone (hW ▸ f9 w n none)).ngs hlt2
    simp only [Option.some.injEq, Addr.mk.injEq] at e
    obtain ⟨rfl, rfl, -⟩ := e
    exact h k hlt2
   have HEQ := fun W => a95 xs[k] ys[k] W
   have HSX : Hid ((Tryz.prog.info? 43).map (·.size) = some xs[k].cells.length) := a3d
   have HSY : Hid ((Tryz.prog.info? 43).map (·.size) = some ys[k].cells.length) := a3d
   have HNEXT : Hid (a0a xs[k] ys[k] = true → ∀ j (h1 : j < xs.length) (h2 : j < ys.length), j < k + 1 → a0a xs[j] ys[j] = true) := fun h j h1 h2 hj => by
    by_cases hjk : j < k
    ·exact HS.out j h1 h2 hjk
    ·obtain rfl : j = k := by omega
     exact h
   have HNO : Hid (a0a xs[k] ys[k] = false → ((false = true) ↔ a2J xs ys)) := fun h => ⟨fun h => (by cases h), fun hs => (by rw [hs.2 k hlt hlt2] at h; cases h)⟩
   clear ha hb HS
   generalize a0a xs[k] ys[k] = sb at *
   generalize xs[k].cells = cs at *
   generalize ys[k].cells = ds at *
   have hl : (k : Int) < (xs.length : Int) := by omega
   have z0 : (0 : Int) ≤ (k : Int) := by omega
   go_upto_region 6 with fail
   refine wp_region_held_drew (S := fun W => ∃ n, W = w.drewN n) (by kernel_rfl) ⟨n + 1, rfl⟩ (fun hHeld => ?_)
   refine wpT (i := 0) (v := .slice (some ⟨b1, o1, none⟩) xs.length ca) rfl (Or.inl ⟨by rfl, fun W hW => ?_⟩) hHeld ?_
   ·clear hW
    go_simp
   try simp only [Act.put, a0, a1, a3, a4, a5]
   refine wpT (i := 1) (v := .int .i64 (k : Int)) rfl (Or.inl ⟨by rfl, fun W hW => ?_⟩) hHeld ?_
   ·clear hW
    go_simp
   try simp only [Act.put, a0, a1, a2, a3, a4, a5]
   refine wpT (i := 2) (v := .pointer (some ⟨b1, o1 + k * 24, none⟩)) rfl (Or.inl ⟨by rfl, fun W hW => ?_⟩) hHeld ?_
   ·clear hW
    go_simp
   try simp only [Act.put, a0, a1, a2, a3, a4, a5]
   refine wpT (i := 3) (v := .agg cs.toArray) rfl (yieldsIf_load_mid (by rfl) _ _ rfl _ _ rfl cs _ (fun W hW => HA.out W hW) Tryz.underlying43 rfl HSX.out) hHeld ?_
   try simp only [Act.put, a0, a1, a2, a3, a4, a5]
   refine wpT (i := 4) (v := .slice (some ⟨b2, o2, none⟩) xs.length cb) rfl (Or.inl ⟨by rfl, fun W hW => ?_⟩) hHeld ?_
   ·clear hW
    go_simp
   try simp only [Act.put, a0, a1, a2, a3, a4, a5]
   refine wpT (i := 5) (v := .int .i64 (k : Int)) rfl (Or.inl ⟨by rfl, fun W hW => ?_⟩) hHeld ?_
   ·clear hW
    go_simp
   try simp only [Act.put, a0, a1, a2, a3, a4, a5]
   refine wpT (i := 6) (v := .pointer (some ⟨b2, o2 + k * 24, none⟩)) rfl (Or.inl ⟨by rfl, fun W hW => ?_⟩) hHeld ?_
   ·clear hW
    go_simp
   try simp only [Act.put, a0, a1, a2, a3, a4, a5]
   refine wpT (i := 7) (v := .agg ds.toArray) rfl (yieldsIf_load_mid (by rfl) _ _ rfl _ _ rfl ds _ (fun W hW => HB.out W hW) Tryz.underlying43 rfl HSY.out) hHeld ?_
   try simp only [Act.put, a0, a1, a2, a3, a4, a5]
   refine wpT (i := 8) (v := .bool (!sb)) rfl (Or.inl ⟨by rfl, fun W hW => ?_⟩) hHeld ?_
   ·clear hW
    go_simp
   try simp only [Act.put, a0, a1, a2, a3, a4, a5]
   refine wpAnyH_done (by kernel_rfl) ?_ _
   obtain ⟨n', hn'⟩ := hHeld
   clear HA HB HSX HSY HEQ
   cases sb with
   | true =>
    go_wp2
    go_roundw
    case rel => exact ⟨k + 1, by omega, by go_num, ⟨n', by first | rfl | exact hn'⟩, HNEXT.out rfl⟩
    case measure => simp [intOf]; omega
   | false =>
    go_wp2
    go_ret
    exact ⟨false, (by first | exact HNO.out rfl | simpa using HNO.out trivial | simpa using HNO.out), rfl, n', by first | rfl | exact hn'⟩
  ·obtain rfl : k = xs.length := by omega
   have HT : Hid ((true = true) ↔ a2J xs ys) := ⟨fun _ => ⟨HLE.out, fun j h1 h2 => HS.out j h1 h2 h1⟩, fun _ => rfl⟩
   have hl' : ¬ (xs.length : Int) < (xs.length : Int) := by omega
   clear hlt
   go_wp2
   go_ret
   exact ⟨true, (by first | exact HT.out | simpa using HT.out), rfl, n, rfl⟩
theorem a1T (s : ByteArray) (k : Nat) (hk : k < s.size) : (sl s)[k]? = some s[k] := by
 have := a0c s k hk
 have h2 : ((sl s).drop k)[0]? = some s[k] := by rw [this]; rfl
 simpa using h2
def tkA (q p : Nat) (t : List UInt8) (n : Nat) : Array Value := #[.int .i64 (q : Int), .int .i64 (p : Int), str t, .int .u32 (n : Int)]
theorem I9 : (Tryz.prog.info? 99).map (·.size) = some 4 := by kernel_rfl
def a2E (p : Nat) (x : Except Int (Nat × List UInt8 × Nat)) : Array Value := match x with
 | .ok (q, t, n) => tkA q p t n
 | .error _ => tkA 0 0 [] 0
def a2F (x : Except Int (Nat × List UInt8 × Nat)) : Int := match x with
 | .ok _ => 0
 | .error e => e
def Tk.cells (x : Tk) : List Value := [.int .i64 (x.kind : Int), .int .i64 (x.pos : Int), str x.text, .int .u32 (x.num : Int)]
def a08 (xs : List Tk) : List Value := xs.flatMap Tk.cells
theorem a8b (x : Tk) (xs : List Tk) : a08 (x :: xs) = x.cells ++ a08 xs := rfl
theorem a8a (xs ys : List Tk) : a08 (xs ++ ys) = a08 xs ++ a08 ys := by simp only [a08, List.flatMap_append]
theorem ar9 (xs : List Tk) : (a08 xs).length = xs.length * 4 := by
 induction xs with
 | nil => rfl
 | cons x xs ih => rw [a8b, List.length_append, ih, List.length_cons]; simp [Tk.cells]; omega
theorem ar8 (xs : List Tk) (i j : Nat) (hi : i < xs.length) (hj : j < 4) : (a08 xs)[i * 4 + j]? = (xs[i].cells)[j]? := by
 induction xs generalizing i with
 | nil => simp at hi
 | cons x xs ih =>
  rw [a8b]
  have hl : x.cells.length = 4 := rfl
  cases i with
  | zero => rw [List.getElem?_append_left (by omega)]; simp
  | succ i =>
   rw [List.getElem?_append_right (by omega), hl, show (i + 1) * 4 + j - 4 = i * 4 + j by omega, ih i (by simpa using hi)]
   simp
theorem CV.toks {w : World} {ao : Option Addr} {xs : List Tk} (h : CV w ao (a08 xs)) {k : Nat} (hk : k < xs.length) :
  ∃ b off, ao = some ⟨b, off, none⟩ ∧ ∀ i (hi : i < xs.length), w.cell? ⟨b, off + i * 4, none⟩ = some (.int .i64 (xs[i].kind : Int)) ∧ w.cell? ⟨b, off + i * 4 + 1, none⟩ = some (.int .i64 (xs[i].pos : Int)) ∧
   w.cell? ⟨b, off + i * 4 + 2, none⟩ = some (str xs[i].text) ∧ w.cell? ⟨b, off + i * 4 + 3, none⟩ = some (.int .u32 (xs[i].num : Int)) := by
 have hl := ar9 xs
 obtain ⟨b, off, hao, hc⟩ := h.addr (k := k * 4) (by omega)
 refine ⟨b, off, hao, fun i hi => ?_⟩
 have key : ∀ j (hj : j < 4), w.cell? ⟨b, off + i * 4 + j, none⟩ = (xs[i].cells)[j]? := fun j hj => by
  rw [← ar8 xs i j hi hj, Nat.add_assoc, hc (i * 4 + j) (by omega), List.getElem?_eq_getElem (by omega)]
 exact ⟨key 0 (by omega), key 1 (by omega), key 2 (by omega), key 3 (by omega)⟩
theorem av1 : (Tryz.prog.info? 99).map (fun i => (i.zero, i.size, i.bytes)) = some (some (.agg #[.int .i64 0, .int .i64 0, .string .empty, .int .u32 0]), 4, 40) := by kernel_rfl
abbrev V8 (w : World) (base : Nat) (v : Value) (xs : List Tk) : Prop := w.ownsRow base 99 4 v xs.length (a08 xs)
def a5e (w : World) (row : Option Nat) (g g' n n' : Nat) (wr : World) : Prop := J9 wr 99 g n ∧ J9 wr 99 g' n' ∧ w.grownBy wr row
theorem a5e.set {w wr : World} {row : Option Nat} {g g' n n' : Nat} (h : a5e w row g g' n n' wr) {p : Addr} (hp : row = some p.block ∨ w.heap.size ≤ p.block) (u : Value) : a5e w row g g' n n' (wr.setCell p u) :=
 ⟨h.1.setCell _ _, h.2.1.setCell _ _, N8 h.2.2 _ _ hp⟩
def a8N (x : Except (Nat × Int) (List Tk)) : List Tk := match x with
 | .ok ts => ts
 | .error _ => []
def a63 (x : Except (Nat × Int) (List Tk)) : Nat := match x with
 | .ok _ => 0
 | .error e => e.1
def a61 (x : Except (Nat × Int) (List Tk)) : Int := match x with
 | .ok _ => 0
 | .error e => e.2
def a27 (us : List Tk) (x : Except (Nat × Int) (List Tk)) : Except (Nat × Int) (List Tk) := match x with
 | .ok ts => .ok (us ++ ts)
 | .error e => .error e
theorem ac1 {s : List UInt8} {e : Int} (h : o6 s = .error e) : (e != 0) = true := by
 unfold o6 at h
 split at h
 ·cases h
 ·split at h
  ·split at h
   ·cases h
   ·split at h
    ·cases h; rfl
    ·cases h
  ·split at h
   ·cases h
   ·split at h
    ·cases h; rfl
    ·cases h
def o8 (n : Nat) : Nat :=
 if n = 32 ∨ n = 9 ∨ n = 10 ∨ n = 13 then 1 else if 48 ≤ n ∧ n ≤ 57 then 2 else if 97 ≤ n ∧ n ≤ 102 then 3 else if 103 ≤ n ∧ n ≤ 122 then 4 else if n = 58 then 5 else if n = 46 then 6 else 0
theorem a3z (n : Nat) (w : World) :
  Calls Tryz.prog 83 #[.int .u8 (n : Int)] w fun e w' => e = .returned (.int .i64 (o8 n : Int)) ∧ w = w' := by
 have e1 : ∀ k : Nat, ((n : Int) == (k : Int)) = decide (n = k) := fun k => by
  by_cases h : n = k
  ·subst h; simp
  ·rw [beq_eq_false_iff_ne.2 (by omega), decide_eq_false h]
 have d32 := e1 32
 have d9 := e1 9
 have d10 := e1 10
 have d13 := e1 13
 have d58 := e1 58
 have d46 := e1 46
 clear e1
 unfold o8
 by_cases hb : n = 32 ∨ n = 9 ∨ n = 10 ∨ n = 13
 ·rw [if_pos hb]
  rcases hb with rfl | rfl | rfl | rfl <;>
  ·go_enter Tryz.func83, Tryz.ntmps83
   go_wp2
   go_ret
   exact ⟨rfl, rfl⟩
 rw [if_neg hb]
 have b32 : ((n : Int) == 32) = false := by rw [beq_eq_false_iff_ne]; omega
 have b9 : ((n : Int) == 9) = false := by rw [beq_eq_false_iff_ne]; omega
 have b10 : ((n : Int) == 10) = false := by rw [beq_eq_false_iff_ne]; omega
 have b13 : ((n : Int) == 13) = false := by rw [beq_eq_false_iff_ne]; omega
 clear d32 d9 d10 d13 d58 d46 hb
 by_cases hd : 48 ≤ n ∧ n ≤ 57
 ·rw [if_pos hd]
  have i1 : (48 : Int) ≤ (n : Int) := by omega
  have i2 : (n : Int) ≤ 57 := by omega
  clear hd
  go_enter Tryz.func83, Tryz.ntmps83
  go_wp2
  go_ret
  exact ⟨rfl, rfl⟩
 rw [if_neg hd]
 by_cases hx : 97 ≤ n ∧ n ≤ 102
 ·rw [if_pos hx]
  have i1 : (48 : Int) ≤ (n : Int) := by omega
  have i2 : ¬ (n : Int) ≤ 57 := by omega
  have i3 : (97 : Int) ≤ (n : Int) := by omega
  have i4 : (n : Int) ≤ 102 := by omega
  clear hd hx
  go_enter Tryz.func83, Tryz.ntmps83
  go_wp2
  go_ret
  exact ⟨rfl, rfl⟩
 rw [if_neg hx]
 by_cases hl : 103 ≤ n ∧ n ≤ 122
 ·rw [if_pos hl]
  have i1 : (48 : Int) ≤ (n : Int) := by omega
  have i2 : ¬ (n : Int) ≤ 57 := by omega
  have i3 : (97 : Int) ≤ (n : Int) := by omega
  have i4 : ¬ (n : Int) ≤ 102 := by omega
  have i5 : (103 : Int) ≤ (n : Int) := by omega
  have i6 : (n : Int) ≤ 122 := by omega
  clear hd hx hl
  go_enter Tryz.func83, Tryz.ntmps83
  go_wp2
  go_ret
  exact ⟨rfl, rfl⟩
 rw [if_neg hl]
 by_cases h58 : n = 58
 ·rw [if_pos h58]
  subst h58
  clear b32 b9 b10 b13 hd hx hl
  go_enter Tryz.func83, Tryz.ntmps83
  go_wp2
  go_ret
  exact ⟨rfl, rfl⟩
 rw [if_neg h58]
 have b58 : ((n : Int) == 58) = false := by rw [beq_eq_false_iff_ne]; omega
 by_cases h46 : n = 46
 ·rw [if_pos h46]
  subst h46
  clear b32 b9 b10 b13 hd hx hl b58
  go_enter Tryz.func83, Tryz.ntmps83
  go_wp2
  go_ret
  exact ⟨rfl, rfl⟩
 rw [if_neg h46]
 have b46 : ((n : Int) == 46) = false := by rw [beq_eq_false_iff_ne]; omega
 have c1 : (decide ((48 : Int) ≤ (n : Int)) && decide ((n : Int) ≤ 57)) = false := by simp; omega
 have c2 : (decide ((97 : Int) ≤ (n : Int)) && decide ((n : Int) ≤ 102)) = false := by simp; omega
 have c3 : (decide ((103 : Int) ≤ (n : Int)) && decide ((n : Int) ≤ 122)) = false := by simp; omega
 have hs : n < 48 ∨ (57 < n ∧ n < 97) ∨ 122 < n := by omega
 clear h58 h46 hl c1 c2 c3
 rcases hs with h | ⟨h, h'⟩ | h
 ·have i1 : ¬ (48 : Int) ≤ (n : Int) := by omega
  have i3 : ¬ (97 : Int) ≤ (n : Int) := by omega
  have i5 : ¬ (103 : Int) ≤ (n : Int) := by omega
  clear hd hx h
  go_enter Tryz.func83, Tryz.ntmps83
  go_wp2
  go_ret
  exact ⟨rfl, rfl⟩
 ·have i1 : (48 : Int) ≤ (n : Int) := by omega
  have i2 : ¬ (n : Int) ≤ 57 := by omega
  have i3 : ¬ (97 : Int) ≤ (n : Int) := by omega
  have i5 : ¬ (103 : Int) ≤ (n : Int) := by omega
  clear hd hx h h'
  go_enter Tryz.func83, Tryz.ntmps83
  go_wp2
  go_ret
  exact ⟨rfl, rfl⟩
 ·have i1 : (48 : Int) ≤ (n : Int) := by omega
  have i2 : ¬ (n : Int) ≤ 57 := by omega
  have i3 : (97 : Int) ≤ (n : Int) := by omega
  have i4 : ¬ (n : Int) ≤ 102 := by omega
  have i5 : (103 : Int) ≤ (n : Int) := by omega
  have i6 : ¬ (n : Int) ≤ 122 := by omega
  clear hd hx h
  go_enter Tryz.func83, Tryz.ntmps83
  go_wp2
  go_ret
  exact ⟨rfl, rfl⟩
theorem ax8 (c : UInt8) : ((o8 c.toNat : Int) == 1) = I3 c := by
 have h : ∀ k : Fin 256, ((o8 k.1 : Int) == 1) = I3 (UInt8.ofNat k.1) := by decide +kernel
 have := h ⟨c.toNat, c.toNat_lt⟩
 simpa using this
theorem a1v (c : UInt8) : o8 c.toNat ≤ 6 ∧ m7 c = decide (o8 c.toNat = 2 ∨ o8 c.toNat = 3 ∨ o8 c.toNat = 5) ∧ t8 c = decide (o8 c.toNat = 2 ∨ o8 c.toNat = 6) ∧ j9 c = decide (o8 c.toNat = 2 ∨ o8 c.toNat = 3 ∨ o8 c.toNat = 4) ∧
  decide (c = 58) = decide (o8 c.toNat = 5) ∧ decide (c = 46) = decide (o8 c.toNat = 6) ∧ H9 c = decide (o8 c.toNat = 2) ∧ a0Y c = decide (o8 c.toNat = 3 ∨ o8 c.toNat = 4) := by
 have h : ∀ k : Fin 256, o8 k.1 ≤ 6 ∧ m7 (UInt8.ofNat k.1) = decide (o8 k.1 = 2 ∨ o8 k.1 = 3 ∨ o8 k.1 = 5) ∧ t8 (UInt8.ofNat k.1) = decide (o8 k.1 = 2 ∨ o8 k.1 = 6) ∧ j9 (UInt8.ofNat k.1) = decide (o8 k.1 = 2 ∨ o8 k.1 = 3 ∨ o8 k.1 = 4) ∧
  decide (UInt8.ofNat k.1 = 58) = decide (o8 k.1 = 5) ∧ decide (UInt8.ofNat k.1 = 46) = decide (o8 k.1 = 6) ∧ H9 (UInt8.ofNat k.1) = decide (o8 k.1 = 2) ∧ a0Y (UInt8.ofNat k.1) = decide (o8 k.1 = 3 ∨ o8 k.1 = 4) := by decide +kernel
 have := h ⟨c.toNat, c.toNat_lt⟩
 simpa only [UInt8.ofNat_toNat] using this
theorem aw6 (c : UInt8) (w : World) :
  Calls Tryz.prog 82 #[.int .u8 (c.toNat : Int)] w fun e w' => e = .returned (.bool (I3 c)) ∧ w = w' := by
 rw [← ax8 c]
 have C := a3z c.toNat w
 generalize o8 c.toNat = q at *
 go_enter Tryz.func82, Tryz.ntmps82
 go_wp2_with fail
 refine C.mono ?_
 rintro e w1 ⟨rfl, rfl⟩
 clear C
 go_wp2
 go_ret
 exact ⟨rfl, rfl⟩
theorem aw9 (c : UInt8) (w : World) :
  Calls Tryz.prog 149 #[.int .u8 (c.toNat : Int)] w fun e w' => e = .returned (.bool (j9 c)) ∧ w = w' := by
 have hk := (a1v c).1
 rw [(a1v c).2.2.2.1]
 have C := a3z c.toNat w
 generalize o8 c.toNat = q at *
 have hq : q = 0 ∨ q = 1 ∨ q = 2 ∨ q = 3 ∨ q = 4 ∨ q = 5 ∨ q = 6 := by omega
 clear hk
 rcases hq with rfl | rfl | rfl | rfl | rfl | rfl | rfl <;>
 ·go_enter Tryz.func149, Tryz.ntmps149
  go_wp2_with fail
  refine C.mono ?_
  rintro e w1 ⟨rfl, rfl⟩
  clear C
  go_wp2
  go_ret
  exact ⟨rfl, rfl⟩
theorem aw8 (c : UInt8) (g k : Nat) (hk : k ≤ 140737488355328) (w : World) (A : VAt w g 3 #[.int .i64 (k : Int)]) :
  Calls Tryz.prog 145 #[.int .u8 (c.toNat : Int), .pointer (some ⟨g, 0, none⟩)] w fun e w' => e = .returned (.bool (m7 c)) ∧ VAt w' g 3 #[.int .i64 ((k + (if c = 58 then 1 else 0) : Nat) : Int)] ∧ w.grownBy w' (some g) := by
 have hq := (a1v c).1
 have h5 := (a1v c).2.2.2.2.1
 rw [(a1v c).2.1]
 have C := a3z c.toNat w
 generalize o8 c.toNat = q at *
 have A0 : w.cell? ⟨g, 0, none⟩ = some (.int .i64 (k : Int)) := A.cell 0
 have hfz := A.free 0
 have hw1 : IntKind.i64.wrap ((k : Int) + 1) = ((k + 1 : Nat) : Int) := by rw [IntKind.wrap_i64]; omega
 have AS : VAt (w.setCell ⟨g, 0, none⟩ (.int .i64 ((k + 1 : Nat) : Int))) g 3 #[.int .i64 ((k + 1 : Nat) : Int)] := A.set 0 _
 have HA : Hid (VAt w g 3 #[.int .i64 (k : Int)]) := A
 have HAS : Hid _ := AS
 clear A AS
 by_cases hc : c = 58
 ·rw [if_pos hc]
  rw [decide_eq_true hc] at h5
  obtain rfl : q = 5 := of_decide_eq_true h5.symm
  clear hq h5 hc
  go_enter Tryz.func145, Tryz.ntmps145
  go_wp2_with fail
  refine C.mono ?_
  rintro e w1 ⟨rfl, rfl⟩
  clear C
  go_wp2
  go_ret
  exact ⟨rfl, HAS.out, a4g _ _ _⟩
 ·rw [if_neg hc]
  rw [decide_eq_false hc] at h5
  have h5' : q ≠ 5 := of_decide_eq_false h5.symm
  have hs : q = 0 ∨ q = 1 ∨ q = 2 ∨ q = 3 ∨ q = 4 ∨ q = 6 := by omega
  clear hq h5 hc h5' HAS hw1
  rcases hs with rfl | rfl | rfl | rfl | rfl | rfl <;>
  ·go_enter Tryz.func145, Tryz.ntmps145
   go_wp2_with fail
   refine C.mono ?_
   rintro e w1 ⟨rfl, rfl⟩
   clear C
   go_wp2
   go_ret
   exact ⟨rfl, HA.out, World.grownBy.refl _ _⟩
theorem aw7 (c : UInt8) (g : Nat) (k : Bool) (w : World) (A : VAt w g 4 #[.bool k]) :
  Calls Tryz.prog 146 #[.int .u8 (c.toNat : Int), .pointer (some ⟨g, 0, none⟩)] w fun e w' => e = .returned (.bool (t8 c)) ∧ VAt w' g 4 #[.bool (k || decide (c = 46))] ∧ w.grownBy w' (some g) := by
 have hq := (a1v c).1
 have h5 := (a1v c).2.2.2.2.2.1
 rw [h5, (a1v c).2.2.1]
 have C := a3z c.toNat w
 generalize o8 c.toNat = q at *
 have A0 : w.cell? ⟨g, 0, none⟩ = some (.bool k) := A.cell 0
 have hfz := A.free 0
 have HA : Hid (∀ b, VAt (w.setCell ⟨g, 0, none⟩ (.bool b)) g 4 #[.bool b]) := fun b => A.set 0 (.bool b)
 clear A h5
 have hs : q = 0 ∨ q = 1 ∨ q = 2 ∨ q = 3 ∨ q = 4 ∨ q = 5 ∨ q = 6 := by omega
 clear hq
 cases k <;>
 ·rcases hs with rfl | rfl | rfl | rfl | rfl | rfl | rfl <;>
  ·go_enter Tryz.func146, Tryz.ntmps146
   go_wp2_with fail
   refine C.mono ?_
   rintro e w1 ⟨rfl, rfl⟩
   clear C
   go_wp2
   go_ret
   exact ⟨rfl, HA.out _, a4g _ _ _⟩
theorem aQ5 (s : ByteArray) (hs : s.size ≤ 140737488355328) (w : World) :
  Calls Tryz.prog 81 #[.string s, .func (.func 82) #[] #[]] w fun e w' => e = .returned (str ((sl s).takeWhile I3)) ∧ w = w' := by
 have HIN : Hid (∀ (c : UInt8) (W : World), Calls Tryz.prog 82 #[.int .u8 (c.toNat : Int)] W fun e w' => e = .returned (.bool (I3 c)) ∧ W = w') := fun c W => aw6 c W
 obtain ⟨ans, hans⟩ : ∃ ans, (sl s).takeWhile I3 = ans := ⟨_, rfl⟩
 have HA : Hid ((sl s).takeWhile I3 = ans) := hans
 rw [hans]
 clear hans
 go_enter Tryz.func81, Tryz.ntmps81
 go_wp2
 go_loopw [5] (fun i wr => ∃ j : Nat, j ≤ s.size ∧ i = .int .i64 j ∧ Hid ((sl s).take j ++ ((sl s).drop j).takeWhile I3 = ans) ∧ wr = w) (fun i _ => s.size - (intOf i).toNat)
 case atStart => exact ⟨0, Nat.zero_le _, rfl, HA, rfl⟩
 case round =>
  obtain ⟨j, h2, rfl, HJ, rfl⟩ := hrel
  have z1 : (0 : Int) ≤ (j : Int) := by omega
  have z3 : (j : Int) ≤ (s.size : Int) := by omega
  by_cases hlt : j < s.size
  ·have hji : (j : Int) < (s.size : Int) := by omega
   have HD : Hid ((sl s).drop j = s[j] :: (sl s).drop (j + 1)) := a0c s j hlt
   have CI := HIN.out s[j] wr
   cases hp : I3 s[j] with
   | true =>
    rw [hp] at CI
    have HN : Hid ((sl s).take (j + 1) ++ ((sl s).drop (j + 1)).takeWhile I3 = ans) := by
     show _ = ans
     rw [← HJ.out, HD.out, List.takeWhile_cons_of_pos hp, List.take_add_one, a1T s j hlt, Option.toList_some, List.append_assoc]
     rfl
    clear HJ HD
    go_wp2_with fail
    refine CI.mono ?_
    rintro e w1 ⟨rfl, rfl⟩
    clear CI
    go_wp2
    go_roundw
    case rel => exact ⟨j + 1, by omega, by go_num, HN, by first | rfl | trivial⟩
    case measure => simp [intOf]; omega
   | false =>
    rw [hp] at CI
    have hE : sl (s.extract 0 j) = ans := by
     rw [a1l, ← HJ.out, HD.out, List.takeWhile_cons_of_neg (by rw [hp]; simp), List.append_nil]
     simp
    have HE : Hid (Value.string (s.extract 0 j) = str ans) := by show Value.string (s.extract 0 j) = str ans; rw [a0D, hE]
    clear HJ HD hE
    go_wp2_with fail
    refine CI.mono ?_
    rintro e w1 ⟨rfl, rfl⟩
    clear CI
    go_wp2
    go_ret
    exact ⟨by rw [HE.out]; rfl, rfl⟩
  ·obtain rfl : j = s.size := by omega
   have hji : ¬ (s.size : Int) < (s.size : Int) := by omega
   have hE : sl s = ans := by
    rw [← HJ.out, List.drop_eq_nil_of_le (i := s.size) (by rw [m8]; exact Nat.le_refl _), ← m8]
    simp
   have HE : Hid (Value.string s = str ans) := by show Value.string s = str ans; rw [a0D, hE]
   clear HJ hE
   go_wp2
   go_ret
   exact ⟨by show Ending.returned (Value.string s) = _; rw [HE.out], rfl⟩
theorem aQ8 (s : ByteArray) (hs : s.size ≤ 140737488355328) (w : World) :
  Calls Tryz.prog 81 #[.string s, .func (.func 149) #[] #[]] w fun e w' => e = .returned (str ((sl s).takeWhile j9)) ∧ w = w' := by
 have HIN : Hid (∀ (c : UInt8) (W : World), Calls Tryz.prog 149 #[.int .u8 (c.toNat : Int)] W fun e w' => e = .returned (.bool (j9 c)) ∧ W = w') := fun c W => aw9 c W
 obtain ⟨ans, hans⟩ : ∃ ans, (sl s).takeWhile j9 = ans := ⟨_, rfl⟩
 have HA : Hid ((sl s).takeWhile j9 = ans) := hans
 rw [hans]
 clear hans
 go_enter Tryz.func81, Tryz.ntmps81
 go_wp2
 go_loopw [5] (fun i wr => ∃ j : Nat, j ≤ s.size ∧ i = .int .i64 j ∧ Hid ((sl s).take j ++ ((sl s).drop j).takeWhile j9 = ans) ∧ wr = w) (fun i _ => s.size - (intOf i).toNat)
 case atStart => exact ⟨0, Nat.zero_le _, rfl, HA, rfl⟩
 case round =>
  obtain ⟨j, h2, rfl, HJ, rfl⟩ := hrel
  have z1 : (0 : Int) ≤ (j : Int) := by omega
  have z3 : (j : Int) ≤ (s.size : Int) := by omega
  by_cases hlt : j < s.size
  ·have hji : (j : Int) < (s.size : Int) := by omega
   have HD : Hid ((sl s).drop j = s[j] :: (sl s).drop (j + 1)) := a0c s j hlt
   have CI := HIN.out s[j] wr
   cases hp : j9 s[j] with
   | true =>
    rw [hp] at CI
    have HN : Hid ((sl s).take (j + 1) ++ ((sl s).drop (j + 1)).takeWhile j9 = ans) := by
     show _ = ans
     rw [← HJ.out, HD.out, List.takeWhile_cons_of_pos hp, List.take_add_one, a1T s j hlt, Option.toList_some, List.append_assoc]
     rfl
    clear HJ HD
    go_wp2_with fail
    refine CI.mono ?_
    rintro e w1 ⟨rfl, rfl⟩
    clear CI
    go_wp2
    go_roundw
    case rel => exact ⟨j + 1, by omega, by go_num, HN, by first | rfl | trivial⟩
    case measure => simp [intOf]; omega
   | false =>
    rw [hp] at CI
    have hE : sl (s.extract 0 j) = ans := by
     rw [a1l, ← HJ.out, HD.out, List.takeWhile_cons_of_neg (by rw [hp]; simp), List.append_nil]
     simp
    have HE : Hid (Value.string (s.extract 0 j) = str ans) := by show Value.string (s.extract 0 j) = str ans; rw [a0D, hE]
    clear HJ HD hE
    go_wp2_with fail
    refine CI.mono ?_
    rintro e w1 ⟨rfl, rfl⟩
    clear CI
    go_wp2
    go_ret
    exact ⟨by rw [HE.out]; rfl, rfl⟩
  ·obtain rfl : j = s.size := by omega
   have hji : ¬ (s.size : Int) < (s.size : Int) := by omega
   have hE : sl s = ans := by
    rw [← HJ.out, List.drop_eq_nil_of_le (i := s.size) (by rw [m8]; exact Nat.le_refl _), ← m8]
    simp
   have HE : Hid (Value.string s = str ans) := by show Value.string s = str ans; rw [a0D, hE]
   clear HJ hE
   go_wp2
   go_ret
   exact ⟨by show Ending.returned (Value.string s) = _; rw [HE.out], rfl⟩
theorem aQ7 (s : ByteArray) (g : Nat) (hs : s.size ≤ 140737488355328) (w : World) (A : VAt w g 3 #[.int .i64 0]) :
  Calls Tryz.prog 81 #[.string s, .func (.func 145) #[] #[.pointer (some ⟨g, 0, none⟩)]] w fun e w' => e = .returned (str ((sl s).takeWhile m7)) ∧ VAt w' g 3 #[.int .i64 (((sl s).takeWhile m7).count 58 : Int)] ∧ w.grownBy w' (some g) := by
 have HIN : Hid (∀ (c : UInt8) (k : Nat) (W : World), k ≤ 140737488355328 → VAt W g 3 #[.int .i64 (k : Int)] → Calls Tryz.prog 145 #[.int .u8 (c.toNat : Int), .pointer (some ⟨g, 0, none⟩)] W fun e w' => e = .returned (.bool (m7 c)) ∧ VAt w' g 3 #[.int .i64 ((k + (if c = 58 then 1 else 0) : Nat) : Int)] ∧ W.grownBy w' (some g)) := fun c k W hk A => aw8 c g k hk W A
 obtain ⟨N, hN⟩ : ∃ N, ((sl s).takeWhile m7).count 58 = N := ⟨_, rfl⟩
 have HN0 : Hid (0 + (((sl s).drop 0).takeWhile m7).count 58 = N) := by show 0 + _ = N; rw [Nat.zero_add, List.drop_zero]; exact hN
 rw [hN]
 clear hN
 obtain ⟨ans, hans⟩ : ∃ ans, (sl s).takeWhile m7 = ans := ⟨_, rfl⟩
 have HA : Hid ((sl s).takeWhile m7 = ans) := hans
 rw [hans]
 clear hans
 go_enter Tryz.func81, Tryz.ntmps81
 go_wp2
 go_loopw [5] (fun i wr => ∃ j k : Nat, j ≤ s.size ∧ k ≤ j ∧ i = .int .i64 j ∧ Hid ((sl s).take j ++ ((sl s).drop j).takeWhile m7 = ans) ∧ Hid (k + (((sl s).drop j).takeWhile m7).count 58 = N) ∧ Hid (VAt wr g 3 #[.int .i64 (k : Int)] ∧ w.grownBy wr (some g))) (fun i _ => s.size - (intOf i).toNat)
 case atStart => exact ⟨0, 0, Nat.zero_le _, Nat.le_refl _, rfl, HA, HN0, A, World.grownBy.refl _ _⟩
 case round =>
  clear A HN0 HA
  obtain ⟨j, k, h2, hkj, rfl, HJ, HC, HW⟩ := hrel
  have z1 : (0 : Int) ≤ (j : Int) := by omega
  have z3 : (j : Int) ≤ (s.size : Int) := by omega
  by_cases hlt : j < s.size
  ·have hji : (j : Int) < (s.size : Int) := by omega
   have HD : Hid ((sl s).drop j = s[j] :: (sl s).drop (j + 1)) := a0c s j hlt
   have CI := HIN.out s[j] k wr (by omega) HW.out.1
   cases hp : m7 s[j] with
   | true =>
    rw [hp] at CI
    have HN : Hid ((sl s).take (j + 1) ++ ((sl s).drop (j + 1)).takeWhile m7 = ans) := by
     show _ = ans
     rw [← HJ.out, HD.out, List.takeWhile_cons_of_pos hp, List.take_add_one, a1T s j hlt, Option.toList_some, List.append_assoc]
     rfl
    have HM : Hid (k + (if s[j] = 58 then 1 else 0) + (((sl s).drop (j + 1)).takeWhile m7).count 58 = N) := by
     show _ = N
     rw [← HC.out, HD.out, List.takeWhile_cons_of_pos hp, List.count_cons]
     by_cases h58 : s[j] = 58
     ·rw [if_pos h58, if_pos (by simp [h58])]; omega
     ·rw [if_neg h58, if_neg (by simpa using h58)]; omega
    have HL : Hid (k + (if s[j] = 58 then 1 else 0) ≤ j + 1) := by show _ ≤ j + 1; split <;> omega
    generalize (k + (if s[j] = 58 then 1 else 0)) = k1 at *
    clear HJ HD
    go_wp2_with fail
    refine CI.mono ?_
    rintro e w1 ⟨rfl, A1, K1⟩
    have HW1 : Hid (VAt w1 g _ _ ∧ w.grownBy w1 (some g)) := ⟨A1, d3 HW.out.2 K1⟩
    clear CI A1 K1 HW HC
    go_wp2
    go_roundw
    case rel => exact ⟨j + 1, k1, by omega, HL.out, by go_num, HN, HM, HW1⟩
    case measure => simp [intOf]; omega
   | false =>
    rw [hp] at CI
    have hE : sl (s.extract 0 j) = ans := by
     rw [a1l, ← HJ.out, HD.out, List.takeWhile_cons_of_neg (by rw [hp]; simp), List.append_nil]
     simp
    have HE : Hid (Value.string (s.extract 0 j) = str ans) := by show Value.string (s.extract 0 j) = str ans; rw [a0D, hE]
    have hk : k + (if s[j] = 58 then 1 else 0) = N := by
     have h58 : ¬ s[j] = 58 := fun e => by rw [e] at hp; exact absurd hp (by decide)
     rw [if_neg h58, ← HC.out, HD.out, List.takeWhile_cons_of_neg (by rw [hp]; simp)]
     rfl
    rw [hk] at CI
    clear hk
    clear HJ HD hE
    go_wp2_with fail
    refine CI.mono ?_
    rintro e w1 ⟨rfl, A1, K1⟩
    have HW1 : Hid (VAt w1 g _ _ ∧ w.grownBy w1 (some g)) := ⟨A1, d3 HW.out.2 K1⟩
    clear CI A1 K1 HW HC
    go_wp2
    go_ret
    exact ⟨by rw [HE.out]; rfl, HW1.out.1, HW1.out.2⟩
  ·obtain rfl : j = s.size := by omega
   have hji : ¬ (s.size : Int) < (s.size : Int) := by omega
   have hE : sl s = ans := by
    rw [← HJ.out, List.drop_eq_nil_of_le (i := s.size) (by rw [m8]; exact Nat.le_refl _), ← m8]
    simp
   have HE : Hid (Value.string s = str ans) := by show Value.string s = str ans; rw [a0D, hE]
   obtain rfl : k = N := by
    have := HC.out
    rw [List.drop_eq_nil_of_le (i := s.size) (by rw [m8]; exact Nat.le_refl _)] at this
    simpa using this
   clear HC
   clear HJ hE
   go_wp2
   go_ret
   exact ⟨by show Ending.returned (Value.string s) = _; rw [HE.out], HW.out.1, HW.out.2⟩
theorem aQ6 (s : ByteArray) (g : Nat) (hs : s.size ≤ 140737488355328) (w : World) (A : VAt w g 4 #[.bool false]) :
  Calls Tryz.prog 81 #[.string s, .func (.func 146) #[] #[.pointer (some ⟨g, 0, none⟩)]] w fun e w' => e = .returned (str ((sl s).takeWhile t8)) ∧ VAt w' g 4 #[.bool (((sl s).takeWhile t8).contains 46)] ∧ w.grownBy w' (some g) := by
 have HIN : Hid (∀ (c : UInt8) (k : Bool) (W : World), VAt W g 4 #[.bool k] → Calls Tryz.prog 146 #[.int .u8 (c.toNat : Int), .pointer (some ⟨g, 0, none⟩)] W fun e w' => e = .returned (.bool (t8 c)) ∧ VAt w' g 4 #[.bool (k || decide (c = 46))] ∧ W.grownBy w' (some g)) := fun c k W A => aw7 c g k W A
 obtain ⟨N, hN⟩ : ∃ N, ((sl s).takeWhile t8).contains 46 = N := ⟨_, rfl⟩
 have HN0 : Hid ((false || (((sl s).drop 0).takeWhile t8).contains 46) = N) := by show (false || _) = N; rw [Bool.false_or, List.drop_zero]; exact hN
 rw [hN]
 clear hN
 obtain ⟨ans, hans⟩ : ∃ ans, (sl s).takeWhile t8 = ans := ⟨_, rfl⟩
 have HA : Hid ((sl s).takeWhile t8 = ans) := hans
 rw [hans]
 clear hans
 go_enter Tryz.func81, Tryz.ntmps81
 go_wp2
 go_loopw [5] (fun i wr => ∃ (j : Nat) (k : Bool), j ≤ s.size ∧ i = .int .i64 j ∧ Hid ((sl s).take j ++ ((sl s).drop j).takeWhile t8 = ans) ∧ Hid ((k || (((sl s).drop j).takeWhile t8).contains 46) = N) ∧ Hid (VAt wr g 4 #[.bool k] ∧ w.grownBy wr (some g))) (fun i _ => s.size - (intOf i).toNat)
 case atStart => exact ⟨0, false, Nat.zero_le _, rfl, HA, HN0, A, World.grownBy.refl _ _⟩
 case round =>
  clear A HN0 HA
  obtain ⟨j, k, h2, rfl, HJ, HC, HW⟩ := hrel
  have z1 : (0 : Int) ≤ (j : Int) := by omega
  have z3 : (j : Int) ≤ (s.size : Int) := by omega
  by_cases hlt : j < s.size
  ·have hji : (j : Int) < (s.size : Int) := by omega
   have HD : Hid ((sl s).drop j = s[j] :: (sl s).drop (j + 1)) := a0c s j hlt
   have CI := HIN.out s[j] k wr HW.out.1
   cases hp : t8 s[j] with
   | true =>
    rw [hp] at CI
    have HN : Hid ((sl s).take (j + 1) ++ ((sl s).drop (j + 1)).takeWhile t8 = ans) := by
     show _ = ans
     rw [← HJ.out, HD.out, List.takeWhile_cons_of_pos hp, List.take_add_one, a1T s j hlt, Option.toList_some, List.append_assoc]
     rfl
    have HM : Hid (((k || decide (s[j] = 46)) || (((sl s).drop (j + 1)).takeWhile t8).contains 46) = N) := by
     show _ = N
     rw [← HC.out, HD.out, List.takeWhile_cons_of_pos hp, List.contains_cons, Bool.or_assoc]
     congr 2
     by_cases h46 : s[j] = 46
     ·rw [h46]; rfl
     ·rw [decide_eq_false h46, beq_eq_false_iff_ne.2 (fun e => h46 e.symm)]
    generalize (k || decide (s[j] = 46)) = k1 at *
    clear HJ HD
    go_wp2_with fail
    refine CI.mono ?_
    rintro e w1 ⟨rfl, A1, K1⟩
    have HW1 : Hid (VAt w1 g _ _ ∧ w.grownBy w1 (some g)) := ⟨A1, d3 HW.out.2 K1⟩
    clear CI A1 K1 HW HC
    go_wp2
    go_roundw
    case rel => exact ⟨j + 1, k1, by omega, by go_num, HN, HM, HW1⟩
    case measure => simp [intOf]; omega
   | false =>
    rw [hp] at CI
    have hE : sl (s.extract 0 j) = ans := by
     rw [a1l, ← HJ.out, HD.out, List.takeWhile_cons_of_neg (by rw [hp]; simp), List.append_nil]
     simp
    have HE : Hid (Value.string (s.extract 0 j) = str ans) := by show Value.string (s.extract 0 j) = str ans; rw [a0D, hE]
    have hk : (k || decide (s[j] = 46)) = N := by
     have h46 : ¬ s[j] = 46 := fun e => by rw [e] at hp; exact absurd hp (by decide)
     rw [decide_eq_false h46, ← HC.out, HD.out, List.takeWhile_cons_of_neg (by rw [hp]; simp)]
     simp
    rw [hk] at CI
    clear hk
    clear HJ HD hE
    go_wp2_with fail
    refine CI.mono ?_
    rintro e w1 ⟨rfl, A1, K1⟩
    have HW1 : Hid (VAt w1 g _ _ ∧ w.grownBy w1 (some g)) := ⟨A1, d3 HW.out.2 K1⟩
    clear CI A1 K1 HW HC
    go_wp2
    go_ret
    exact ⟨by rw [HE.out]; rfl, HW1.out.1, HW1.out.2⟩
  ·obtain rfl : j = s.size := by omega
   have hji : ¬ (s.size : Int) < (s.size : Int) := by omega
   have hE : sl s = ans := by
    rw [← HJ.out, List.drop_eq_nil_of_le (i := s.size) (by rw [m8]; exact Nat.le_refl _), ← m8]
    simp
   have HE : Hid (Value.string s = str ans) := by show Value.string s = str ans; rw [a0D, hE]
   obtain rfl : k = N := by
    have := HC.out
    rw [List.drop_eq_nil_of_le (i := s.size) (by rw [m8]; exact Nat.le_refl _)] at this
    simpa using this
   clear HC
   clear HJ hE
   go_wp2
   go_ret
   exact ⟨by show Ending.returned (Value.string s) = _; rw [HE.out], HW.out.1, HW.out.2⟩

end Go.Proofs.YtklipelnjgpnjaaGreatDoor
