import Derived.Test.YtklipelnjgpnjaaGreatDoorAb
import Derived.Test.YtklipelnjgpnjaaGreatDoorLotP16
import Derived.Test.YtklipelnjgpnjaaGreatDoorLotP18
import Derived.Deep.RegionHeld3
namespace Go.Proofs.YtklipelnjgpnjaaGreatDoor
open Go.RowKit
set_option maxRecDepth 100000
def rowA (o : Int) : Int := if o = 7 then 5 else if o = 8 then 6 else if o = 6 then 7 else if o = 9 ∨ o = 10 then 8 else if o = 1 ∨ o = 2 then 9 else 10
theorem row_arith {x : Ng} (h : x.kind = 4) : rowG x = rowA x.op := by unfold rowG rowA; rw [h]; rfl
set_option maxRecDepth 100000 in
set_option maxHeartbeats 4000000 in
theorem rowOfArith_any (k : Int) (w : World) : Calls Tryz.prog 129 #[.int .i64 k] w fun e w' => e = .returned (.int .i64 (rowA k)) ∧ w' = w := by
 have h : k = 7 ∨ k = 8 ∨ k = 6 ∨ k = 9 ∨ k = 10 ∨ k = 1 ∨ k = 2 ∨ ¬ (k = 7 ∨ k = 8 ∨ k = 6 ∨ k = 9 ∨ k = 10 ∨ k = 1 ∨ k = 2) := by omega
 rcases h with rfl | rfl | rfl | rfl | rfl | rfl | rfl | hn
 ·go_enter Tryz.func129, Tryz.ntmps129
  go_wp2
  go_ret
  exact ⟨rfl, rfl⟩
 ·go_enter Tryz.func129, Tryz.ntmps129
  go_wp2
  go_ret
  exact ⟨rfl, rfl⟩
 ·go_enter Tryz.func129, Tryz.ntmps129
  go_wp2
  go_ret
  exact ⟨rfl, rfl⟩
 ·go_enter Tryz.func129, Tryz.ntmps129
  go_wp2
  go_ret
  exact ⟨rfl, rfl⟩
 ·go_enter Tryz.func129, Tryz.ntmps129
  go_wp2
  go_ret
  exact ⟨rfl, rfl⟩
 ·go_enter Tryz.func129, Tryz.ntmps129
  go_wp2
  go_ret
  exact ⟨rfl, rfl⟩
 ·go_enter Tryz.func129, Tryz.ntmps129
  go_wp2
  go_ret
  exact ⟨rfl, rfl⟩
 ·have hE : rowA k = 10 := by
   unfold rowA
   rw [if_neg (by omega), if_neg (by omega), if_neg (by omega), if_neg (by omega), if_neg (by omega)]
  rw [hE]
  have u7 : (k == 7) = false := by rw [beq_eq_false_iff_ne]; omega
  have u8 : (k == 8) = false := by rw [beq_eq_false_iff_ne]; omega
  have u6 : (k == 6) = false := by rw [beq_eq_false_iff_ne]; omega
  have u9 : (k == 9) = false := by rw [beq_eq_false_iff_ne]; omega
  have u10 : (k == 10) = false := by rw [beq_eq_false_iff_ne]; omega
  have u1 : (k == 1) = false := by rw [beq_eq_false_iff_ne]; omega
  have u2 : (k == 2) = false := by rw [beq_eq_false_iff_ne]; omega
  clear hn hE
  go_enter Tryz.func129, Tryz.ntmps129
  go_wp2
  go_ret
  exact ⟨rfl, rfl⟩
set_option maxRecDepth 100000 in
set_option maxHeartbeats 4000000 in
theorem shname_any (k : Int) (w : World) : Calls Tryz.prog 99 #[.int .i64 k] w fun e w' => e = .returned (str (nameT k)) ∧ w' = w := by
 have h : k = 1 ∨ k = 2 ∨ k = 3 ∨ k = 4 ∨ k = 5 ∨ k = 6 ∨ k = 7 ∨ k = 8 ∨ k = 9 ∨ k = 10 ∨ k = 11 ∨ k = 12 ∨ k = 13 ∨ ¬ (k = 1 ∨ k = 2 ∨ k = 3 ∨ k = 4 ∨ k = 5 ∨ k = 6 ∨ k = 7 ∨ k = 8 ∨ k = 9 ∨ k = 10 ∨ k = 11 ∨ k = 12 ∨ k = 13) := by omega
 rcases h with rfl | rfl | rfl | rfl | rfl | rfl | rfl | rfl | rfl | rfl | rfl | rfl | rfl | hn
 ·go_enter Tryz.func99, Tryz.ntmps99
  go_wp2
  go_ret
  exact ⟨rfl, rfl⟩
 ·go_enter Tryz.func99, Tryz.ntmps99
  go_wp2
  go_ret
  exact ⟨rfl, rfl⟩
 ·go_enter Tryz.func99, Tryz.ntmps99
  go_wp2
  go_ret
  exact ⟨rfl, rfl⟩
 ·go_enter Tryz.func99, Tryz.ntmps99
  go_wp2
  go_ret
  exact ⟨rfl, rfl⟩
 ·go_enter Tryz.func99, Tryz.ntmps99
  go_wp2
  go_ret
  exact ⟨rfl, rfl⟩
 ·go_enter Tryz.func99, Tryz.ntmps99
  go_wp2
  go_ret
  exact ⟨rfl, rfl⟩
 ·go_enter Tryz.func99, Tryz.ntmps99
  go_wp2
  go_ret
  exact ⟨rfl, rfl⟩
 ·go_enter Tryz.func99, Tryz.ntmps99
  go_wp2
  go_ret
  exact ⟨rfl, rfl⟩
 ·go_enter Tryz.func99, Tryz.ntmps99
  go_wp2
  go_ret
  exact ⟨rfl, rfl⟩
 ·go_enter Tryz.func99, Tryz.ntmps99
  go_wp2
  go_ret
  exact ⟨rfl, rfl⟩
 ·go_enter Tryz.func99, Tryz.ntmps99
  go_wp2
  go_ret
  exact ⟨rfl, rfl⟩
 ·go_enter Tryz.func99, Tryz.ntmps99
  go_wp2
  go_ret
  exact ⟨rfl, rfl⟩
 ·go_enter Tryz.func99, Tryz.ntmps99
  go_wp2
  go_ret
  exact ⟨rfl, rfl⟩
 ·have hE : nameT k = [] := by
   unfold nameT
   rw [if_neg (by omega), if_neg (by omega), if_neg (by omega), if_neg (by omega), if_neg (by omega), if_neg (by omega), if_neg (by omega), if_neg (by omega), if_neg (by omega), if_neg (by omega), if_neg (by omega), if_neg (by omega), if_neg (by omega)]
  rw [hE]
  have u1 : (k == 1) = false := by rw [beq_eq_false_iff_ne]; omega
  have u2 : (k == 2) = false := by rw [beq_eq_false_iff_ne]; omega
  have u3 : (k == 3) = false := by rw [beq_eq_false_iff_ne]; omega
  have u4 : (k == 4) = false := by rw [beq_eq_false_iff_ne]; omega
  have u5 : (k == 5) = false := by rw [beq_eq_false_iff_ne]; omega
  have u6 : (k == 6) = false := by rw [beq_eq_false_iff_ne]; omega
  have u7 : (k == 7) = false := by rw [beq_eq_false_iff_ne]; omega
  have u8 : (k == 8) = false := by rw [beq_eq_false_iff_ne]; omega
  have u9 : (k == 9) = false := by rw [beq_eq_false_iff_ne]; omega
  have u10 : (k == 10) = false := by rw [beq_eq_false_iff_ne]; omega
  have u11 : (k == 11) = false := by rw [beq_eq_false_iff_ne]; omega
  have u12 : (k == 12) = false := by rw [beq_eq_false_iff_ne]; omega
  have u13 : (k == 13) = false := by rw [beq_eq_false_iff_ne]; omega
  clear hn hE
  go_enter Tryz.func99, Tryz.ntmps99
  go_wp2
  go_ret
  exact ⟨rfl, rfl⟩
def sideW (k : Int) : List UInt8 := if k = 1 then [115, 114, 99] else if k = 2 then [100, 115, 116] else []
set_option maxRecDepth 100000 in
set_option maxHeartbeats 4000000 in
theorem shside_any (k : Int) (w : World) : Calls Tryz.prog 137 #[.int .i64 k] w fun e w' => e = .returned (str (sideW k)) ∧ w' = w := by
 have h : k = 1 ∨ k = 2 ∨ ¬ (k = 1 ∨ k = 2) := by omega
 rcases h with rfl | rfl | hn
 ·go_enter Tryz.func137, Tryz.ntmps137
  go_wp2
  go_ret
  exact ⟨rfl, rfl⟩
 ·go_enter Tryz.func137, Tryz.ntmps137
  go_wp2
  go_ret
  exact ⟨rfl, rfl⟩
 ·have hE : sideW k = [] := by
   unfold sideW
   rw [if_neg (by omega), if_neg (by omega)]
  rw [hE]
  have u1 : (k == 1) = false := by rw [beq_eq_false_iff_ne]; omega
  have u2 : (k == 2) = false := by rw [beq_eq_false_iff_ne]; omega
  clear hn hE
  go_enter Tryz.func137, Tryz.ntmps137
  go_wp2
  go_ret
  exact ⟨rfl, rfl⟩
def wayW (k : Int) : List UInt8 := if k = 1 then [105, 110, 98, 111, 117, 110, 100] else [111, 117, 116, 98, 111, 117, 110, 100]
set_option maxRecDepth 100000 in
set_option maxHeartbeats 4000000 in
theorem way_any (k : Int) (w : World) : Calls Tryz.prog 135 #[.int .i64 k] w fun e w' => e = .returned (str (wayW k)) ∧ w' = w := by
 have h : k = 1 ∨ ¬ (k = 1) := by omega
 rcases h with rfl | hn
 ·go_enter Tryz.func135, Tryz.ntmps135
  go_wp2
  go_ret
  exact ⟨rfl, rfl⟩
 ·have hE : wayW k = [111, 117, 116, 98, 111, 117, 110, 100] := by
   unfold wayW
   rw [if_neg (by omega)]
  rw [hE]
  have u1 : (k == 1) = false := by rw [beq_eq_false_iff_ne]; omega
  clear hn hE
  go_enter Tryz.func135, Tryz.ntmps135
  go_wp2
  go_ret
  exact ⟨rfl, rfl⟩
def cmpW (k : Int) : List UInt8 := if k = 1 then [61] else if k = 2 then [33, 61] else if k = 3 then [60] else if k = 4 then [60, 61] else if k = 5 then [62] else [62, 61]
set_option maxRecDepth 100000 in
set_option maxHeartbeats 4000000 in
theorem comparison_any (k : Int) (w : World) : Calls Tryz.prog 132 #[.int .i64 k] w fun e w' => e = .returned (str (cmpW k)) ∧ w' = w := by
 have h : k = 1 ∨ k = 2 ∨ k = 3 ∨ k = 4 ∨ k = 5 ∨ ¬ (k = 1 ∨ k = 2 ∨ k = 3 ∨ k = 4 ∨ k = 5) := by omega
 rcases h with rfl | rfl | rfl | rfl | rfl | hn
 ·go_enter Tryz.func132, Tryz.ntmps132
  go_wp2
  go_ret
  exact ⟨rfl, rfl⟩
 ·go_enter Tryz.func132, Tryz.ntmps132
  go_wp2
  go_ret
  exact ⟨rfl, rfl⟩
 ·go_enter Tryz.func132, Tryz.ntmps132
  go_wp2
  go_ret
  exact ⟨rfl, rfl⟩
 ·go_enter Tryz.func132, Tryz.ntmps132
  go_wp2
  go_ret
  exact ⟨rfl, rfl⟩
 ·go_enter Tryz.func132, Tryz.ntmps132
  go_wp2
  go_ret
  exact ⟨rfl, rfl⟩
 ·have hE : cmpW k = [62, 61] := by
   unfold cmpW
   rw [if_neg (by omega), if_neg (by omega), if_neg (by omega), if_neg (by omega), if_neg (by omega)]
  rw [hE]
  have u1 : (k == 1) = false := by rw [beq_eq_false_iff_ne]; omega
  have u2 : (k == 2) = false := by rw [beq_eq_false_iff_ne]; omega
  have u3 : (k == 3) = false := by rw [beq_eq_false_iff_ne]; omega
  have u4 : (k == 4) = false := by rw [beq_eq_false_iff_ne]; omega
  have u5 : (k == 5) = false := by rw [beq_eq_false_iff_ne]; omega
  clear hn hE
  go_enter Tryz.func132, Tryz.ntmps132
  go_wp2
  go_ret
  exact ⟨rfl, rfl⟩
def ariW (k : Int) : List UInt8 := if k = 1 then [43] else if k = 2 then [45] else if k = 3 then [42] else if k = 4 then [47] else if k = 5 then [37] else if k = 6 then [38] else if k = 7 then [124] else if k = 8 then [94] else if k = 9 then [60, 60] else [62, 62]
set_option maxRecDepth 100000 in
set_option maxHeartbeats 4000000 in
theorem arithmetic_any (k : Int) (w : World) : Calls Tryz.prog 133 #[.int .i64 k] w fun e w' => e = .returned (str (ariW k)) ∧ w' = w := by
 have h : k = 1 ∨ k = 2 ∨ k = 3 ∨ k = 4 ∨ k = 5 ∨ k = 6 ∨ k = 7 ∨ k = 8 ∨ k = 9 ∨ ¬ (k = 1 ∨ k = 2 ∨ k = 3 ∨ k = 4 ∨ k = 5 ∨ k = 6 ∨ k = 7 ∨ k = 8 ∨ k = 9) := by omega
 rcases h with rfl | rfl | rfl | rfl | rfl | rfl | rfl | rfl | rfl | hn
 ·go_enter Tryz.func133, Tryz.ntmps133
  go_wp2
  go_ret
  exact ⟨rfl, rfl⟩
 ·go_enter Tryz.func133, Tryz.ntmps133
  go_wp2
  go_ret
  exact ⟨rfl, rfl⟩
 ·go_enter Tryz.func133, Tryz.ntmps133
  go_wp2
  go_ret
  exact ⟨rfl, rfl⟩
 ·go_enter Tryz.func133, Tryz.ntmps133
  go_wp2
  go_ret
  exact ⟨rfl, rfl⟩
 ·go_enter Tryz.func133, Tryz.ntmps133
  go_wp2
  go_ret
  exact ⟨rfl, rfl⟩
 ·go_enter Tryz.func133, Tryz.ntmps133
  go_wp2
  go_ret
  exact ⟨rfl, rfl⟩
 ·go_enter Tryz.func133, Tryz.ntmps133
  go_wp2
  go_ret
  exact ⟨rfl, rfl⟩
 ·go_enter Tryz.func133, Tryz.ntmps133
  go_wp2
  go_ret
  exact ⟨rfl, rfl⟩
 ·go_enter Tryz.func133, Tryz.ntmps133
  go_wp2
  go_ret
  exact ⟨rfl, rfl⟩
 ·have hE : ariW k = [62, 62] := by
   unfold ariW
   rw [if_neg (by omega), if_neg (by omega), if_neg (by omega), if_neg (by omega), if_neg (by omega), if_neg (by omega), if_neg (by omega), if_neg (by omega), if_neg (by omega)]
  rw [hE]
  have u1 : (k == 1) = false := by rw [beq_eq_false_iff_ne]; omega
  have u2 : (k == 2) = false := by rw [beq_eq_false_iff_ne]; omega
  have u3 : (k == 3) = false := by rw [beq_eq_false_iff_ne]; omega
  have u4 : (k == 4) = false := by rw [beq_eq_false_iff_ne]; omega
  have u5 : (k == 5) = false := by rw [beq_eq_false_iff_ne]; omega
  have u6 : (k == 6) = false := by rw [beq_eq_false_iff_ne]; omega
  have u7 : (k == 7) = false := by rw [beq_eq_false_iff_ne]; omega
  have u8 : (k == 8) = false := by rw [beq_eq_false_iff_ne]; omega
  have u9 : (k == 9) = false := by rw [beq_eq_false_iff_ne]; omega
  clear hn hE
  go_enter Tryz.func133, Tryz.ntmps133
  go_wp2
  go_ret
  exact ⟨rfl, rfl⟩
theorem side_cell (W : World) (sd : Nat) (h : sd ≤ 2) : (W.alloc (.cells #[.string ⟨#[]⟩, .string ⟨#[115, 114, 99, 32]⟩, .string ⟨#[100, 115, 116, 32]⟩] 9)).cell? ⟨W.heap.size, sd, none⟩ = some (.string ⟨(sideT (sd : Int)).toArray⟩) := by
 have A := VAt.alloc W 9 #[.string ⟨#[]⟩, .string ⟨#[115, 114, 99, 32]⟩, .string ⟨#[100, 115, 116, 32]⟩]
 rw [A.cell sd]
 have : sd = 0 ∨ sd = 1 ∨ sd = 2 := by omega
 rcases this with rfl | rfl | rfl
 ·rfl
 ·rfl
 ·rfl
theorem side_len (k : Int) : (sideT k).length ≤ 4 := by
 unfold sideT
 split
 ·decide
 ·split
  ·decide
  ·decide
theorem name_len (k : Int) : (nameT k).length ≤ 5 := by
 by_cases h1 : k = 1
 ·subst h1; decide
 by_cases h2 : k = 2
 ·subst h2; decide
 by_cases h3 : k = 3
 ·subst h3; decide
 by_cases h4 : k = 4
 ·subst h4; decide
 by_cases h5 : k = 5
 ·subst h5; decide
 by_cases h6 : k = 6
 ·subst h6; decide
 by_cases h7 : k = 7
 ·subst h7; decide
 by_cases h8 : k = 8
 ·subst h8; decide
 by_cases h9 : k = 9
 ·subst h9; decide
 by_cases h10 : k = 10
 ·subst h10; decide
 by_cases h11 : k = 11
 ·subst h11; decide
 by_cases h12 : k = 12
 ·subst h12; decide
 by_cases h13 : k = 13
 ·subst h13; decide
 unfold nameT
 rw [if_neg h1, if_neg h2, if_neg h3, if_neg h4, if_neg h5, if_neg h6, if_neg h7, if_neg h8, if_neg h9, if_neg h10, if_neg h11, if_neg h12, if_neg h13]
 decide
theorem keep2 {w W W' : World} {a b : Addr} {u v : Value} (K : W.grownBy W' none) (h : W.cell? a = some u ∧ W.cell? b = some v ∧ w.grownBy W none) : W'.cell? a = some u ∧ W'.cell? b = some v ∧ w.grownBy W' none := ⟨K.cell h.1 (by simp), K.cell h.2.1 (by simp), grown_trans h.2.2 K⟩
theorem keep2d {w W : World} {a b : Addr} {u v : Value} (h : W.cell? a = some u ∧ W.cell? b = some v ∧ w.grownBy W none) : W.drew.cell? a = some u ∧ W.drew.cell? b = some v ∧ w.grownBy W.drew none := keep2 (grown_drewN W 1 none) h
theorem keepV {w W W' : World} {B t : Nat} {X : Array Value} {b : Addr} {v : Value} (K : W.grownBy W' none) (h : VAt W B t X ∧ W.cell? b = some v ∧ w.grownBy W none) : VAt W' B t X ∧ W'.cell? b = some v ∧ w.grownBy W' none := ⟨h.1.kept K, K.cell h.2.1 (by simp), grown_trans h.2.2 K⟩
theorem keepVd {w W : World} {B t : Nat} {X : Array Value} {b : Addr} {v : Value} (h : VAt W B t X ∧ W.cell? b = some v ∧ w.grownBy W none) : VAt W.drew B t X ∧ W.drew.cell? b = some v ∧ w.grownBy W.drew none := keepV (grown_drewN W 1 none) h
theorem adr_len (x : Ng) : (adrT x).length ≤ 1000 := by
 unfold adrT
 by_cases h : x.of = 3
 ·rw [if_pos h]
  have hp : (pairsG (adgs x)).length = 8 := pairs_len 8 _ (adgs_len x)
  generalize pairsG (adgs x) = gs at hp
  have hl : ∀ zs : List Nat, zs.length ≤ 8 → (joinV 58 (zs.map shortV)).length ≤ 40 := fun zs hz => by
   have := join_len 58 (zs.map shortV) 4 (fun l hl => by
    obtain ⟨g, -, rfl⟩ := List.mem_map.1 hl
    exact (short_piece g).2.2.1)
   rw [List.length_map] at this
   omega
  unfold print6V
  cases bestF 0 gs none with
  | none => have := hl gs (by omega); exact Nat.le_trans this (by decide)
  | some p =>
   have h1 := hl (gs.take p.1) (by rw [List.length_take]; omega)
   have h2 := hl (gs.drop (p.1 + p.2)) (by rw [List.length_drop]; omega)
   show (joinV 58 ((gs.take p.1).map shortV) ++ (58 :: 58 :: joinV 58 ((gs.drop (p.1 + p.2)).map shortV))).length ≤ 1000
   rw [List.length_append, List.length_cons, List.length_cons]
   omega
 ·rw [if_neg h]
  unfold print4V
  have := join_len 46 (((adgs x).take 4).map fun x => dec x.toNat) 20 (fun l hl => by
   obtain ⟨y, -, rfl⟩ := List.mem_map.1 hl
   exact dec_len _)
  rw [List.length_map, List.length_take, adgs_len] at this
  omega
set_option maxRecDepth 100000 in
set_option maxHeartbeats 16000000 in
theorem leaf13_any (x : Ng) (w : World) (hk : arG x.kind = some 0) (hs : 0 ≤ x.side ∧ x.side ≤ 2) (ho : 0 ≤ x.of ∧ x.of ≤ 13) (hb : 0 ≤ x.bits ∧ x.bits ≤ 128) (hn : x.n ≤ 4294967295) (hm : x.m ≤ 4294967295) (h10 : x.kind = 10 → x.side ≠ 0) :
  Calls Tryz.prog 22 #[.agg x.cells.toArray] w fun e w' => e = .returned (str (leafT x)) ∧ w.grownBy w' none := by
 have HBX := box_ng x
 have h3 := World.grownBy_alloc w (.cells x.cells.toArray 43) none
 have V := NB.alloc w x
 have HZ : Hid ((Tryz.prog.info? 43).map (·.size) = some x.cells.toArray.size) := ng_size x
 have HAD : Hid (∀ W : World, Calls Tryz.prog 41 #[.agg x.cells.toArray] W fun e w' => e = .returned (str (adrT x)) ∧ W.grownBy w' none) := adr13_any x
 obtain ⟨X, hX⟩ : ∃ X, x.cells.toArray = X := ⟨_, rfl⟩
 obtain ⟨sd, hsd⟩ : ∃ sd : Nat, x.side = sd := Int.eq_ofNat_of_zero_le hs.1
 have hsd2 : sd ≤ 2 := by omega
 obtain ⟨bn, hbn⟩ : ∃ bn : Nat, x.bits = bn := Int.eq_ofNat_of_zero_le hb.1
 rw [hX] at HBX HZ HAD ⊢
 go_enter Tryz.func22, Tryz.ntmps22
 go_upto_region 1 with fail
 have V1 : VAt (w.alloc (.cells X 43)) w.heap.size 43 X := VAt.alloc _ _ _
 rw [hX] at V h3
 have HNB : NB (w.alloc (.cells X 43)) w.heap.size x := by rw [← hX]; exact NB.alloc w x
 clear V
 generalize w.alloc (.cells X 43) = w1 at *
 generalize w.heap.size = B at *
 have c6 := HNB.side
 rw [hsd] at c6
 have z0 : (0 : Int) ≤ (sd : Int) := by omega
 have l3 : (sd : Int) < 3 := by omega
 have K2 := World.grownBy_alloc w1 (.cells #[.string ⟨#[]⟩, .string ⟨#[115, 114, 99, 32]⟩, .string ⟨#[100, 115, 116, 32]⟩] 9) none
 have cs := side_cell w1 sd hsd2
 have c6' := K2.cell c6 (by simp)
 go_upto_region 2 with fail
 have HG2 : Hid (w.grownBy (w1.alloc (.cells #[.string ⟨#[]⟩, .string ⟨#[115, 114, 99, 32]⟩, .string ⟨#[100, 115, 116, 32]⟩] 9)) none) := grown_trans h3 K2
 have N2 := HNB.kept K2
 have V2 := V1.kept K2
 clear cs c6 c6' V1 HNB h3 K2 HBX
 generalize w1.alloc (.cells #[.string ⟨#[]⟩, .string ⟨#[115, 114, 99, 32]⟩, .string ⟨#[100, 115, 116, 32]⟩] 9) = w2 at *
 generalize w1.heap.size = D at *
 have c0 := N2.kind
 have c2 := N2.n
 have c3 := N2.m
 have c5 := N2.of
 have c6 := N2.side
 have c8 := N2.bits
 rw [hsd] at c6
 rw [hbn] at c8
 have HV2 : Hid (VAt w2 B 43 X) := V2
 have HSD : Hid (x.side = (sd : Int)) := hsd
 have HBN : Hid (x.bits = (bn : Int)) := hbn
 have hbn2 : bn ≤ 128 := by omega
 have hsl := side_len (sd : Int)
 obtain ⟨sS, hsS⟩ : ∃ sS : List UInt8, sideT (sd : Int) = sS := ⟨_, rfl⟩
 rw [hsS] at hsl ⊢
 have HSS : Hid (sideT (sd : Int) = sS) := hsS
 have hsz : (⟨sS.toArray⟩ : ByteArray).size = sS.length := by show sS.toArray.size = _; simp
 have CN := num13_any x.n hn
 have CM := num13_any x.m hm
 have CW := word13_any x.of ho
 have hnl := dec_len x.n
 have hml := dec_len x.m
 have hwl := name_len x.of
 obtain ⟨kk, hkk⟩ : ∃ kk, x.kind = kk := ⟨_, rfl⟩
 have HK : Hid (x.kind = kk) := hkk
 rw [hkk] at c0 hk h10
 clear hkk hsd hbn hX V2 N2 hs hb hsS
 have hc := arG_cases hk
 have hc2 : kk = 1 ∨ kk = 2 ∨ kk = 10 ∨ kk = 11 ∨ kk = 12 ∨ kk = 13 ∨ kk = 14 ∨ kk = 15 ∨ kk = 16 := by
  rcases hc with ⟨h, -⟩ | ⟨h, -⟩ | ⟨-, h⟩
  ·omega
  ·omega
  ·exact h
 clear hc hk
 rcases hc2 with rfl | rfl | rfl | rfl | rfl | rfl | rfl | rfl | rfl
 ·have HE : Hid (leafT x = dec x.n) := by unfold Hid leafT; rw [HK.out]; rfl
  go_wp2_with fail
  refine (CN _).mono ?_
  rintro e w3 ⟨rfl, K3⟩
  go_wp2
  go_ret
  exact ⟨by rw [HE.out]; rfl, grown_trans HG2.out K3⟩
 ·have HE : Hid (leafT x = [108, 101, 110]) := by unfold Hid leafT; rw [HK.out]; rfl
  go_wp2
  go_ret
  exact ⟨by rw [HE.out]; rfl, HG2.out⟩
 ·have hd : sd = 1 ∨ sd = 2 := by have := h10 rfl; rw [HSD.out] at this; omega
  have K9 : ∀ o : Obj, (w2.alloc o).cell? ⟨B, 6, none⟩ = some (.int .i64 (sd : Int)) := fun o => (World.grownBy_alloc w2 o none).cell c6 (by simp)
  rcases hd with rfl | rfl
  ·have HE : Hid (leafT x = [105, 110, 98, 111, 117, 110, 100]) := by unfold Hid leafT; rw [HK.out, HSD.out]; rfl
   go_wp2
   go_ret
   exact ⟨by rw [HE.out]; rfl, grown_trans HG2.out (World.grownBy_alloc _ _ _)⟩
  ·have HE : Hid (leafT x = [111, 117, 116, 98, 111, 117, 110, 100]) := by unfold Hid leafT; rw [HK.out, HSD.out]; rfl
   go_wp2
   go_ret
   exact ⟨by rw [HE.out]; rfl, grown_trans HG2.out (World.grownBy_alloc _ _ _)⟩
 ·have HE : Hid (leafT x = nameT x.of) := by unfold Hid leafT; rw [HK.out]; rfl
  go_wp2_with fail
  refine (CW _).mono ?_
  rintro e w3 ⟨rfl, K3⟩
  go_wp2
  go_ret
  exact ⟨by rw [HE.out]; rfl, grown_trans HG2.out K3⟩
 ·have HE : Hid (leafT x = [112, 114, 111, 116, 111, 32] ++ dec x.n) := by unfold Hid leafT; rw [HK.out]; rfl
  go_wp2_with fail
  refine (CN _).mono ?_
  rintro e w3 ⟨rfl, K3⟩
  go_wp2
  go_ret
  exact ⟨by rw [HE.out, cat]; rfl, grown_trans HG2.out K3⟩
 ·have HE : Hid (leafT x = nameT x.of ++ [32, 112, 114, 111, 116, 111, 32] ++ dec x.n) := by unfold Hid leafT; rw [HK.out]; rfl
  have HS0 : Hid (w2.cell? ⟨B, 5, none⟩ = some (.int .i64 x.of) ∧ w2.cell? ⟨B, 2, none⟩ = some (.int .u32 (x.n : Int)) ∧ w.grownBy w2 none) := ⟨c5, c2, HG2.out⟩
  have q1 : ¬ (9223372036854775807 < (nameT x.of).length + 7) := by omega
  have q2 : ¬ (9223372036854775807 < (nameT x.of).length + 7 + (dec x.n).length) := by omega
  go_upto_region 14 with fail
  go_region_held3 (fun W => W.cell? ⟨B, 5, none⟩ = some (.int .i64 x.of) ∧ W.cell? ⟨B, 2, none⟩ = some (.int .u32 (x.n : Int)) ∧ w.grownBy W none) (first | exact keep2 K (by assumption) | exact keep2d HS0.out) (first | (go_at_call 40; refine (CW _).mono ?_; rintro e w' ⟨rfl, K⟩) | (go_at_call 39; refine (CN _).mono ?_; rintro e w' ⟨rfl, K⟩))
  go_wp2
  go_ret
  refine ⟨?_, (And.right (And.right (by assumption)))⟩
  rw [HE.out, cat, cat]
  rfl
 ·have HE : Hid (leafT x = sideT x.side ++ [104, 111, 115, 116, 32] ++ adrT x) := by unfold Hid leafT; rw [HK.out]; rfl
  have hal := adr_len x
  go_wp2_with (refine wpList_load_row rfl 43 (.tmp 1) rfl B rfl 43 X (0, 0) _ HV2.out Tryz.underlying43 rfl HZ.out ?_)
  refine (HAD.out _).mono ?_
  rintro e w3 ⟨rfl, K3⟩
  go_wp2
  go_ret
  refine ⟨?_, grown_trans HG2.out K3⟩
  rw [HE.out, HSD.out, HSS.out, cat, cat]
  rfl
 ·have HE : Hid (leafT x = sideT x.side ++ [110, 101, 116, 32] ++ adrT x ++ [47] ++ dec x.bits.toNat) := by unfold Hid leafT; rw [HK.out]; rfl
  have hal := adr_len x
  have CB := num13_any bn (by omega)
  have hbl := dec_len bn
  have wb : IntKind.u32.wrap (bn : Int) = (bn : Int) := by rw [IntKind.wrap_u32]; omega
  have HS0 : Hid (VAt w2 B 43 X ∧ w2.cell? ⟨B, 23, none⟩ = some (.int .i64 (bn : Int)) ∧ w.grownBy w2 none) := ⟨HV2.out, c8, HG2.out⟩
  have q1 : ¬ (9223372036854775807 < sS.length + 4) := by omega
  have q2 : ¬ (9223372036854775807 < sS.length + 4 + (adrT x).length) := by omega
  have q3 : ¬ (9223372036854775807 < sS.length + 4 + (adrT x).length + 1) := by omega
  have q4 : ¬ (9223372036854775807 < sS.length + 4 + (adrT x).length + 1 + (dec bn).length) := by omega
  go_upto_region 18 with fail
  have HD0 := keepVd HS0.out
  refine wp_region_held_drew (S := fun W => VAt W B 43 X ∧ W.cell? ⟨B, 23, none⟩ = some (.int .i64 (bn : Int)) ∧ w.grownBy W none) (by kernel_rfl) HD0 (fun hHeld => ?_)
  clear HD0
  refine wpT (i := 0) (v := .string ⟨sS.toArray⟩) rfl (Or.inl ⟨by rfl, fun W hW => ?_⟩) hHeld ?_
  ·clear hW
   go_simp
  try simp only [Act.put, a0, a1, a3, a4, a5]
  refine wpT (i := 1) (v := .string ((⟨sS.toArray⟩ : ByteArray) ++ ⟨#[110, 101, 116, 32]⟩)) rfl (Or.inl ⟨by rfl, fun W hW => ?_⟩) hHeld ?_
  ·clear hW
   go_simp
  try simp only [Act.put, a0, a1, a2, a3, a4, a5]
  refine wpT (i := 2) (v := .agg X) rfl (yieldsIf_load_row (by rfl) _ _ rfl B rfl 43 X _ (fun W hW => hW.1) Tryz.underlying43 rfl HZ.out) hHeld ?_
  try simp only [Act.put, a0, a1, a2, a3, a4, a5]
  refine wpT (i := 6) (v := .pointer (some ⟨B, 23, none⟩)) rfl (Or.inl ⟨by rfl, fun W hW => ?_⟩) hHeld ?_
  ·clear hW
   go_simp
  try simp only [Act.put, a0, a1, a2, a3, a4, a5]
  refine wpT (i := 7) (v := .int .i64 (bn : Int)) rfl (Or.inl ⟨by rfl, fun W hW => ?_⟩) hHeld ?_
  ·have c8 := hW.2.1
   clear hW
   go_simp
  try simp only [Act.put, a0, a1, a2, a3, a4, a5]
  refine wpT (i := 8) (v := .int .u32 (bn : Int)) rfl (Or.inl ⟨by rfl, fun W hW => ?_⟩) hHeld ?_
  ·clear hW
   go_simp
  try simp only [Act.put, a0, a1, a2, a3, a4, a5]
  refine wpR (rs := [3]) (AllReadyH.cons rfl (fun K hK => ?_) AllReadyH.nil)
  go_simp
  refine (HAD.out _).mono ?_
  rintro e w7 ⟨rfl, K7⟩
  go_wp2_with fail
  refine hK.out _ _ (keepV K7 hHeld) (fun hHeld => ?_)
  clear hK K K7
  try simp only [Act.put, a0, a1, a2, a3, a4, a5]
  refine wpT (i := 4) (v := .string ((⟨sS.toArray⟩ : ByteArray) ++ ⟨#[110, 101, 116, 32]⟩ ++ ⟨(adrT x).toArray⟩)) rfl (Or.inl ⟨by rfl, fun W hW => ?_⟩) hHeld ?_
  ·clear hW
   go_simp
  try simp only [Act.put, a0, a1, a2, a3, a4, a5]
  refine wpT (i := 5) (v := .string ((⟨sS.toArray⟩ : ByteArray) ++ ⟨#[110, 101, 116, 32]⟩ ++ ⟨(adrT x).toArray⟩ ++ ⟨#[47]⟩)) rfl (Or.inl ⟨by rfl, fun W hW => ?_⟩) hHeld ?_
  ·clear hW
   go_simp
  try simp only [Act.put, a0, a1, a2, a3, a4, a5]
  refine wpR (rs := [9]) (AllReadyH.cons rfl (fun K hK => ?_) AllReadyH.nil)
  go_simp
  refine (CB _).mono ?_
  rintro e w8 ⟨rfl, K7⟩
  go_wp2_with fail
  refine hK.out _ _ (keepV K7 hHeld) (fun hHeld => ?_)
  clear hK K K7
  try simp only [Act.put, a0, a1, a2, a3, a4, a5]
  refine wpT (i := 10) (v := .string ((⟨sS.toArray⟩ : ByteArray) ++ ⟨#[110, 101, 116, 32]⟩ ++ ⟨(adrT x).toArray⟩ ++ ⟨#[47]⟩ ++ ⟨(dec bn).toArray⟩)) rfl (Or.inl ⟨by rfl, fun W hW => ?_⟩) hHeld ?_
  ·clear hW
   go_simp
  try simp only [Act.put, a0, a1, a2, a3, a4, a5]
  refine wpT (i := 11) (v := .string ((⟨sS.toArray⟩ : ByteArray) ++ ⟨#[110, 101, 116, 32]⟩ ++ ⟨(adrT x).toArray⟩ ++ ⟨#[47]⟩ ++ ⟨(dec bn).toArray⟩)) rfl (Or.inl ⟨by rfl, fun W hW => ?_⟩) hHeld ?_
  ·clear hW
   go_simp
  try simp only [Act.put, a0, a1, a2, a3, a4, a5]
  refine wpAnyH_done (by kernel_rfl) ?_ _
  go_wp2
  go_ret
  refine ⟨?_, hHeld.2.2⟩
  rw [HE.out, HSD.out, HSS.out, HBN.out, cat, cat, cat, cat]
  rfl
 ·have CNN := CN
  by_cases hof : x.of = 0
  ·have t0 : (x.of != 0) = false := by simpa using hof
   by_cases heq : x.n = x.m
   ·have te : ((x.n : Int) == (x.m : Int)) = true := by rw [heq]; simp
    have q1 : ¬ (9223372036854775807 < sS.length + 5) := by omega
    have q2 : ¬ (9223372036854775807 < sS.length + 5 + (dec x.n).length) := by omega
    have HE : Hid (leafT x = sS ++ [112, 111, 114, 116, 32] ++ dec x.n) := by
     unfold Hid leafT
     rw [HK.out, HSD.out, HSS.out]
     show (if x.of = 0 then [] else nameT x.of ++ [32]) ++ sS ++ (if x.n = x.m then _ else _) = _
     rw [if_pos hof, if_pos heq]
     simp
    clear heq hof
    have HG3 := HG2
    go_wp2_with fail
    refine (CN _).mono ?_
    rintro e w4 ⟨rfl, K4⟩
    go_wp2
    go_ret
    refine ⟨?_, grown_trans HG3.out K4⟩
    rw [HE.out]
    simp only [cat, str]
    rfl
   ·have te : ((x.n : Int) == (x.m : Int)) = false := by rw [beq_eq_false_iff_ne]; omega
    have HE : Hid (leafT x = sS ++ [112, 111, 114, 116, 114, 97, 110, 103, 101, 32] ++ dec x.n ++ [45] ++ dec x.m) := by
     unfold Hid leafT
     rw [HK.out, HSD.out, HSS.out]
     show (if x.of = 0 then [] else nameT x.of ++ [32]) ++ sS ++ (if x.n = x.m then _ else _) = _
     rw [if_pos hof, if_neg heq]
     simp
    clear heq hof
    have HG3 := HG2
    have d2 := c2
    have d3 := c3
    generalize hw3 : w2 = w3 at *
    clear hw3
    have HS0 : Hid (w3.cell? ⟨B, 2, none⟩ = some (.int .u32 (x.n : Int)) ∧ w3.cell? ⟨B, 3, none⟩ = some (.int .u32 (x.m : Int)) ∧ w.grownBy w3 none) := ⟨d2, d3, HG3.out⟩
    go_upto_region 24 with fail
    obtain ⟨PB, hPB⟩ : ∃ PB : ByteArray, (⟨sS.toArray⟩ : ByteArray) = PB := ⟨_, rfl⟩
    have HPB : Hid (PB = ⟨sS.toArray⟩) := by unfold Hid; rw [← hPB]
    have hPBl : PB.size ≤ 100 := by rw [HPB.out]; show (sS).toArray.size ≤ 100; simp; omega
    rw [hPB]
    have q1 : ¬ (9223372036854775807 < PB.size + 10) := by omega
    have q2 : ¬ (9223372036854775807 < PB.size + 10 + (dec x.n).length) := by omega
    have q3 : ¬ (9223372036854775807 < PB.size + 10 + (dec x.n).length + 1) := by omega
    have q4 : ¬ (9223372036854775807 < PB.size + 10 + (dec x.n).length + 1 + (dec x.m).length) := by omega
    clear hPB
    go_region_held3 (fun W => W.cell? ⟨B, 2, none⟩ = some (.int .u32 (x.n : Int)) ∧ W.cell? ⟨B, 3, none⟩ = some (.int .u32 (x.m : Int)) ∧ w.grownBy W none) (first | exact keep2 K (by assumption) | exact keep2d HS0.out) (first | (go_at_call_of 39 (Value.int .u32 (x.n : Int)); refine (CN _).mono ?_; rintro e w' ⟨rfl, K⟩) | (go_at_call_of 39 (Value.int .u32 (x.m : Int)); refine (CM _).mono ?_; rintro e w' ⟨rfl, K⟩))
    go_wp2
    go_ret
    refine ⟨?_, (And.right (And.right (by assumption)))⟩
    rw [HE.out, HPB.out]
    simp only [cat, str]
    rfl
  ·have t0 : (x.of != 0) = true := by simpa using hof
   by_cases heq : x.n = x.m
   ·have te : ((x.n : Int) == (x.m : Int)) = true := by rw [heq]; simp
    have q0 : ¬ (9223372036854775807 < (nameT x.of).length + 1) := by omega
    have q0b : ¬ (9223372036854775807 < (nameT x.of).length + 1 + sS.length) := by omega
    have q1 : ¬ (9223372036854775807 < (nameT x.of).length + 1 + sS.length + 5) := by omega
    have q2 : ¬ (9223372036854775807 < (nameT x.of).length + 1 + sS.length + 5 + (dec x.n).length) := by omega
    have HE : Hid (leafT x = (nameT x.of ++ [32] ++ sS) ++ [112, 111, 114, 116, 32] ++ dec x.n) := by
     unfold Hid leafT
     rw [HK.out, HSD.out, HSS.out]
     show (if x.of = 0 then [] else nameT x.of ++ [32]) ++ sS ++ (if x.n = x.m then _ else _) = _
     rw [if_neg hof, if_pos heq]
     simp
    clear heq hof
    go_wp2_with fail
    refine (CW _).mono ?_
    rintro e w3 ⟨rfl, K3⟩
    have d2 := K3.cell c2 (by simp)
    have d3 := K3.cell c3 (by simp)
    have HG3 : Hid (w.grownBy w3 none) := grown_trans HG2.out K3
    clear c0 c2 c3 c5 c6 c8 K3
    go_wp2_with fail
    refine (CN _).mono ?_
    rintro e w4 ⟨rfl, K4⟩
    go_wp2
    go_ret
    refine ⟨?_, grown_trans HG3.out K4⟩
    rw [HE.out]
    simp only [cat, str]
    rfl
   ·have te : ((x.n : Int) == (x.m : Int)) = false := by rw [beq_eq_false_iff_ne]; omega
    have q0 : ¬ (9223372036854775807 < (nameT x.of).length + 1) := by omega
    have q0b : ¬ (9223372036854775807 < (nameT x.of).length + 1 + sS.length) := by omega
    have HE : Hid (leafT x = (nameT x.of ++ [32] ++ sS) ++ [112, 111, 114, 116, 114, 97, 110, 103, 101, 32] ++ dec x.n ++ [45] ++ dec x.m) := by
     unfold Hid leafT
     rw [HK.out, HSD.out, HSS.out]
     show (if x.of = 0 then [] else nameT x.of ++ [32]) ++ sS ++ (if x.n = x.m then _ else _) = _
     rw [if_neg hof, if_neg heq]
     simp
    clear heq hof
    go_wp2_with fail
    refine (CW _).mono ?_
    rintro e w3 ⟨rfl, K3⟩
    have d2 := K3.cell c2 (by simp)
    have d3 := K3.cell c3 (by simp)
    have HG3 : Hid (w.grownBy w3 none) := grown_trans HG2.out K3
    clear c0 c2 c3 c5 c6 c8 K3
    have HS0 : Hid (w3.cell? ⟨B, 2, none⟩ = some (.int .u32 (x.n : Int)) ∧ w3.cell? ⟨B, 3, none⟩ = some (.int .u32 (x.m : Int)) ∧ w.grownBy w3 none) := ⟨d2, d3, HG3.out⟩
    go_upto_region 24 with fail
    obtain ⟨PB, hPB⟩ : ∃ PB : ByteArray, ((⟨(nameT x.of).toArray⟩ : ByteArray) ++ ⟨#[32]⟩ ++ ⟨sS.toArray⟩) = PB := ⟨_, rfl⟩
    have HPB : Hid (PB = ⟨(nameT x.of ++ [32] ++ sS).toArray⟩) := by unfold Hid; rw [← hPB]; simp only [cat]
    have hPBl : PB.size ≤ 100 := by rw [HPB.out]; show ((nameT x.of ++ [32] ++ sS)).toArray.size ≤ 100; simp; omega
    rw [hPB]
    have q1 : ¬ (9223372036854775807 < PB.size + 10) := by omega
    have q2 : ¬ (9223372036854775807 < PB.size + 10 + (dec x.n).length) := by omega
    have q3 : ¬ (9223372036854775807 < PB.size + 10 + (dec x.n).length + 1) := by omega
    have q4 : ¬ (9223372036854775807 < PB.size + 10 + (dec x.n).length + 1 + (dec x.m).length) := by omega
    clear hPB
    go_region_held3 (fun W => W.cell? ⟨B, 2, none⟩ = some (.int .u32 (x.n : Int)) ∧ W.cell? ⟨B, 3, none⟩ = some (.int .u32 (x.m : Int)) ∧ w.grownBy W none) (first | exact keep2 K (by assumption) | exact keep2d HS0.out) (first | (go_at_call_of 39 (Value.int .u32 (x.n : Int)); refine (CN _).mono ?_; rintro e w' ⟨rfl, K⟩) | (go_at_call_of 39 (Value.int .u32 (x.m : Int)); refine (CM _).mono ?_; rintro e w' ⟨rfl, K⟩))
    go_wp2
    go_ret
    refine ⟨?_, (And.right (And.right (by assumption)))⟩
    rw [HE.out, HPB.out]
    simp only [cat, str]
    rfl
def flatX (ps : List Tx) : List Value := ps.flatMap Tx.cells
theorem flatX_nil : flatX [] = [] := rfl
theorem flatX_cons (p : Tx) (ps : List Tx) : flatX (p :: ps) = p.cells ++ flatX ps := rfl
theorem flatX_append (xs ys : List Tx) : flatX (xs ++ ys) = flatX xs ++ flatX ys := by simp only [flatX, List.flatMap_append]
theorem flatX_one (p : Tx) : flatX [p] = p.cells := by rw [flatX_cons, flatX_nil, List.append_nil]
theorem Tx.cells_len (p : Tx) : p.cells.length = 3 := rfl
theorem Tx.cells_one (p : Tx) : ∀ u ∈ p.cells, u.oneCell' = true := by
 intro u hu
 simp only [Tx.cells, str, List.mem_cons, List.not_mem_nil, or_false] at hu
 rcases hu with rfl | rfl | rfl <;> rfl
theorem flatX_len (xs : List Tx) : (flatX xs).length = xs.length * 3 := by
 induction xs with
 | nil => rfl
 | cons x xs ih => rw [flatX_cons, List.length_append, ih, List.length_cons, Tx.cells_len]; omega
theorem flatX_get (xs : List Tx) (i j : Nat) (hi : i < xs.length) (hj : j < 3) : (flatX xs)[i * 3 + j]? = (xs[i].cells)[j]? := by
 induction xs generalizing i with
 | nil => simp at hi
 | cons x xs ih =>
  rw [flatX_cons]
  have hl : x.cells.length = 3 := rfl
  cases i with
  | zero => rw [List.getElem?_append_left (by omega)]; simp
  | succ i =>
   rw [List.getElem?_append_right (by omega), hl, show (i + 1) * 3 + j - 3 = i * 3 + j by omega, ih i (by simpa using hi)]
   simp
theorem CV.txs {w : World} {ao : Option Addr} {xs : List Tx} (h : CV w ao (flatX xs)) {k : Nat} (hk : k < xs.length) :
  ∃ b off, ao = some ⟨b, off, none⟩ ∧ ∀ i (hi : i < xs.length), w.rangeAt b (off + i * 3) xs[i].cells := by
 have hl := flatX_len xs
 obtain ⟨b, off, hao, hc⟩ := h.addr (k := k * 3) (by omega)
 refine ⟨b, off, hao, fun i hi j v hv => ?_⟩
 have hj : j < 3 := (List.getElem?_eq_some_iff.1 hv).1
 rw [← flatX_get xs i j hi hj] at hv
 rw [Nat.add_assoc, hc (i * 3 + j) (by omega), ← hv, List.getElem?_eq_getElem (by omega)]
theorem tx_cell {w W : World} {b off : Nat} {ps : List Tx} (C : CV w (some ⟨b, off, none⟩) (flatX ps)) (G : w.grownBy W none) {i : Nat} (hi : i < ps.length) :
  W.cell? ⟨b, off + i * 3, none⟩ = some (.string ⟨ps[i].s.toArray⟩) ∧ W.cell? ⟨b, off + i * 3 + 1, none⟩ = some (.int .i64 ps[i].row) ∧ W.cell? ⟨b, off + i * 3 + 2, none⟩ = some (.int .i64 (ps[i].deep : Int)) ∧ W.rangeAt b (off + i * 3) ps[i].cells := by
 obtain ⟨b', o', e', hc⟩ := CV.txs (C.keptNone G) hi
 simp only [Option.some.injEq, Addr.mk.injEq] at e'
 obtain ⟨rfl, rfl, -⟩ := e'
 have h0 := hc i hi 0 _ rfl
 rw [Nat.add_zero] at h0
 exact ⟨h0, hc i hi 1 _ rfl, hc i hi 2 _ rfl, hc i hi⟩
def overX (x : Ng) (ps : List Tx) (full : Bool) : Tx :=
 if x.kind = 3 then ⟨nameT x.of ++ [91] ++ (ps.getD 0 tx0).s ++ sizeT x.size ++ [93], 12, (ps.getD 0 tx0).deep + 1⟩
 else if x.kind = 9 ∨ x.kind = 5 then
  ⟨(if x.kind = 9 then [110, 111, 116, 32] else [45]) ++ (putX (ps.getD 0 tx0) (wantT full (ps.getD 0 tx0).row (rowG x))).s, rowG x, (putX (ps.getD 0 tx0) (wantT full (ps.getD 0 tx0).row (rowG x))).deep + 1⟩
 else ⟨(putX (ps.getD 0 tx0) (wantT full (ps.getD 0 tx0).row (if rowG x = 4 then 5 else rowG x))).s ++ [32] ++ signT x ++ [32] ++ (putX (ps.getD 1 tx0) (wantT full (ps.getD 1 tx0).row (rowG x + 1))).s, rowG x,
  max (putX (ps.getD 0 tx0) (wantT full (ps.getD 0 tx0).row (if rowG x = 4 then 5 else rowG x))).deep (putX (ps.getD 1 tx0) (wantT full (ps.getD 1 tx0).row (rowG x + 1))).deep⟩
structure OW (w W : World) (B : Nat) (x : Ng) : Prop where
 nb : NB W B x
 res : VAt W (B + 1) 47 #[.string ⟨#[]⟩, .int .i64 0, .int .i64 0]
 up : w.grownBy W none
 base : w.heap.size ≤ B
theorem OW.kept {w W W' : World} {B : Nat} {x : Ng} (h : OW w W B x) (K : W.grownBy W' none) : OW w W' B x := ⟨h.nb.kept K, h.res.kept K, grown_trans h.up K, h.base⟩
theorem OW.alloc (w : World) (x : Ng) : OW w ((w.alloc (.cells x.cells.toArray 43)).alloc (.cells #[.string ⟨#[]⟩, .int .i64 0, .int .i64 0] 47)) w.heap.size x := by
 have K := World.grownBy_alloc (w.alloc (.cells x.cells.toArray 43)) (.cells #[.string ⟨#[]⟩, .int .i64 0, .int .i64 0] 47) none
 have h := VAt.alloc (w.alloc (.cells x.cells.toArray 43)) 47 #[.string ⟨#[]⟩, .int .i64 0, .int .i64 0]
 rw [show (w.alloc (.cells x.cells.toArray 43)).heap.size = w.heap.size + 1 by simp] at h
 exact ⟨(NB.alloc w x).kept K, h, grown_trans (World.grownBy_alloc w _ none) K, Nat.le_refl _⟩
set_option maxRecDepth 100000 in
set_option maxHeartbeats 8000000 in
theorem over_load (x : Ng) (p : Tx) (ao : Option Addr) (cap : Nat) (full : Bool) (w : World) (C : CV w ao (flatX [p])) (hk : x.kind = 3) (ho : 0 ≤ x.of ∧ x.of ≤ 13) (hz : 1 ≤ x.size ∧ x.size ≤ 4) (hl : p.s.length ≤ 1099511627776) (hd : p.deep ≤ 1099511627776) :
  Calls Tryz.prog 23 #[.agg x.cells.toArray, .slice ao 1 cap, .bool full] w fun e w' => e = .returned (.agg (overX x [p] full).cells.toArray) ∧ w.grownBy w' none := by
 have HC : Hid (CV w ao (flatX [p])) := C
 have HE : Hid (overX x [p] full = ⟨nameT x.of ++ [91] ++ p.s ++ sizeT x.size ++ [93], 12, p.deep + 1⟩) := by unfold Hid overX; rw [if_pos hk]; rfl
 have HBX := box_ng x
 have h1 := OW.alloc w x
 have HZ : Hid ((Tryz.prog.info? 43).map (·.size) = some x.cells.toArray.size) := ng_size x
 have CR := row13_any x
 have CW := word13_any x.of ho
 have hwl := name_len x.of
 obtain ⟨X, hX⟩ : ∃ X, x.cells.toArray = X := ⟨_, rfl⟩
 rw [hX] at HBX CR HZ ⊢
 go_enter Tryz.func23, Tryz.ntmps23
 go_upto_region 1 with fail
 rw [hX] at h1
 generalize (w.alloc (.cells X 43)).alloc (.cells #[.string ⟨#[]⟩, .int .i64 0, .int .i64 0] 47) = w1 at *
 generalize w.heap.size = B at *
 have HV : VAt w1 B 43 X := hX ▸ h1.nb
 clear HBX hX C
 go_wp2_with (refine wpList_load_row rfl 43 (.tmp 3) rfl B rfl 43 X (0, 0) _ HV Tryz.underlying43 rfl HZ.out ?_)
 refine (CR _).mono ?_
 rintro e w2 ⟨rfl, K2⟩
 have HO2 : Hid (OW w w2 B x) := h1.kept K2
 have k0 := HO2.out.nb.kind
 rw [hk] at k0
 have k4 := HO2.out.nb.size
 have k5 := HO2.out.nb.of
 obtain ⟨b, off, rfl, -⟩ := CV.txs HC.out (k := 0) (by simp)
 obtain ⟨e0, -, e2, -⟩ := tx_cell HC.out HO2.out.up (i := 0) (by simp)
 simp only [Nat.zero_mul, Nat.add_zero, List.getElem_cons_zero] at e0 e2
 generalize rowG x = rr at *
 clear CR h1 K2 HV
 have HS0 : Hid (w2.cell? ⟨B, 5, none⟩ = some (.int .i64 x.of) ∧ w2.cell? ⟨b, off, none⟩ = some (.string ⟨p.s.toArray⟩) ∧ w2.grownBy w2 none) := ⟨k5, e0, World.grownBy.refl _ _⟩
 have hsz : (⟨p.s.toArray⟩ : ByteArray).size = p.s.length := by show p.s.toArray.size = _; simp
 have q1 : ¬ (9223372036854775807 < (nameT x.of).length + 1) := by omega
 have q2 : ¬ (9223372036854775807 < (nameT x.of).length + 1 + p.s.length) := by omega
 go_upto_region 4 with fail
 go_region_held3 (fun W => W.cell? ⟨B, 5, none⟩ = some (.int .i64 x.of) ∧ W.cell? ⟨b, off, none⟩ = some (.string ⟨p.s.toArray⟩) ∧ w2.grownBy W none) (first | exact keep2 K (by assumption) | exact keep2d HS0.out) (first | (go_at_call 40; refine (CW _).mono ?_; rintro e w' ⟨rfl, K⟩))
 have G3 : w2.grownBy w' none := And.right (And.right (by assumption))
 have HO3 : OW w w' B x := HO2.out.kept G3
 have d4 := HO3.nb.size
 obtain ⟨-, -, d2, -⟩ := tx_cell HC.out HO3.up (i := 0) (by simp)
 simp only [Nat.zero_mul, Nat.add_zero, List.getElem_cons_zero] at d2
 obtain ⟨zn, hzn⟩ : ∃ zn : Nat, x.size = zn := Int.eq_ofNat_of_zero_le (by omega)
 obtain ⟨PB, hPB⟩ : ∃ PB : ByteArray, (⟨(nameT x.of).toArray⟩ : ByteArray) ++ ⟨#[91]⟩ ++ ⟨p.s.toArray⟩ = PB := ⟨_, rfl⟩
 have HPB : Hid (PB = ⟨(nameT x.of ++ [91] ++ p.s).toArray⟩) := by unfold Hid; rw [← hPB]; simp only [cat]
 have hPl : PB.size ≤ 1099511627786 := by rw [HPB.out]; show (nameT x.of ++ [91] ++ p.s).toArray.size ≤ _; simp; omega
 rw [hPB]
 rw [hzn] at d4 hz
 have HOW3 : Hid (OW w w' B x) := HO3
 clear k0 k4 k5 e0 e2 HS0 q1 q2 G3 HO3 HO2 hPB hk CW HC hsz
 have hzc : zn = 1 ∨ zn ≠ 1 := by omega
 rcases hzc with rfl | hz1
 ·have HST : Hid (sizeT x.size = []) := by unfold Hid sizeT; rw [hzn]; rfl
  have HOF := HOW3
  have q3 : ¬ (9223372036854775807 < PB.size + 1) := by omega
  clear HOW3 hzn
  have wd : IntKind.i64.wrap ((p.deep : Int) + 1) = (p.deep : Int) + 1 := by rw [IntKind.wrap_i64]; omega
  have HP : Hid (VAt (((w'.setCell ⟨B + 1, 0, none⟩ (.string (PB ++ ⟨#[93]⟩))).setCell ⟨B + 1, 1, none⟩ (.int .i64 12)).setCell ⟨B + 1, 2, none⟩ (.int .i64 ((p.deep : Int) + 1))) (B + 1) 47 (overX x [p] full).cells.toArray) := by
   have := tx_put HOF.out.res rfl (overX x [p] full)
   rw [HE.out] at this
   unfold Hid
   rw [HE.out]
   have e0 : Value.string (PB ++ ⟨#[93]⟩) = str (nameT x.of ++ [91] ++ p.s ++ sizeT x.size ++ [93]) := by
    rw [HPB.out, HST.out]
    simp only [cat, str]
    simp
   rw [e0]
   exact this
  have HGF : Hid (w.grownBy (((w'.setCell ⟨B + 1, 0, none⟩ (.string (PB ++ ⟨#[93]⟩))).setCell ⟨B + 1, 1, none⟩ (.int .i64 12)).setCell ⟨B + 1, 2, none⟩ (.int .i64 ((p.deep : Int) + 1))) none) := grown_three HOF.out.up (by have := HOF.out.base; omega) _ _ _
  have HZ2 : Hid ((Tryz.prog.info? 47).map (·.size) = some (overX x [p] full).cells.toArray.size) := tx_size _
  have r0 : w'.cell? ⟨B + 1, 0, none⟩ = some (.string ⟨#[]⟩) := HOF.out.res.cell 0
  have r1 : w'.cell? ⟨B + 1, 1, none⟩ = some (.int .i64 0) := HOF.out.res.cell 1
  have r2 : w'.cell? ⟨B + 1, 2, none⟩ = some (.int .i64 0) := HOF.out.res.cell 2
  have f0 := HOF.out.res.free 0
  have f1 := HOF.out.res.free 1
  have f2 := HOF.out.res.free 2
  clear HOF
  go_wp2
  refine bodyPost_ret (results_cell_row rfl _ _ (B + 1) 47 _ (0, 0) _ rfl HP.out Tryz.underlying47 rfl HZ2.out) rfl ?_
  exact ⟨rfl, HGF.out⟩
 ·have HST : Hid (sizeT x.size = [58] ++ dec zn) := by
   unfold Hid sizeT
   rw [hzn, if_neg (by omega)]
   rfl
  have tz : ((zn : Int) != 1) = true := by rw [bne_iff_ne]; omega
  have wz : IntKind.u32.wrap (zn : Int) = (zn : Int) := by rw [IntKind.wrap_u32]; omega
  have CN := num13_any zn (by omega)
  have hdl := dec_len zn
  have q3 : ¬ (9223372036854775807 < PB.size + 1) := by omega
  have q4 : ¬ (9223372036854775807 < PB.size + 1 + (dec zn).length) := by omega
  have q5 : ¬ (9223372036854775807 < PB.size + 1 + (dec zn).length + 1) := by omega
  clear hzn
  go_wp2_with fail
  refine (CN _).mono ?_
  rintro e w5 ⟨rfl, K5⟩
  have HOF : Hid (OW w w5 B x) := HOW3.out.kept K5
  have d2' := K5.cell d2 (by simp)
  clear CN d2 d4 K5 HOW3
  have wd : IntKind.i64.wrap ((p.deep : Int) + 1) = (p.deep : Int) + 1 := by rw [IntKind.wrap_i64]; omega
  have HP : Hid (VAt (((w5.setCell ⟨B + 1, 0, none⟩ (.string ((PB ++ ⟨#[58]⟩ ++ ⟨(dec zn).toArray⟩) ++ ⟨#[93]⟩))).setCell ⟨B + 1, 1, none⟩ (.int .i64 12)).setCell ⟨B + 1, 2, none⟩ (.int .i64 ((p.deep : Int) + 1))) (B + 1) 47 (overX x [p] full).cells.toArray) := by
   have := tx_put HOF.out.res rfl (overX x [p] full)
   rw [HE.out] at this
   unfold Hid
   rw [HE.out]
   have e0 : Value.string ((PB ++ ⟨#[58]⟩ ++ ⟨(dec zn).toArray⟩) ++ ⟨#[93]⟩) = str (nameT x.of ++ [91] ++ p.s ++ sizeT x.size ++ [93]) := by
    rw [HPB.out, HST.out]
    simp only [cat, str]
    simp
   rw [e0]
   exact this
  have HGF : Hid (w.grownBy (((w5.setCell ⟨B + 1, 0, none⟩ (.string ((PB ++ ⟨#[58]⟩ ++ ⟨(dec zn).toArray⟩) ++ ⟨#[93]⟩))).setCell ⟨B + 1, 1, none⟩ (.int .i64 12)).setCell ⟨B + 1, 2, none⟩ (.int .i64 ((p.deep : Int) + 1))) none) := grown_three HOF.out.up (by have := HOF.out.base; omega) _ _ _
  have HZ2 : Hid ((Tryz.prog.info? 47).map (·.size) = some (overX x [p] full).cells.toArray.size) := tx_size _
  have r0 : w5.cell? ⟨B + 1, 0, none⟩ = some (.string ⟨#[]⟩) := HOF.out.res.cell 0
  have r1 : w5.cell? ⟨B + 1, 1, none⟩ = some (.int .i64 0) := HOF.out.res.cell 1
  have r2 : w5.cell? ⟨B + 1, 2, none⟩ = some (.int .i64 0) := HOF.out.res.cell 2
  have f0 := HOF.out.res.free 0
  have f1 := HOF.out.res.free 1
  have f2 := HOF.out.res.free 2
  clear HOF
  go_wp2
  refine bodyPost_ret (results_cell_row rfl _ _ (B + 1) 47 _ (0, 0) _ rfl HP.out Tryz.underlying47 rfl HZ2.out) rfl ?_
  exact ⟨rfl, HGF.out⟩

end Go.Proofs.YtklipelnjgpnjaaGreatDoor
