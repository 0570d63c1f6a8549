import Derived.Test.YtklipelnjgpnjaaGreatDoorLotA16
import Derived.Test.YtklipelnjgpnjaaGreatDoorLotA18
import Derived.Deep.RegionHeld3
namespace Go.Proofs.YtklipelnjgpnjaaGreatDoor
open Go.RowKit
set_option maxRecDepth 100000
def rowA (o : Int) : Int := if o = 7 then 5 else if o = 8 then 6 else if o = 6 then 7 else if o = 9 ∨ o = 10 then 8 else if o = 1 ∨ o = 2 then 9 else 10
theorem row_arith {x : Ng} (h : x.kind = 4) : rowG x = rowA x.op := by unfold rowG rowA; rw [h]; rfl
set_option maxRecDepth 100000 in
set_option maxHeartbeats 4000000 in
theorem rowOfArith_any (k : Int) (w : World) : Calls Tryz.prog 129 #[.int .i64 k] w fun e w' => e = .returned (.int .i64 (rowA k)) ∧ w' = w := by
 have h : k = 7 ∨ k = 8 ∨ k = 6 ∨ k = 9 ∨ k = 10 ∨ k = 1 ∨ k = 2 ∨ ¬ (k = 7 ∨ k = 8 ∨ k = 6 ∨ k = 9 ∨ k = 10 ∨ k = 1 ∨ k = 2) := by omega
 rcases h with rfl | rfl | rfl | rfl | rfl | rfl | rfl | hn
 ·go_enter Tryz.func129, Tryz.ntmps129
  go_wp2
  go_ret
  exact ⟨rfl, rfl⟩
 ·go_enter Tryz.func129, Tryz.ntmps129
  go_wp2
  go_ret
  exact ⟨rfl, rfl⟩
 ·go_enter Tryz.func129, Tryz.ntmps129
  go_wp2
  go_ret
  exact ⟨rfl, rfl⟩
 ·go_enter Tryz.func129, Tryz.ntmps129
  go_wp2
  go_ret
  exact ⟨rfl, rfl⟩
 ·go_enter Tryz.func129, Tryz.ntmps129
  go_wp2
  go_ret
  exact ⟨rfl, rfl⟩
 ·go_enter Tryz.func129, Tryz.ntmps129
  go_wp2
  go_ret
  exact ⟨rfl, rfl⟩
 ·go_enter Tryz.func129, Tryz.ntmps129
  go_wp2
  go_ret
  exact ⟨rfl, rfl⟩
 ·have hE : rowA k = 10 := by
   unfold rowA
   rw [if_neg (by omega), if_neg (by omega), if_neg (by omega), if_neg (by omega), if_neg (by omega)]
  rw [hE]
  have u7 : (k == 7) = false := by rw [beq_eq_false_iff_ne]; omega
  have u8 : (k == 8) = false := by rw [beq_eq_false_iff_ne]; omega
  have u6 : (k == 6) = false := by rw [beq_eq_false_iff_ne]; omega
  have u9 : (k == 9) = false := by rw [beq_eq_false_iff_ne]; omega
  have u10 : (k == 10) = false := by rw [beq_eq_false_iff_ne]; omega
  have u1 : (k == 1) = false := by rw [beq_eq_false_iff_ne]; omega
  have u2 : (k == 2) = false := by rw [beq_eq_false_iff_ne]; omega
  clear hn hE
  go_enter Tryz.func129, Tryz.ntmps129
  go_wp2
  go_ret
  exact ⟨rfl, rfl⟩
set_option maxRecDepth 100000 in
set_option maxHeartbeats 4000000 in
theorem shname_any (k : Int) (w : World) : Calls Tryz.prog 99 #[.int .i64 k] w fun e w' => e = .returned (str (nameT k)) ∧ w' = w := by
 have h : k = 1 ∨ k = 2 ∨ k = 3 ∨ k = 4 ∨ k = 5 ∨ k = 6 ∨ k = 7 ∨ k = 8 ∨ k = 9 ∨ k = 10 ∨ k = 11 ∨ k = 12 ∨ k = 13 ∨ ¬ (k = 1 ∨ k = 2 ∨ k = 3 ∨ k = 4 ∨ k = 5 ∨ k = 6 ∨ k = 7 ∨ k = 8 ∨ k = 9 ∨ k = 10 ∨ k = 11 ∨ k = 12 ∨ k = 13) := by omega
 rcases h with rfl | rfl | rfl | rfl | rfl | rfl | rfl | rfl | rfl | rfl | rfl | rfl | rfl | hn
 ·go_enter Tryz.func99, Tryz.ntmps99
  go_wp2
  go_ret
  exact ⟨rfl, rfl⟩
 ·go_enter Tryz.func99, Tryz.ntmps99
  go_wp2
  go_ret
  exact ⟨rfl, rfl⟩
 ·go_enter Tryz.func99, Tryz.ntmps99
  go_wp2
  go_ret
  exact ⟨rfl, rfl⟩
 ·go_enter Tryz.func99, Tryz.ntmps99
  go_wp2
  go_ret
  exact ⟨rfl, rfl⟩
 ·go_enter Tryz.func99, Tryz.ntmps99
  go_wp2
  go_ret
  exact ⟨rfl, rfl⟩
 ·go_enter Tryz.func99, Tryz.ntmps99
  go_wp2
  go_ret
  exact ⟨rfl, rfl⟩
 ·go_enter Tryz.func99, Tryz.ntmps99
  go_wp2
  go_ret
  exact ⟨rfl, rfl⟩
 ·go_enter Tryz.func99, Tryz.ntmps99
  go_wp2
  go_ret
  exact ⟨rfl, rfl⟩
 ·go_enter Tryz.func99, Tryz.ntmps99
  go_wp2
  go_ret
  exact ⟨rfl, rfl⟩
 ·go_enter Tryz.func99, Tryz.ntmps99
  go_wp2
  go_ret
  exact ⟨rfl, rfl⟩
 ·go_enter Tryz.func99, Tryz.ntmps99
  go_wp2
  go_ret
  exact ⟨rfl, rfl⟩
 ·go_enter Tryz.func99, Tryz.ntmps99
  go_wp2
  go_ret
  exact ⟨rfl, rfl⟩
 ·go_enter Tryz.func99, Tryz.ntmps99
  go_wp2
  go_ret
  exact ⟨rfl, rfl⟩
 ·have hE : nameT k = [] := by
   unfold nameT
   rw [if_neg (by omega), if_neg (by omega), if_neg (by omega), if_neg (by omega), if_neg (by omega), if_neg (by omega), if_neg (by omega), if_neg (by omega), if_neg (by omega), if_neg (by omega), if_neg (by omega), if_neg (by omega), if_neg (by omega)]
  rw [hE]
  have u1 : (k == 1) = false := by rw [beq_eq_false_iff_ne]; omega
  have u2 : (k == 2) = false := by rw [beq_eq_false_iff_ne]; omega
  have u3 : (k == 3) = false := by rw [beq_eq_false_iff_ne]; omega
  have u4 : (k == 4) = false := by rw [beq_eq_false_iff_ne]; omega
  have u5 : (k == 5) = false := by rw [beq_eq_false_iff_ne]; omega
  have u6 : (k == 6) = false := by rw [beq_eq_false_iff_ne]; omega
  have u7 : (k == 7) = false := by rw [beq_eq_false_iff_ne]; omega
  have u8 : (k == 8) = false := by rw [beq_eq_false_iff_ne]; omega
  have u9 : (k == 9) = false := by rw [beq_eq_false_iff_ne]; omega
  have u10 : (k == 10) = false := by rw [beq_eq_false_iff_ne]; omega
  have u11 : (k == 11) = false := by rw [beq_eq_false_iff_ne]; omega
  have u12 : (k == 12) = false := by rw [beq_eq_false_iff_ne]; omega
  have u13 : (k == 13) = false := by rw [beq_eq_false_iff_ne]; omega
  clear hn hE
  go_enter Tryz.func99, Tryz.ntmps99
  go_wp2
  go_ret
  exact ⟨rfl, rfl⟩
def sideW (k : Int) : List UInt8 := if k = 1 then [115, 114, 99] else if k = 2 then [100, 115, 116] else []
set_option maxRecDepth 100000 in
set_option maxHeartbeats 4000000 in
theorem shside_any (k : Int) (w : World) : Calls Tryz.prog 137 #[.int .i64 k] w fun e w' => e = .returned (str (sideW k)) ∧ w' = w := by
 have h : k = 1 ∨ k = 2 ∨ ¬ (k = 1 ∨ k = 2) := by omega
 rcases h with rfl | rfl | hn
 ·go_enter Tryz.func137, Tryz.ntmps137
  go_wp2
  go_ret
  exact ⟨rfl, rfl⟩
 ·go_enter Tryz.func137, Tryz.ntmps137
  go_wp2
  go_ret
  exact ⟨rfl, rfl⟩
 ·have hE : sideW k = [] := by
   unfold sideW
   rw [if_neg (by omega), if_neg (by omega)]
  rw [hE]
  have u1 : (k == 1) = false := by rw [beq_eq_false_iff_ne]; omega
  have u2 : (k == 2) = false := by rw [beq_eq_false_iff_ne]; omega
  clear hn hE
  go_enter Tryz.func137, Tryz.ntmps137
  go_wp2
  go_ret
  exact ⟨rfl, rfl⟩
def wayW (k : Int) : List UInt8 := if k = 1 then [105, 110, 98, 111, 117, 110, 100] else [111, 117, 116, 98, 111, 117, 110, 100]
set_option maxRecDepth 100000 in
set_option maxHeartbeats 4000000 in
theorem way_any (k : Int) (w : World) : Calls Tryz.prog 135 #[.int .i64 k] w fun e w' => e = .returned (str (wayW k)) ∧ w' = w := by
 have h : k = 1 ∨ ¬ (k = 1) := by omega
 rcases h with rfl | hn
 ·go_enter Tryz.func135, Tryz.ntmps135
  go_wp2
  go_ret
  exact ⟨rfl, rfl⟩
 ·have hE : wayW k = [111, 117, 116, 98, 111, 117, 110, 100] := by
   unfold wayW
   rw [if_neg (by omega)]
  rw [hE]
  have u1 : (k == 1) = false := by rw [beq_eq_false_iff_ne]; omega
  clear hn hE
  go_enter Tryz.func135, Tryz.ntmps135
  go_wp2
  go_ret
  exact ⟨rfl, rfl⟩
def cmpW (k : Int) : List UInt8 := if k = 1 then [61] else if k = 2 then [33, 61] else if k = 3 then [60] else if k = 4 then [60, 61] else if k = 5 then [62] else [62, 61]
set_option maxRecDepth 100000 in
set_option maxHeartbeats 4000000 in
theorem comparison_any (k : Int) (w : World) : Calls Tryz.prog 132 #[.int .i64 k] w fun e w' => e = .returned (str (cmpW k)) ∧ w' = w := by
 have h : k = 1 ∨ k = 2 ∨ k = 3 ∨ k = 4 ∨ k = 5 ∨ ¬ (k = 1 ∨ k = 2 ∨ k = 3 ∨ k = 4 ∨ k = 5) := by omega
 rcases h with rfl | rfl | rfl | rfl | rfl | hn
 ·go_enter Tryz.func132, Tryz.ntmps132
  go_wp2
  go_ret
  exact ⟨rfl, rfl⟩
 ·go_enter Tryz.func132, Tryz.ntmps132
  go_wp2
  go_ret
  exact ⟨rfl, rfl⟩
 ·go_enter Tryz.func132, Tryz.ntmps132
  go_wp2
  go_ret
  exact ⟨rfl, rfl⟩
 ·go_enter Tryz.func132, Tryz.ntmps132
  go_wp2
  go_ret
  exact ⟨rfl, rfl⟩
 ·go_enter Tryz.func132, Tryz.ntmps132
  go_wp2
  go_ret
  exact ⟨rfl, rfl⟩
 ·have hE : cmpW k = [62, 61] := by
   unfold cmpW
   rw [if_neg (by omega), if_neg (by omega), if_neg (by omega), if_neg (by omega), if_neg (by omega)]
  rw [hE]
  have u1 : (k == 1) = false := by rw [beq_eq_false_iff_ne]; omega
  have u2 : (k == 2) = false := by rw [beq_eq_false_iff_ne]; omega
  have u3 : (k == 3) = false := by rw [beq_eq_false_iff_ne]; omega
  have u4 : (k == 4) = false := by rw [beq_eq_false_iff_ne]; omega
  have u5 : (k == 5) = false := by rw [beq_eq_false_iff_ne]; omega
  clear hn hE
  go_enter Tryz.func132, Tryz.ntmps132
  go_wp2
  go_ret
  exact ⟨rfl, rfl⟩
def ariW (k : Int) : List UInt8 := if k = 1 then [43] else if k = 2 then [45] else if k = 3 then [42] else if k = 4 then [47] else if k = 5 then [37] else if k = 6 then [38] else if k = 7 then [124] else if k = 8 then [94] else if k = 9 then [60, 60] else [62, 62]
set_option maxRecDepth 100000 in
set_option maxHeartbeats 4000000 in
theorem arithmetic_any (k : Int) (w : World) : Calls Tryz.prog 133 #[.int .i64 k] w fun e w' => e = .returned (str (ariW k)) ∧ w' = w := by
 have h : k = 1 ∨ k = 2 ∨ k = 3 ∨ k = 4 ∨ k = 5 ∨ k = 6 ∨ k = 7 ∨ k = 8 ∨ k = 9 ∨ ¬ (k = 1 ∨ k = 2 ∨ k = 3 ∨ k = 4 ∨ k = 5 ∨ k = 6 ∨ k = 7 ∨ k = 8 ∨ k = 9) := by omega
 rcases h with rfl | rfl | rfl | rfl | rfl | rfl | rfl | rfl | rfl | hn
 ·go_enter Tryz.func133, Tryz.ntmps133
  go_wp2
  go_ret
  exact ⟨rfl, rfl⟩
 ·go_enter Tryz.func133, Tryz.ntmps133
  go_wp2
  go_ret
  exact ⟨rfl, rfl⟩
 ·go_enter Tryz.func133, Tryz.ntmps133
  go_wp2
  go_ret
  exact ⟨rfl, rfl⟩
 ·go_enter Tryz.func133, Tryz.ntmps133
  go_wp2
  go_ret
  exact ⟨rfl, rfl⟩
 ·go_enter Tryz.func133, Tryz.ntmps133
  go_wp2
  go_ret
  exact ⟨rfl, rfl⟩
 ·go_enter Tryz.func133, Tryz.ntmps133
  go_wp2
  go_ret
  exact ⟨rfl, rfl⟩
 ·go_enter Tryz.func133, Tryz.ntmps133
  go_wp2
  go_ret
  exact ⟨rfl, rfl⟩
 ·go_enter Tryz.func133, Tryz.ntmps133
  go_wp2
  go_ret
  exact ⟨rfl, rfl⟩
 ·go_enter Tryz.func133, Tryz.ntmps133
  go_wp2
  go_ret
  exact ⟨rfl, rfl⟩
 ·have hE : ariW k = [62, 62] := by
   unfold ariW
   rw [if_neg (by omega), if_neg (by omega), if_neg (by omega), if_neg (by omega), if_neg (by omega), if_neg (by omega), if_neg (by omega), if_neg (by omega), if_neg (by omega)]
  rw [hE]
  have u1 : (k == 1) = false := by rw [beq_eq_false_iff_ne]; omega
  have u2 : (k == 2) = false := by rw [beq_eq_false_iff_ne]; omega
  have u3 : (k == 3) = false := by rw [beq_eq_false_iff_ne]; omega
  have u4 : (k == 4) = false := by rw [beq_eq_false_iff_ne]; omega
  have u5 : (k == 5) = false := by rw [beq_eq_false_iff_ne]; omega
  have u6 : (k == 6) = false := by rw [beq_eq_false_iff_ne]; omega
  have u7 : (k == 7) = false := by rw [beq_eq_false_iff_ne]; omega
  have u8 : (k == 8) = false := by rw [beq_eq_false_iff_ne]; omega
  have u9 : (k == 9) = false := by rw [beq_eq_false_iff_ne]; omega
  clear hn hE
  go_enter Tryz.func133, Tryz.ntmps133
  go_wp2
  go_ret
  exact ⟨rfl, rfl⟩
theorem side_len (k : Int) : (sideT k).length ≤ 4 := by
 unfold sideT
 split
 ·decide
 ·split
  ·decide
  ·decide
theorem name_len (k : Int) : (nameT k).length ≤ 5 := by
 by_cases h1 : k = 1
 ·subst h1; decide
 by_cases h2 : k = 2
 ·subst h2; decide
 by_cases h3 : k = 3
 ·subst h3; decide
 by_cases h4 : k = 4
 ·subst h4; decide
 by_cases h5 : k = 5
 ·subst h5; decide
 by_cases h6 : k = 6
 ·subst h6; decide
 by_cases h7 : k = 7
 ·subst h7; decide
 by_cases h8 : k = 8
 ·subst h8; decide
 by_cases h9 : k = 9
 ·subst h9; decide
 by_cases h10 : k = 10
 ·subst h10; decide
 by_cases h11 : k = 11
 ·subst h11; decide
 by_cases h12 : k = 12
 ·subst h12; decide
 by_cases h13 : k = 13
 ·subst h13; decide
 unfold nameT
 rw [if_neg h1, if_neg h2, if_neg h3, if_neg h4, if_neg h5, if_neg h6, if_neg h7, if_neg h8, if_neg h9, if_neg h10, if_neg h11, if_neg h12, if_neg h13]
 decide
theorem adr_len (x : Ng) : (adrT x).length ≤ 1000 := by
 unfold adrT
 by_cases h : x.of = 3
 ·rw [if_pos h]
  have hp : (pairsG (adgs x)).length = 8 := pairs_len 8 _ (adgs_len x)
  generalize pairsG (adgs x) = gs at hp
  have hl : ∀ zs : List Nat, zs.length ≤ 8 → (joinV 58 (zs.map shortV)).length ≤ 40 := fun zs hz => by
   have := join_len 58 (zs.map shortV) 4 (fun l hl => by
    obtain ⟨g, -, rfl⟩ := List.mem_map.1 hl
    exact (short_piece g).2.2.1)
   rw [List.length_map] at this
   omega
  unfold print6V
  cases bestF 0 gs none with
  | none => have := hl gs (by omega); exact Nat.le_trans this (by decide)
  | some p =>
   have h1 := hl (gs.take p.1) (by rw [List.length_take]; omega)
   have h2 := hl (gs.drop (p.1 + p.2)) (by rw [List.length_drop]; omega)
   show (joinV 58 ((gs.take p.1).map shortV) ++ (58 :: 58 :: joinV 58 ((gs.drop (p.1 + p.2)).map shortV))).length ≤ 1000
   rw [List.length_append, List.length_cons, List.length_cons]
   omega
 ·rw [if_neg h]
  unfold print4V
  have := join_len 46 (((adgs x).take 4).map fun x => dec x.toNat) 20 (fun l hl => by
   obtain ⟨y, -, rfl⟩ := List.mem_map.1 hl
   exact dec_len _)
  rw [List.length_map, List.length_take, adgs_len] at this
  omega
theorem Tx.cells_len (p : Tx) : p.cells.length = 3 := rfl
theorem Tx.cells_one (p : Tx) : ∀ u ∈ p.cells, u.oneCell' = true := by
 intro u hu
 simp only [Tx.cells, str, List.mem_cons, List.not_mem_nil, or_false] at hu
 rcases hu with rfl | rfl | rfl <;> rfl
structure OW (w W : World) (B : Nat) (x : Ng) : Prop where
 nb : NB W B x
 res : VAt W (B + 1) 47 #[.string ⟨#[]⟩, .int .i64 0, .int .i64 0]
 up : w.grownBy W none
 base : w.heap.size ≤ B
theorem OW.kept {w W W' : World} {B : Nat} {x : Ng} (h : OW w W B x) (K : W.grownBy W' none) : OW w W' B x := ⟨h.nb.kept K, h.res.kept K, grown_trans h.up K, h.base⟩
theorem OW.alloc (w : World) (x : Ng) : OW w ((w.alloc (.cells x.cells.toArray 43)).alloc (.cells #[.string ⟨#[]⟩, .int .i64 0, .int .i64 0] 47)) w.heap.size x := by
 have K := World.grownBy_alloc (w.alloc (.cells x.cells.toArray 43)) (.cells #[.string ⟨#[]⟩, .int .i64 0, .int .i64 0] 47) none
 have h := VAt.alloc (w.alloc (.cells x.cells.toArray 43)) 47 #[.string ⟨#[]⟩, .int .i64 0, .int .i64 0]
 rw [show (w.alloc (.cells x.cells.toArray 43)).heap.size = w.heap.size + 1 by simp] at h
 exact ⟨(NB.alloc w x).kept K, h, grown_trans (World.grownBy_alloc w _ none) K, Nat.le_refl _⟩

end Go.Proofs.YtklipelnjgpnjaaGreatDoor
