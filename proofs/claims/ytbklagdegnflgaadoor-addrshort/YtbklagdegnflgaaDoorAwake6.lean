/-
  The call 'awake' of the statements over package addr answers true, and writes nothing that was there.
-/
import Derived.Test.YtbklagdegnflgaaDoorAddrC
import Derived.Test.YtbklagdegnflgaaDoorArrEq
namespace Go.Proofs.YtbklagdegnflgaaDoor
open Go.RowKit
set_option maxRecDepth 100000

theorem a6_p4 : parse4V [49, 48, 46, 48, 46, 48, 46, 50, 53, 53] = some [10, 0, 0, 255] := by decide +kernel
theorem a6_p6 : parse6V [49, 58, 58, 50] = some [0, 1, 0, 0, 0, 0, 0, 0, 0, 0, 0, 0, 0, 0, 0, 2] := by decide +kernel
theorem a6_t4 : print4V [10, 0, 0, 255] = [49, 48, 46, 48, 46, 48, 46, 50, 53, 53] := by decide +kernel
theorem a6_t6 : print6V (pairsG [0, 1, 0, 0, 0, 0, 0, 0, 0, 0, 0, 0, 0, 0, 0, 2]) = [49, 58, 58, 50] := by decide +kernel
theorem a6_net : netV [10, 11, 12, 13] 12 = [10, 0, 0, 0] ∧ netE 4 12 = 0 := by decide +kernel
theorem a6_in : inV [10, 1, 2, 3] [10, 0, 0, 0] 8 = true ∧ inE [10, 1, 2, 3] [10, 0, 0, 0] 8 = 0 := by decide +kernel

theorem a6_p4c (w : World) (T : Tab w) : Calls Tryd.prog 9 #[.string ⟨#[49, 48, 46, 48, 46, 48, 46, 50, 53, 53]⟩] w fun e w' => e = .returned (.tuple #[.agg #[.int .u8 10, .int .u8 0, .int .u8 0, .int .u8 255], .int .i64 0]) ∧ w.grownBy w' none := by
  have k := parse4_any ⟨#[49, 48, 46, 48, 46, 48, 46, 50, 53, 53]⟩ w (by decide) T
  rw [show sl ⟨#[49, 48, 46, 48, 46, 48, 46, 50, 53, 53]⟩ = [49, 48, 46, 48, 46, 48, 46, 50, 53, 53] from rfl, a6_p4] at k
  exact k
theorem a6_p6c (w : World) (T : Tab w) : Calls Tryd.prog 14 #[.string ⟨#[49, 58, 58, 50]⟩] w fun e w' => e = .returned (.tuple #[.agg #[.int .u8 0, .int .u8 1, .int .u8 0, .int .u8 0, .int .u8 0, .int .u8 0, .int .u8 0, .int .u8 0, .int .u8 0, .int .u8 0, .int .u8 0, .int .u8 0, .int .u8 0, .int .u8 0, .int .u8 0, .int .u8 2], .int .i64 0]) ∧ w.grownBy w' none := by
  have k := parse6_any ⟨#[49, 58, 58, 50]⟩ w (by decide) T
  rw [show sl ⟨#[49, 58, 58, 50]⟩ = [49, 58, 58, 50] from rfl, a6_p6] at k
  exact k
theorem a6_t4c (w : World) (T : Tab w) : Calls Tryd.prog 11 #[.agg #[.int .u8 10, .int .u8 0, .int .u8 0, .int .u8 255]] w fun e w' => e = .returned (.string ⟨#[49, 48, 46, 48, 46, 48, 46, 50, 53, 53]⟩) ∧ w.grownBy w' none := by
  have k := print4_any [10, 0, 0, 255] w rfl T
  rw [a6_t4] at k
  exact k
theorem a6_t6c (w : World) (T : Tab w) : Calls Tryd.prog 16 #[.agg #[.int .u8 0, .int .u8 1, .int .u8 0, .int .u8 0, .int .u8 0, .int .u8 0, .int .u8 0, .int .u8 0, .int .u8 0, .int .u8 0, .int .u8 0, .int .u8 0, .int .u8 0, .int .u8 0, .int .u8 0, .int .u8 2]] w fun e w' => e = .returned (.string ⟨#[49, 58, 58, 50]⟩) ∧ w.grownBy w' none := by
  have k := print6_any [0, 1, 0, 0, 0, 0, 0, 0, 0, 0, 0, 0, 0, 0, 0, 2] w rfl T
  rw [a6_t6] at k
  exact k
theorem a6_netc (ad : Addr) (w : World) (h : Cells w (some ad) [10, 11, 12, 13]) : Calls Tryd.prog 20 #[.slice (some ad) 4 4, .int .i64 12] w fun e w' => ∃ v, e = .returned (.tuple #[v, .int .i64 0]) ∧ Owns w' w.heap.size v [10, 0, 0, 0] ∧ w.grownBy w' none := by
  have k := net_any (some ad) 4 [10, 11, 12, 13] 12 w h (by simp) (by simp)
  rw [a6_net.1, show ([10, 11, 12, 13] : List UInt8).length = 4 from rfl, a6_net.2] at k
  exact k
theorem a6_inc (ad be : Addr) (w : World) (h : Cells w (some ad) [10, 1, 2, 3]) (h2 : Cells w (some be) [10, 0, 0, 0]) : Calls Tryd.prog 25 #[.slice (some ad) 4 4, .slice (some be) 4 4, .int .i64 8] w fun e w' => e = .returned (.tuple #[.bool true, .int .i64 0]) ∧ w.grownBy w' none := by
  have k := in_any6 (some ad) 4 [10, 1, 2, 3] (some be) 4 [10, 0, 0, 0] 8 w h (by simp) (by simp) h2 (by simp)
  rw [a6_in.1, a6_in.2] at k
  exact k

theorem AAt.four {w : World} {g t : Nat} (h : AAt w g t [10, 0, 0, 255]) : w.cell? ⟨g, 0, none⟩ = some (.int .u8 10) ∧ w.cell? ⟨g, 1, none⟩ = some (.int .u8 0) ∧ w.cell? ⟨g, 2, none⟩ = some (.int .u8 0) ∧ w.cell? ⟨g, 3, none⟩ = some (.int .u8 255) :=
  ⟨h.cell (i := 0) (by decide), h.cell (i := 1) (by decide), h.cell (i := 2) (by decide), h.cell (i := 3) (by decide)⟩
theorem AAt.sixteen {w : World} {g t : Nat} (h : AAt w g t [0, 1, 0, 0, 0, 0, 0, 0, 0, 0, 0, 0, 0, 0, 0, 2]) :
    w.cell? ⟨g, 0, none⟩ = some (.int .u8 0) ∧ w.cell? ⟨g, 1, none⟩ = some (.int .u8 1) ∧ w.cell? ⟨g, 2, none⟩ = some (.int .u8 0) ∧ w.cell? ⟨g, 3, none⟩ = some (.int .u8 0) ∧ w.cell? ⟨g, 4, none⟩ = some (.int .u8 0) ∧ w.cell? ⟨g, 5, none⟩ = some (.int .u8 0) ∧ w.cell? ⟨g, 6, none⟩ = some (.int .u8 0) ∧ w.cell? ⟨g, 7, none⟩ = some (.int .u8 0) ∧ w.cell? ⟨g, 8, none⟩ = some (.int .u8 0) ∧ w.cell? ⟨g, 9, none⟩ = some (.int .u8 0) ∧ w.cell? ⟨g, 10, none⟩ = some (.int .u8 0) ∧ w.cell? ⟨g, 11, none⟩ = some (.int .u8 0) ∧ w.cell? ⟨g, 12, none⟩ = some (.int .u8 0) ∧ w.cell? ⟨g, 13, none⟩ = some (.int .u8 0) ∧ w.cell? ⟨g, 14, none⟩ = some (.int .u8 0) ∧ w.cell? ⟨g, 15, none⟩ = some (.int .u8 2) :=
  ⟨h.cell (i := 0) (by decide), h.cell (i := 1) (by decide), h.cell (i := 2) (by decide), h.cell (i := 3) (by decide), h.cell (i := 4) (by decide), h.cell (i := 5) (by decide), h.cell (i := 6) (by decide), h.cell (i := 7) (by decide), h.cell (i := 8) (by decide), h.cell (i := 9) (by decide), h.cell (i := 10) (by decide), h.cell (i := 11) (by decide), h.cell (i := 12) (by decide), h.cell (i := 13) (by decide), h.cell (i := 14) (by decide), h.cell (i := 15) (by decide)⟩

set_option maxRecDepth 100000 in
set_option maxHeartbeats 2000000 in
theorem awake6_any (w : World) (T : Tab w) :
    Calls Tryd.prog 13 #[] w fun e w' => e = .returned (.bool true) ∧ w.grownBy w' none := by
  have HT : Hid (Tab w) := T
  clear T
  go_enter Tryd.func13, Tryd.ntmps13
  go_wp2_with fail
  refine (a6_p4c _ HT.out).mono ?_
  rintro e w1 ⟨rfl, G1⟩
  go_upto_region 2 with fail
  have A1 := AAt.alloc w1 22 [10, 0, 0, 255]
  have G2 := grown_trans G1 (World.grownBy_alloc w1 (.cells ([10, 0, 0, 255].map bv).toArray 22) none)
  rw [show (([10, 0, 0, 255] : List UInt8).map bv).toArray = #[.int .u8 10, .int .u8 0, .int .u8 0, .int .u8 255] from rfl] at A1 G2
  generalize w1.alloc (.cells #[.int .u8 10, .int .u8 0, .int .u8 0, .int .u8 255] 22) = w2 at *
  generalize w1.heap.size = A at *
  clear G1 w1
  go_wp2_with fail
  refine (a6_p6c _ (HT.out.grown G2)).mono ?_
  rintro e w3 ⟨rfl, K3⟩
  have A3 := A1.grown K3 (by simp)
  have G3 := grown_trans G2 K3
  clear A1 G2 K3 w2
  go_upto_region 3 with fail
  have B4 := AAt.alloc w3 29 [0, 1, 0, 0, 0, 0, 0, 0, 0, 0, 0, 0, 0, 0, 0, 2]
  have K4 := World.grownBy_alloc w3 (.cells (([0, 1, 0, 0, 0, 0, 0, 0, 0, 0, 0, 0, 0, 0, 0, 2] : List UInt8).map bv).toArray 29) none
  rw [show (([0, 1, 0, 0, 0, 0, 0, 0, 0, 0, 0, 0, 0, 0, 0, 2] : List UInt8).map bv).toArray = #[.int .u8 0, .int .u8 1, .int .u8 0, .int .u8 0, .int .u8 0, .int .u8 0, .int .u8 0, .int .u8 0, .int .u8 0, .int .u8 0, .int .u8 0, .int .u8 0, .int .u8 0, .int .u8 0, .int .u8 0, .int .u8 2] from rfl] at B4 K4
  have A4 := A3.grown K4 (by simp)
  have G4 := grown_trans G3 K4
  clear A3 G3 K4
  generalize w3.alloc (.cells #[.int .u8 0, .int .u8 1, .int .u8 0, .int .u8 0, .int .u8 0, .int .u8 0, .int .u8 0, .int .u8 0, .int .u8 0, .int .u8 0, .int .u8 0, .int .u8 0, .int .u8 0, .int .u8 0, .int .u8 0, .int .u8 2] 29) = w4 at *
  generalize w3.heap.size = B at *
  clear w3
  go_wp2_with fail
  refine (a6_netc _ _ (cells_lit w4 [10, 11, 12, 13])).mono ?_
  rintro e w5 ⟨v5, rfl, O5, K5⟩
  have K5' := grown_trans (World.grownBy_alloc w4 _ none) K5
  have A5 := A4.grown K5' (by simp)
  have B5 := B4.grown K5' (by simp)
  have G5 := grown_trans G4 K5'
  obtain ⟨a5, c5, rfl, C5, -⟩ := O5.rd
  clear A4 B4 G4 K5 K5' O5
  have L1 := cells_lit w5 [10, 1, 2, 3]
  have KL1 := World.grownBy_alloc w5 (.cells (([10, 1, 2, 3] : List UInt8).map bv).toArray 5) none
  have L2 := cells_lit (w5.alloc (.cells (([10, 1, 2, 3] : List UInt8).map bv).toArray 5)) [10, 0, 0, 0]
  have KL2 := World.grownBy_alloc (w5.alloc (.cells (([10, 1, 2, 3] : List UInt8).map bv).toArray 5)) (.cells (([10, 0, 0, 0] : List UInt8).map bv).toArray 5) none
  have L3 := L1.keptNone KL2
  have KL := grown_trans KL1 KL2
  have hz : (w5.alloc (.cells (([10, 1, 2, 3] : List UInt8).map bv).toArray 5)).heap.size = w5.heap.size + 1 := by simp
  rw [hz] at L2
  clear hz L1 KL1 KL2
  go_wp2_with fail
  refine (a6_inc _ _ _ L3 L2).mono ?_
  rintro e w6 ⟨rfl, K6⟩
  have K6' := grown_trans KL K6
  have A6 := A5.grown K6' (by simp)
  have B6 := B5.grown K6' (by simp)
  have G6 := grown_trans G5 K6'
  have C6 := C5.keptNone K6'
  clear L2 L3 KL K6 K6' A5 B5 G5 C5
  obtain ⟨x0, x1, x2, x3⟩ := A6.four
  obtain ⟨-, y1, -, -, -, -, -, -, -, -, -, -, -, -, -, y15⟩ := B6.sixteen
  have HB6 : Hid (AAt w6 B 29 [0, 1, 0, 0, 0, 0, 0, 0, 0, 0, 0, 0, 0, 0, 0, 2]) := B6
  have HC6 : Hid (Cells w6 a5 [10, 0, 0, 0]) := C6
  clear A6 B6 C6
  have heq : ∀ W : World, (Op.equalIn 10000 22 (.agg #[.int .u8 10, .int .u8 0, .int .u8 0, .int .u8 255]) (.agg #[.int .u8 10, .int .u8 0, .int .u8 0, .int .u8 255])).run Tryd.prog W = .ok true W := fun W => eq22 [10, 0, 0, 255] [10, 0, 0, 255] rfl rfl W
  go_wp2_with fail
  clear heq
  refine (a6_t4c _ (HT.out.grown G6)).mono ?_
  rintro e w7 ⟨rfl, K7⟩
  have B7 := HB6.out.grown K7 (by simp)
  obtain ⟨z0, z1, z2, z3, z4, z5, z6, z7, z8, z9, z10, z11, z12, z13, z14, z15⟩ := B7.sixteen
  have G7 := grown_trans G6 K7
  have HC7 : Hid (Cells w7 a5 [10, 0, 0, 0]) := HC6.out.keptNone K7
  clear x0 x1 x2 x3 y1 y15 HB6 HC6 B7 G6 K7
  go_wp2_with fail
  refine (a6_t6c _ (HT.out.grown G7)).mono ?_
  rintro e w8 ⟨rfl, K8⟩
  have G8 := grown_trans G7 K8
  have HC8 : Hid (Cells w8 a5 [10, 0, 0, 0]) := HC7.out.keptNone K8
  clear z0 z1 z2 z3 z4 z5 z6 z7 z8 z9 z10 z11 z12 z13 z14 z15 G7 HC7 K8
  go_wp2_with fail
  refine (same_any a5 (some ⟨w8.heap.size, 0, none⟩) c5 4 [10, 0, 0, 0] _ (HC8.out.keptNone (World.grownBy_alloc w8 _ none)) (cells_lit w8 [10, 0, 0, 0]) (by simp)).mono ?_
  rintro e w9 ⟨rfl, n9, rfl⟩
  have G9 := grown_trans (grown_trans G8 (World.grownBy_alloc w8 (.cells (([10, 0, 0, 0] : List UInt8).map bv).toArray 5) none)) (grown_drewN _ n9 none)
  clear HC8 G8
  go_wp2
  go_ret
  exact ⟨rfl, G9⟩

end Go.Proofs.YtbklagdegnflgaaDoor
