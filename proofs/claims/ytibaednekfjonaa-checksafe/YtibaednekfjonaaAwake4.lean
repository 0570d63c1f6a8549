/-
  The call 'awake' of the statements over package check answers true, and writes nothing that was there.
-/
import Derived.Test.YtibaednekfjonaaCheckP
namespace Go.Proofs.Ytibaednekfjonaa
open Go.RowKit
set_option maxRecDepth 100000

theorem a4_one : checkV [⟨7, 0, 0, 0⟩, ⟨135, 0, 0, 0⟩] = (1, 47) := by decide +kernel
theorem a4_two : checkV [⟨22, 0, 0, 0⟩] = (0, 0) := by decide +kernel
theorem a4_three : (checkV [⟨5, 0, 0, 1⟩, ⟨7, 0, 0, 0⟩, ⟨6, 0, 0, 0⟩]).2 = 0 ∧ reachV [⟨5, 0, 0, 1⟩, ⟨7, 0, 0, 0⟩, ⟨6, 0, 0, 0⟩] = [true, false, true] := by decide +kernel

theorem a4_c1 (a : Option Addr) (ca : Nat) (w : World) (h : CV w a [.int .u16 7, .int .u8 0, .int .u8 0, .int .u32 0, .int .u16 135, .int .u8 0, .int .u8 0, .int .u32 0]) :
    Calls Try.prog 11 #[.slice a 2 ca] w fun e w' => e = .returned (.tuple #[.int .i64 1, .int .i64 47]) ∧ w.grownBy w' none := by
  have k := check_any a ca [⟨7, 0, 0, 0⟩, ⟨135, 0, 0, 0⟩] w h
  rw [a4_one] at k
  exact k

theorem a4_c2 (a : Option Addr) (ca : Nat) (w : World) (h : CV w a [.int .u16 22, .int .u8 0, .int .u8 0, .int .u32 0]) :
    Calls Try.prog 11 #[.slice a 1 ca] w fun e w' => e = .returned (.tuple #[.int .i64 0, .int .i64 0]) ∧ w.grownBy w' none := by
  have k := check_any a ca [⟨22, 0, 0, 0⟩] w h
  rw [a4_two] at k
  exact k

theorem a4_c3 (a : Option Addr) (ca : Nat) (w : World) (h : CV w a [.int .u16 5, .int .u8 0, .int .u8 0, .int .u32 1, .int .u16 7, .int .u8 0, .int .u8 0, .int .u32 0, .int .u16 6, .int .u8 0, .int .u8 0, .int .u32 0]) :
    Calls Try.prog 15 #[.slice a 3 ca] w fun e w' => ∃ v, e = .returned (.tuple #[v, .int .i64 0]) ∧ BOwns w' w.heap.size v [true, false, true] ∧ w.grownBy w' none := by
  have k := reach_any a ca [⟨5, 0, 0, 1⟩, ⟨7, 0, 0, 0⟩, ⟨6, 0, 0, 0⟩] w h
  rw [a4_three.1, a4_three.2] at k
  exact k

set_option maxHeartbeats 1000000 in
theorem awake4_any (w : World) :
    Calls Try.prog 13 #[] w fun e w' => e = .returned (.bool true) ∧ w.grownBy w' none := by
  go_enter Try.func13, Try.ntmps13
  go_wp2_with fail
  refine (a4_c1 _ _ _ (cv_lit w _ _)).mono ?_
  rintro e w1 ⟨rfl, K1⟩
  have G1 := grown_trans (World.grownBy_alloc w _ none) K1
  clear K1
  go_wp2_with fail
  refine (a4_c2 _ _ _ (cv_lit w1 _ _)).mono ?_
  rintro e w2 ⟨rfl, K2⟩
  have G2 := grown_trans (grown_trans G1 (World.grownBy_alloc w1 _ none)) K2
  clear K2 G1
  go_wp2_with fail
  refine (a4_c3 _ _ _ (cv_lit w2 _ _)).mono ?_
  rintro e w3 ⟨v3, rfl, O3, K3⟩
  have G3 := grown_trans (grown_trans G2 (World.grownBy_alloc w2 _ none)) K3
  clear K3 G2
  obtain ⟨a3, p3, rfl, C3, -⟩ := cv_of_row O3
  clear O3
  go_wp2_with fail
  have L4 : CV (w3.alloc (.cells #[.bool true, .bool false, .bool true] 4)) (some ⟨w3.heap.size, 0, none⟩) ([true, false, true].map Value.bool) := cv_lit w3 4 [.bool true, .bool false, .bool true]
  have C4 := C3.keptNone (World.grownBy_alloc w3 (.cells #[.bool true, .bool false, .bool true] 4) none)
  refine (bsame_any a3 (some ⟨w3.heap.size, 0, none⟩) p3 3 [true, false, true] _ C4 L4 (by simp)).mono ?_
  rintro e w5 ⟨rfl, n5, rfl⟩
  have G5 := grown_trans (grown_trans G3 (World.grownBy_alloc w3 (.cells #[.bool true, .bool false, .bool true] 4) none)) (grown_drewN _ n5 none)
  clear C3 C4 L4 G3
  go_wp2
  go_ret
  exact ⟨rfl, G5⟩

end Go.Proofs.Ytibaednekfjonaa
