/-
  The call 'awake' of the statements over package vm answers true, and writes nothing that was there.
-/
import Derived.Test.YtaldhnionkacmabVmP
namespace Go.Proofs.Ytaldhnionkacmab
open Go.RowKit
set_option maxRecDepth 100000

theorem a5_val : runV [⟨40, 0, 0, 1⟩, ⟨22, 0, 0, 0⟩] [1, 2, 3] = (515, 0, [0, 1]) ∧ runE [⟨40, 0, 0, 1⟩, ⟨22, 0, 0, 0⟩] [1, 2, 3] = 0 := by decide +kernel

theorem a5_run (a b : Option Addr) (ca cb : Nat) (w : World) (h : CV w a [.int .u16 40, .int .u8 0, .int .u8 0, .int .u32 1, .int .u16 22, .int .u8 0, .int .u8 0, .int .u32 0]) (hb : Cells w b [1, 2, 3]) :
    Calls Try.prog 5 #[.slice a 2 ca, .slice b 3 cb] w fun e w' => RunEnd w 515 0 2 0 e w' := by
  have k := run_any a b ca cb [⟨40, 0, 0, 1⟩, ⟨22, 0, 0, 0⟩] [1, 2, 3] w h hb
  rw [a5_val.1, a5_val.2] at k
  exact k

theorem a5_trace (a b : Option Addr) (ca cb : Nat) (w : World) (h : CV w a [.int .u16 40, .int .u8 0, .int .u8 0, .int .u32 1, .int .u16 22, .int .u8 0, .int .u8 0, .int .u32 0]) (hb : Cells w b [1, 2, 3]) :
    Calls Try.prog 13 #[.slice a 2 ca, .slice b 3 cb] w fun e w' => TraceEnd w [0, 1] 0 e w' := by
  have k := trace_any a b ca cb [⟨40, 0, 0, 1⟩, ⟨22, 0, 0, 0⟩] [1, 2, 3] w h hb
  rw [a5_val.1, a5_val.2] at k
  exact k

set_option maxHeartbeats 1000000 in
theorem awake5_any (w : World) :
    Calls Try.prog 6 #[] w fun e w' => e = .returned (.bool true) ∧ w.grownBy w' none := by
  go_enter Try.func6, Try.ntmps6
  go_upto_region 2 with fail
  have G0 : w.grownBy (w.alloc (.cells #[.int .u16 40, .int .u8 0, .int .u8 0, .int .u32 1, .int .u16 22, .int .u8 0, .int .u8 0, .int .u32 0] 27)) none := World.grownBy_alloc _ _ _
  have C0 : CV (w.alloc (.cells #[.int .u16 40, .int .u8 0, .int .u8 0, .int .u32 1, .int .u16 22, .int .u8 0, .int .u8 0, .int .u32 0] 27)) (some ⟨w.heap.size, 0, none⟩) [.int .u16 40, .int .u8 0, .int .u8 0, .int .u32 1, .int .u16 22, .int .u8 0, .int .u8 0, .int .u32 0] := cv_lit w _ _
  generalize w.alloc (.cells #[.int .u16 40, .int .u8 0, .int .u8 0, .int .u32 1, .int .u16 22, .int .u8 0, .int .u8 0, .int .u32 0] 27) = w0 at *
  generalize w.heap.size = B at *
  go_wp2_with fail
  refine (a5_run _ _ _ _ _ (C0.keptNone (World.grownBy_alloc _ _ _)) (cells_lit w0 [1, 2, 3])).mono ?_
  rintro e w1 ⟨rfl, K1⟩
  have G1 := grown_trans (grown_trans G0 (World.grownBy_alloc _ _ _)) K1
  have C1 := (C0.keptNone (World.grownBy_alloc _ _ none)).keptNone K1
  clear K1 G0 C0
  go_upto_region 3 with fail
  have G2 := grown_trans G1 (World.grownBy_alloc w1 (.cells #[.int .u32 515, .int .i64 0, .int .i64 2] 30) none)
  have C2 := C1.keptNone (World.grownBy_alloc w1 (.cells #[.int .u32 515, .int .i64 0, .int .i64 2] 30) none)
  have V2 : V3 (w1.alloc (.cells #[.int .u32 515, .int .i64 0, .int .i64 2] 30)) w1.heap.size 515 0 2 := v3_alloc w1 30 515 0 2
  generalize w1.alloc (.cells #[.int .u32 515, .int .i64 0, .int .i64 2] 30) = w2 at *
  generalize w1.heap.size = B1 at *
  clear G1 C1
  go_wp2_with fail
  refine (a5_trace _ _ _ _ _ (C2.keptNone (World.grownBy_alloc _ _ _)) (cells_lit w2 [1, 2, 3])).mono ?_
  rintro e w3 ⟨v3, rfl, O3, K3⟩
  have K4 := grown_trans (World.grownBy_alloc w2 (.cells #[.int .u8 1, .int .u8 2, .int .u8 3] 5) none) K3
  have G3 := grown_trans G2 K4
  have V4 := V2.keptNone K4
  clear K3 K4 G2 C2 V2
  obtain ⟨y0, y1, y2⟩ := V4
  obtain ⟨a3, p3, rfl, C3, -⟩ := cv_of_row O3
  clear O3
  go_wp2_with fail
  have L4 : CV (w3.alloc (.cells #[.int .i64 0, .int .i64 1] 3)) (some ⟨w3.heap.size, 0, none⟩) (([0, 1] : List Int).map iv) := cv_lit w3 3 [.int .i64 0, .int .i64 1]
  have C4 := C3.keptNone (World.grownBy_alloc w3 (.cells #[.int .i64 0, .int .i64 1] 3) none)
  refine (zsame_any a3 (some ⟨w3.heap.size, 0, none⟩) p3 2 [0, 1] _ C4 L4 (by simp)).mono ?_
  rintro e w5 ⟨rfl, n5, rfl⟩
  have G5 := grown_trans (grown_trans G3 (World.grownBy_alloc w3 (.cells #[.int .i64 0, .int .i64 1] 3) none)) (grown_drewN _ n5 none)
  clear C3 C4 L4 G3
  go_wp2
  go_ret
  exact ⟨rfl, G5⟩

end Go.Proofs.Ytaldhnionkacmab
