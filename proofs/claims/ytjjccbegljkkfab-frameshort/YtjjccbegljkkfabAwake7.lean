/-
  The call 'awake' of the statements over package frame answers true, and writes nothing that was there.
-/
import Derived.Test.YtjjccbegljkkfabFrameC
import Derived.Test.YtjjccbegljkkfabSame
namespace Go.Proofs.Ytjjccbegljkkfab
open Go.RowKit
set_option maxRecDepth 100000

theorem VAt.nine {w : World} {g t : Nat} {v : Vw} (h : VAt w g t (vwA v)) : w.cell? ⟨g, 0, none⟩ = some (.int .u32 (v.proto : Int)) ∧ w.cell? ⟨g, 1, none⟩ = some (.bool v.multi) ∧ w.cell? ⟨g, 2, none⟩ = some (.bool v.beg) ∧ w.cell? ⟨g, 3, none⟩ = some (.bool v.fin) ∧ w.cell? ⟨g, 4, none⟩ = some (.int .u32 (v.seq : Int))
    ∧ w.cell? ⟨g, 5, none⟩ = some (.int .i64 (v.pos : Int)) ∧ w.cell? ⟨g, 6, none⟩ = some (.int .i64 (v.net : Int)) ∧ w.cell? ⟨g, 7, none⟩ = some (.int .i64 (v.next : Int)) ∧ w.cell? ⟨g, 8, none⟩ = some (.int .i64 (v.load : Int)) :=
  ⟨h.cell 0, h.cell 1, h.cell 2, h.cell 3, h.cell 4, h.cell 5, h.cell 6, h.cell 7, h.cell 8⟩

/-- A view that a call handed out, laid into a block of its own. -/
theorem view_new (w : World) (v : Vw) : VAt ((w.alloc (.cells (vwA Vw.zero) 27)).setRow w.heap.size (vwA v)) w.heap.size 27 (vwA v) ∧ w.grownBy ((w.alloc (.cells (vwA Vw.zero) 27)).setRow w.heap.size (vwA v)) none ∧ w.heap.size < ((w.alloc (.cells (vwA Vw.zero) 27)).setRow w.heap.size (vwA v)).heap.size :=
  ⟨(VAt.alloc w 27 (vwA Vw.zero)).setRow _, vgrown_setRow (World.grownBy_alloc _ _ none) _ _ (.inr (Nat.le_refl _)), by rw [setRow_size]; simp⟩

theorem a7_ok : lookX ⟨false, false, 0⟩ [255, 3, 192, 33, 1] = .ok ⟨49185, false, false, false, 0, 4, 0, 0, 0⟩ := by rfl
theorem a7_no : lookX ⟨false, false, 0⟩ [192, 33] = .error 73 := by rfl

theorem a7_look1 (a : Option Addr) (ca : Nat) (w : World) (ha : Cells w a [255, 3, 192, 33, 1]) :
    Calls Try.prog 4 #[.agg #[.bool false, .bool false, .int .i64 0], .slice a 5 ca] w fun e w' => e = .returned (.tuple #[.agg (vwA ⟨49185, false, false, false, 0, 4, 0, 0, 0⟩), .int .i64 0]) ∧ w.grownBy w' none := by
  have k := look_any ⟨false, false, 0⟩ a ca [255, 3, 192, 33, 1] w ha (by simp)
  rw [a7_ok] at k
  exact k

theorem a7_look2 (a : Option Addr) (ca : Nat) (w : World) (ha : Cells w a [192, 33]) :
    Calls Try.prog 4 #[.agg #[.bool false, .bool false, .int .i64 0], .slice a 2 ca] w fun e w' => e = .returned (.tuple #[.agg (vwA Vw.zero), .int .i64 73]) ∧ w.grownBy w' none := by
  have k := look_any ⟨false, false, 0⟩ a ca [192, 33] w ha (by simp)
  rw [a7_no] at k
  exact k

theorem a7_chk (w : World) : Calls Try.prog 7 #[.agg #[.bool false, .bool false, .int .i64 3]] w fun e w' => e = .returned (.int .i64 70) ∧ w.grownBy w' none := chk_any ⟨false, false, 3⟩ w

theorem a7_pack (a : Option Addr) (ca : Nat) (w : World) (ha : Cells w a [7]) (hc0 : a = none → ca = 0) :
    Calls Try.prog 17 #[.int .i64 1, .slice a 1 ca] w fun e w' => ∃ v, e = .returned v ∧ Owns w' w.heap.size v [1, 7] ∧ w.grownBy w' none := packet_any 1 a ca [7] w ha hc0

set_option maxRecDepth 100000 in
set_option maxHeartbeats 2000000 in
theorem awake7_any (w : World) :
    Calls Try.prog 6 #[] w fun e w' => e = .returned (.bool true) ∧ w.grownBy w' none := by
  have HS : Hid (∀ v : Vw, (Try.prog.info? 27).map (·.size) = some (vwA v).size) := fun v => size27
  have C0 := cells_lit w [255, 3, 192, 33, 1]
  have G0 := World.grownBy_alloc w (.cells #[.int .u8 255, .int .u8 3, .int .u8 192, .int .u8 33, .int .u8 1] 5) none
  go_enter Try.func6, Try.ntmps6
  go_wp2_with fail
  refine (a7_look1 _ _ _ C0).mono ?_
  rintro e w1 ⟨rfl, K1⟩
  have G1 := grown_trans G0 K1
  have V1 := VAt.alloc w1 27 (vwA Vw.zero)
  have HN1 : Hid _ := view_new w1 ⟨49185, false, false, false, 0, 4, 0, 0, 0⟩
  clear C0 G0 K1
  go_upto_region 2 with (refine wpList_store_row rfl 27 (.tmp 1) (.tmp 9) rfl w1.heap.size (vwA ⟨49185, false, false, false, 0, 4, 0, 0, 0⟩) rfl rfl 27 _ V1 (HS.out _) rfl (vwA_all _) ?_)
  rw [show w1.alloc (.cells #[.int .u32 0, .bool false, .bool false, .bool false, .int .u32 0, .int .i64 0, .int .i64 0, .int .i64 0, .int .i64 0] 27) = w1.alloc (.cells (vwA Vw.zero) 27) from rfl]
  clear V1
  generalize (w1.alloc (.cells (vwA Vw.zero) 27)).setRow w1.heap.size (vwA ⟨49185, false, false, false, 0, 4, 0, 0, 0⟩) = w2 at *
  obtain ⟨V2, K2, -⟩ := HN1.out
  generalize w1.heap.size = A at *
  have G2 := grown_trans G1 K2
  clear HN1 G1 K2
  clear w1
  have C2 := cells_lit w2 [192, 33]
  have K2 := World.grownBy_alloc w2 (.cells #[.int .u8 192, .int .u8 33] 5) none
  go_wp2_with fail
  refine (a7_look2 _ _ _ C2).mono ?_
  rintro e w3 ⟨rfl, K3⟩
  have G3 := grown_trans G2 (grown_trans K2 K3)
  have V3 := V2.kept (grown_trans K2 K3)
  have U3 := VAt.alloc w3 27 (vwA Vw.zero)
  have HN3 : Hid _ := view_new w3 Vw.zero
  clear C2 K2 K3 G2 V2
  go_upto_region 3 with (refine wpList_store_row rfl 27 (.tmp 3) (.tmp 15) rfl w3.heap.size (vwA Vw.zero) rfl rfl 27 _ U3 (HS.out _) rfl (vwA_all _) ?_)
  rw [show w3.alloc (.cells #[.int .u32 0, .bool false, .bool false, .bool false, .int .u32 0, .int .i64 0, .int .i64 0, .int .i64 0, .int .i64 0] 27) = w3.alloc (.cells (vwA Vw.zero) 27) from rfl]
  clear U3
  generalize (w3.alloc (.cells (vwA Vw.zero) 27)).setRow w3.heap.size (vwA Vw.zero) = w4 at *
  obtain ⟨-, K4, -⟩ := HN3.out
  generalize w3.heap.size = B at *
  have G4 := grown_trans G3 K4
  obtain ⟨c0, c1, c2, c3, c4, c5, c6, c7, c8⟩ := (V3.kept K4).nine
  clear HN3 G3 K4 V3
  clear w3
  simp only at c0 c1 c2 c3 c4 c5 c6 c7 c8
  go_wp2_with fail
  refine (a7_chk _).mono ?_
  rintro e w5 ⟨rfl, K5⟩
  have G5 := grown_trans G4 K5
  clear G4 K5 c0 c1 c2 c3 c4 c5 c6 c7 c8
  have C5 := cells_lit w5 [7]
  have K5 := World.grownBy_alloc w5 (.cells #[.int .u8 7] 5) none
  go_wp2_with fail
  refine (a7_pack _ _ _ C5 (by simp)).mono ?_
  rintro e w6 ⟨v6, rfl, O6, K6⟩
  have G6 := grown_trans G5 (grown_trans K5 K6)
  obtain ⟨ao6, cap6, rfl, C6, _⟩ := O6.shape
  clear O6 C5 K5 K6 G5
  have C7 := C6.keptNone (World.grownBy_alloc w6 (.cells #[.int .u8 1, .int .u8 7] 5) none)
  have D7 := cells_lit w6 [1, 7]
  go_wp2_with fail
  refine (same_any ao6 (some ⟨w6.heap.size, 0, none⟩) cap6 2 [1, 7] _ C7 D7 (by simp)).mono ?_
  rintro e w8 ⟨rfl, n8, rfl⟩
  have G8 := grown_trans (grown_trans G6 (World.grownBy_alloc w6 (.cells #[.int .u8 1, .int .u8 7] 5) none)) (grown_drewN _ n8 none)
  clear C6 C7 D7 G6
  go_wp2
  go_ret
  exact ⟨rfl, G8⟩

end Go.Proofs.Ytjjccbegljkkfab
