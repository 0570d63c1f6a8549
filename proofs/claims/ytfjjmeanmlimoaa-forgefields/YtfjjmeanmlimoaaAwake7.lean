/-
  The call 'awake' of the statements over package frame answers true, and writes nothing that was there.
-/
import Derived.Test.YtfjjmeanmlimoaaFrameC
import Derived.Test.YtfjjmeanmlimoaaSame
namespace Go.Proofs.Ytfjjmeanmlimoaa
open Go.RowKit
set_option maxRecDepth 100000

theorem VAt.nine {w : World} {g t : Nat} {v : Vw} (h : VAt w g t (vwA v)) : w.cell? ⟨g, 0, none⟩ = some (.int .u32 (v.proto : Int)) ∧ w.cell? ⟨g, 1, none⟩ = some (.bool v.multi) ∧ w.cell? ⟨g, 2, none⟩ = some (.bool v.beg) ∧ w.cell? ⟨g, 3, none⟩ = some (.bool v.fin) ∧ w.cell? ⟨g, 4, none⟩ = some (.int .u32 (v.seq : Int))
    ∧ w.cell? ⟨g, 5, none⟩ = some (.int .i64 (v.pos : Int)) ∧ w.cell? ⟨g, 6, none⟩ = some (.int .i64 (v.net : Int)) ∧ w.cell? ⟨g, 7, none⟩ = some (.int .i64 (v.next : Int)) ∧ w.cell? ⟨g, 8, none⟩ = some (.int .i64 (v.load : Int)) :=
  ⟨h.cell 0, h.cell 1, h.cell 2, h.cell 3, h.cell 4, h.cell 5, h.cell 6, h.cell 7, h.cell 8⟩

/-- A view that a call handed out, laid into a block of its own. -/
theorem view_new (w : World) (v : Vw) : VAt ((w.alloc (.cells (vwA Vw.zero) 38)).setRow w.heap.size (vwA v)) w.heap.size 38 (vwA v) ∧ w.grownBy ((w.alloc (.cells (vwA Vw.zero) 38)).setRow w.heap.size (vwA v)) none ∧ w.heap.size < ((w.alloc (.cells (vwA Vw.zero) 38)).setRow w.heap.size (vwA v)).heap.size :=
  ⟨(VAt.alloc w 38 (vwA Vw.zero)).setRow _, vgrown_setRow (World.grownBy_alloc _ _ none) _ _ (.inr (Nat.le_refl _)), by rw [setRow_size]; simp⟩

theorem a7_ok : lookX ⟨false, false, 0⟩ [255, 3, 192, 33, 1] = .ok ⟨49185, false, false, false, 0, 4, 0, 0, 0⟩ := by rfl
theorem a7_no : lookX ⟨false, false, 0⟩ [192, 33] = .error 73 := by rfl

theorem a7_look1 (a : Option Addr) (ca : Nat) (w : World) (ha : Cells w a [255, 3, 192, 33, 1]) :
    Calls Try.prog 15 #[.agg #[.bool false, .bool false, .int .i64 0], .slice a 5 ca] w fun e w' => e = .returned (.tuple #[.agg (vwA ⟨49185, false, false, false, 0, 4, 0, 0, 0⟩), .int .i64 0]) ∧ w.grownBy w' none := by
  have k := look_any ⟨false, false, 0⟩ a ca [255, 3, 192, 33, 1] w ha (by simp)
  rw [a7_ok] at k
  exact k

theorem a7_look2 (a : Option Addr) (ca : Nat) (w : World) (ha : Cells w a [192, 33]) :
    Calls Try.prog 15 #[.agg #[.bool false, .bool false, .int .i64 0], .slice a 2 ca] w fun e w' => e = .returned (.tuple #[.agg (vwA Vw.zero), .int .i64 73]) ∧ w.grownBy w' none := by
  have k := look_any ⟨false, false, 0⟩ a ca [192, 33] w ha (by simp)
  rw [a7_no] at k
  exact k

theorem a7_chk (w : World) : Calls Try.prog 24 #[.agg #[.bool false, .bool false, .int .i64 3]] w fun e w' => e = .returned (.int .i64 70) ∧ w.grownBy w' none := chk_any ⟨false, false, 3⟩ w

end Go.Proofs.Ytfjjmeanmlimoaa
