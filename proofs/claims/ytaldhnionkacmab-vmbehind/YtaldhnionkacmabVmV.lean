/-
  A verdict in memory; what a run comes to.
-/
import Derived.Test.YtaldhnionkacmabVmQ
namespace Go.Proofs.Ytaldhnionkacmab
open Go.RowKit
set_option maxRecDepth 100000

/-- Three cells of a boxed verdict. -/
def V3 (w : World) (b : Nat) (v : Nat) (f s : Int) : Prop := w.cell? ⟨b, 0, none⟩ = some (.int .u32 (v : Int)) ∧ w.cell? ⟨b, 1, none⟩ = some (.int .i64 f) ∧ w.cell? ⟨b, 2, none⟩ = some (.int .i64 s)

theorem v3_alloc (w : World) (e : TypeId) (v : Nat) (f s : Int) : V3 (w.alloc (.cells #[.int .u32 (v : Int), .int .i64 f, .int .i64 s] e)) w.heap.size v f s := by
  have h : ∀ i : Nat, (w.alloc (.cells #[.int .u32 (v : Int), .int .i64 f, .int .i64 s] e)).cell? ⟨w.heap.size, i, none⟩ = (#[.int .u32 (v : Int), .int .i64 f, .int .i64 s] : Array Value)[i]? := fun i => cell_of_row _ w.heap.size i _ _ _ (heap_alloc_new w _)
  exact ⟨h 0, h 1, h 2⟩

theorem V3.kept {w w' : World} {b v : Nat} {f s : Int} {row : Option Nat} (h : V3 w b v f s) (K : w.grownBy w' row) (hne : some b ≠ row) : V3 w' b v f s :=
  ⟨K.cell h.1 hne, K.cell h.2.1 hne, K.cell h.2.2 hne⟩

theorem V3.keptNone {w w' : World} {b v : Nat} {f s : Int} (h : V3 w b v f s) (K : w.grownBy w' none) : V3 w' b v f s := h.kept K (by simp)

/-- What vm.Run leaves; what vm.Trace leaves. -/
def RunEnd (w : World) (v : Nat) (f s E : Int) (e : Ending) (w' : World) : Prop := e = .returned (.tuple #[.agg #[.int .u32 (v : Int), .int .i64 f, .int .i64 s], .int .i64 E]) ∧ w.grownBy w' none
def TraceEnd (w : World) (ts : List Nat) (E : Int) (e : Ending) (w' : World) : Prop := ∃ v, e = .returned (.tuple #[v, .int .i64 E]) ∧ w'.ownsRow w.heap.size 3 1 v ts.length ((zl ts).map iv) ∧ w.grownBy w' none

end Go.Proofs.Ytaldhnionkacmab
