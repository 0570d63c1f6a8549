/-
  Rows of two kinds apart; places behind others.
-/
import Derived.Test.YtaldhnionkacmabVmN
import Derived.Test.YtaldhnionkacmabIntR
namespace Go.Proofs.Ytaldhnionkacmab
open Go.RowKit
set_option maxRecDepth 100000

/-- Rows of two kinds of elements: the one stays where the other is written. -/
theorem row_kinds {w w' : World} {base base' e e' size size' n n' : Nat} {v v' : Value} {vs vs' : List Value} (h : w.ownsRow base e size v n vs) (O : w.ownsRow base' e' size' v' n' vs') (he : e ≠ e') (K : w.grownBy w' v'.ownBlock) : w'.ownsRow base e size v n vs := by
  refine h.kept K ?_
  rcases h.2 with ⟨rfl, -⟩ | ⟨g, cap, cur, rfl, -, hg, -⟩
  · exact .inl rfl
  · right
    intro hh
    rcases O.2 with ⟨rfl, -⟩ | ⟨g', cap', cur', rfl, -, hg', -⟩
    · cases hh
    · simp only [Value.ownBlock, Option.some.injEq] at hh
      subst hh
      rw [hg] at hg'
      simp only [Option.some.injEq, Obj.cells.injEq] at hg'
      exact he hg'.2.1

theorem row_blk {w w' : World} {base e e' size n g m : Nat} {v : Value} {vs : List Value} (h : w.ownsRow base e size v n vs) (B : BlkN w e' g m) (he : e ≠ e') (K : w.grownBy w' (some g)) : w'.ownsRow base e size v n vs := by
  refine h.kept K ?_
  rcases h.2 with ⟨rfl, -⟩ | ⟨g1, cap, cur, rfl, -, hg, -⟩
  · exact .inl rfl
  · right
    intro hh
    simp only [Value.ownBlock, Option.some.injEq] at hh
    subst hh
    obtain ⟨cur', hb, -⟩ := B
    rw [hg] at hb
    simp only [Option.some.injEq, Obj.cells.injEq] at hb
    exact he hb.2.1

theorem blk_row {w w' : World} {base e e' size n g m : Nat} {v : Value} {vs : List Value} (B : BlkN w e' g m) (h : w.ownsRow base e size v n vs) (he : e ≠ e') (K : w.grownBy w' v.ownBlock) : BlkN w' e' g m := by
  refine B.kept K ?_
  rcases h.2 with ⟨rfl, -⟩ | ⟨g1, cap, cur, rfl, -, hg, -⟩
  · simp [Value.ownBlock]
  · intro hh
    simp only [Value.ownBlock, Option.some.injEq] at hh
    subst hh
    obtain ⟨cur', hb, -⟩ := B
    rw [hg] at hb
    simp only [Option.some.injEq, Obj.cells.injEq] at hb
    exact he hb.2.1

theorem vblk_set {w : World} {g i : Nat} {cur : Array Value} {e : TypeId} (h : w.heap[g]? = some (.cells cur e (0, 0))) (u : Value) : (w.setCell ⟨g, i, none⟩ u).heap[g]? = some (.cells (cur.setIfInBounds i u) e (0, 0)) := heap_setCell_same w g i cur e u h

/-- Three cells, written one behind the other. -/
theorem set3 {W : World} {g : Nat} {e : TypeId} (h : BlkN W e g 3) (v0 v1 v2 : Value) :
    let W3 := ((W.setCell ⟨g, 0, none⟩ v0).setCell ⟨g, 1, none⟩ v1).setCell ⟨g, 2, none⟩ v2
    W3.cell? ⟨g, 0, none⟩ = some v0 ∧ W3.cell? ⟨g, 1, none⟩ = some v1 ∧ W3.cell? ⟨g, 2, none⟩ = some v2 := by
  obtain ⟨cur, hh, hs⟩ := h
  have k := vblk_set (i := 2) (vblk_set (i := 1) (vblk_set (i := 0) hh v0) v1) v2
  intro W3
  have hc : ∀ i, W3.cell? ⟨g, i, none⟩ = (((cur.setIfInBounds 0 v0).setIfInBounds 1 v1).setIfInBounds 2 v2)[i]? := fun i => cell_of_row W3 g i _ _ _ k
  refine ⟨?_, ?_, ?_⟩ <;> rw [hc] <;> simp [hs]

/-- Places behind others. -/
def preV (ts : List Nat) (r : Nat × Int × List Nat) : Nat × Int × List Nat := (r.1, r.2.1, ts ++ r.2.2)
def zl (ts : List Nat) : List Int := ts.map fun n : Nat => (n : Int)

theorem preV_hd (ts : List Nat) (j : Nat) (r : Nat × Int × List Nat) : preV ts (hdV j r) = preV (ts ++ [j]) r := by
  simp [preV, hdV]

/-- Cells of an instruction that is boxed. -/
abbrev Bx (w : World) (b : Nat) (c t f k : Int) : Prop := w.cell? ⟨b, 0, none⟩ = some (.int .u16 c) ∧ w.cell? ⟨b, 1, none⟩ = some (.int .u8 t) ∧ w.cell? ⟨b, 2, none⟩ = some (.int .u8 f) ∧ w.cell? ⟨b, 3, none⟩ = some (.int .u32 k)

theorem bx_alloc (w : World) (e : TypeId) (c t f k : Int) : Bx (w.alloc (.cells #[.int .u16 c, .int .u8 t, .int .u8 f, .int .u32 k] e)) w.heap.size c t f k := by
  have h : ∀ i : Nat, (w.alloc (.cells #[.int .u16 c, .int .u8 t, .int .u8 f, .int .u32 k] e)).cell? ⟨w.heap.size, i, none⟩ = (#[.int .u16 c, .int .u8 t, .int .u8 f, .int .u32 k] : Array Value)[i]? := fun i => cell_of_row _ w.heap.size i _ _ _ (heap_alloc_new w _)
  exact ⟨h 0, h 1, h 2, h 3⟩

end Go.Proofs.Ytaldhnionkacmab
