/-
  The machine's words in memory.
-/
import Derived.Test.YtaldhnionkacmabVmM
namespace Go.Proofs.Ytaldhnionkacmab
open Go.RowKit
set_option maxRecDepth 100000

/-- The words lie in a block of their own. -/
def MAt (w : World) (t : TypeId) (base g : Nat) (M : Mc) : Prop := w.ownsRow base t 18 (.slice (some ⟨g, 0, none⟩) 1 1) 1 M.cells

theorem MAt.a {w : World} {t base g : Nat} {M : Mc} (h : MAt w t base g M) : w.cell? ⟨g, 0, none⟩ = some (.int .u32 (M.a : Int)) := by
  rw [World.ownsRow.cellAt h 0 (by omega)]; rfl

theorem MAt.x {w : World} {t base g : Nat} {M : Mc} (h : MAt w t base g M) : w.cell? ⟨g, 1, none⟩ = some (.int .u32 (M.x : Int)) := by
  rw [World.ownsRow.cellAt h 1 (by omega)]; rfl

theorem MAt.m {w : World} {t base g : Nat} {M : Mc} (h : MAt w t base g M) (hm : M.m.length = 16) (i : Nat) (hi : i < 16) : w.cell? ⟨g, 2 + i, none⟩ = some (.int .u32 (M.m.getD i 0 : Int)) := by
  rw [World.ownsRow.cellAt h (2 + i) (by omega), Mc.cells, show 2 + i = i + 1 + 1 by omega, List.getElem?_cons_succ, List.getElem?_cons_succ, List.getElem?_map, List.getElem?_eq_getElem (by omega)]
  simp [u32v, List.getElem?_eq_getElem (show i < M.m.length by omega)]

theorem MAt.free {w : World} {t base g : Nat} {M : Mc} (h : MAt w t base g M) (i : Nat) : w.frozen? ⟨g, i, none⟩ = false := World.ownsRow.frozenAt h i

theorem MAt.setA {w : World} {t base g : Nat} {M : Mc} (h : MAt w t base g M) (v : Nat) : MAt (w.setCell ⟨g, 0, none⟩ (.int .u32 (v : Int))) t base g ⟨v, M.x, M.m⟩ := (World.ownsRow.stored h 0 (.int .u32 (v : Int))).1

theorem MAt.setX {w : World} {t base g : Nat} {M : Mc} (h : MAt w t base g M) (v : Nat) : MAt (w.setCell ⟨g, 1, none⟩ (.int .u32 (v : Int))) t base g ⟨M.a, v, M.m⟩ := (World.ownsRow.stored h 1 (.int .u32 (v : Int))).1

theorem MAt.setM {w : World} {t base g : Nat} {M : Mc} (h : MAt w t base g M) (i v : Nat) : MAt (w.setCell ⟨g, 2 + i, none⟩ (.int .u32 (v : Int))) t base g ⟨M.a, M.x, M.m.set i v⟩ := by
  have := (World.ownsRow.stored h (2 + i) (.int .u32 (v : Int))).1
  unfold MAt
  have e : (Mc.cells ⟨M.a, M.x, M.m.set i v⟩) = M.cells.set (2 + i) (.int .u32 (v : Int)) := by
    rw [Mc.cells, Mc.cells, show 2 + i = i + 1 + 1 by omega, List.set_cons_succ, List.set_cons_succ, List.map_set]
    rfl
  rw [e]
  exact this

theorem MAt.lt {w : World} {t base g : Nat} {M : Mc} (h : MAt w t base g M) : base ≤ g ∧ g < w.heap.size := World.ownsRow.lt h g rfl

theorem MAt.kept {w w' : World} {t base g : Nat} {row : Option Nat} {M : Mc} (h : MAt w t base g M) (hg : w.grownBy w' row) (hne : row ≠ some g) : MAt w' t base g M :=
  World.ownsRow.kept h hg (.inr (by simp only [Value.ownBlock]; exact fun e => hne e.symm))

theorem mat_new (w : World) (t base : Nat) (hb : base ≤ w.heap.size) : MAt (w.alloc (.cells #[.int .u32 0, .int .u32 0, .int .u32 0, .int .u32 0, .int .u32 0, .int .u32 0, .int .u32 0, .int .u32 0, .int .u32 0, .int .u32 0, .int .u32 0, .int .u32 0, .int .u32 0, .int .u32 0, .int .u32 0, .int .u32 0, .int .u32 0, .int .u32 0] t)) t base w.heap.size mc0 :=
  World.ownsRow_lit (e := t) (size := 18) w #[.int .u32 0, .int .u32 0, .int .u32 0, .int .u32 0, .int .u32 0, .int .u32 0, .int .u32 0, .int .u32 0, .int .u32 0, .int .u32 0, .int .u32 0, .int .u32 0, .int .u32 0, .int .u32 0, .int .u32 0, .int .u32 0, .int .u32 0, .int .u32 0] 1 hb (by unfold maxLen; omega) (by simp)

theorem vand15 (k : Nat) (hk : k ≤ 4294967295) : bits .and .u32 (k : Int) 15 = ((k % 16 : Nat) : Int) := by
  have := u32_and_nat k 15 (by omega) (by omega)
  rw [show ((15 : Nat) : Int) = 15 by rfl] at this
  rw [this, show (15 : Nat) = 2 ^ 4 - 1 by rfl, Nat.and_two_pow_sub_one_eq_mod]

end Go.Proofs.Ytaldhnionkacmab
