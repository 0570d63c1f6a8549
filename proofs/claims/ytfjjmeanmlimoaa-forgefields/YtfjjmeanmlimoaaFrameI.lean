/-
  The document's own IP.
-/
import Derived.Test.YtfjjmeanmlimoaaFrameQ
namespace Go.Proofs.Ytfjjmeanmlimoaa
open Go.RowKit
set_option maxRecDepth 100000

/-- A boxed view, and a second behind it. -/
theorem two_views (w : World) (t s : Nat) (ds cs : Array Value) :
    VAt ((w.alloc (.cells ds t)).alloc (.cells cs s)) w.heap.size t ds ∧ VAt ((w.alloc (.cells ds t)).alloc (.cells cs s)) (w.heap.size + 1) s cs ∧ w.grownBy ((w.alloc (.cells ds t)).alloc (.cells cs s)) none := by
  have A0 := VAt.alloc w t ds
  have A1 := VAt.alloc (w.alloc (.cells ds t)) s cs
  have K1 := World.grownBy_alloc (w.alloc (.cells ds t)) (.cells cs s) none
  rw [show (w.alloc (.cells ds t)).heap.size = w.heap.size + 1 by simp] at A1
  exact ⟨A0.kept K1, A1, grown_trans (World.grownBy_alloc w _ none) K1⟩

theorem mod_and_u8 (h k : Nat) (hh : h < 256) (hk : k ≤ 8) : bits .and .u8 (h : Int) ((2 ^ k - 1 : Nat) : Int) = ((h % 2 ^ k : Nat) : Int) := by
  have hlt : 2 ^ k ≤ 2 ^ 8 := Nat.pow_le_pow_right (by decide) hk
  have := u8_and_nat h (2 ^ k - 1) hh (by omega)
  rw [this, Nat.and_two_pow_sub_one_eq_mod]
theorem and15 (x : Nat) (h : x < 256) : bits BinOp.and IntKind.u8 (x : Int) 15 = ((x % 16 : Nat) : Int) := by
  have := mod_and_u8 x 4 h (by decide)
  exact this
theorem and31 (x : Nat) (h : x < 256) : bits BinOp.and IntKind.u8 (x : Int) 31 = ((x % 32 : Nat) : Int) := by
  have := mod_and_u8 x 5 h (by decide)
  exact this

theorem two_sets {w wa : World} {L R t : Nat} {v : Vw} (LA : VAt wa L t (vwA v)) (RA : VAt wa R t (vwA Vw.zero)) (G : w.grownBy wa none) (hRL : R ≠ L) (hL : w.heap.size ≤ L) (n1 n2 : Nat) :
    VAt ((wa.setCell ⟨L, 6, none⟩ (.int .i64 (n1 : Int))).setCell ⟨L, 7, none⟩ (.int .i64 (n2 : Int))) L t (vwA { v with net := n1, next := n2 })
    ∧ VAt ((wa.setCell ⟨L, 6, none⟩ (.int .i64 (n1 : Int))).setCell ⟨L, 7, none⟩ (.int .i64 (n2 : Int))) R t (vwA Vw.zero)
    ∧ w.grownBy ((wa.setCell ⟨L, 6, none⟩ (.int .i64 (n1 : Int))).setCell ⟨L, 7, none⟩ (.int .i64 (n2 : Int))) none :=
  ⟨(LA.set 6 _).set 7 _, (RA.setOther _ hRL).setOther _ hRL, grown_setCell (grown_setCell G _ _ (.inr hL)) _ _ (.inr hL)⟩
theorem three_sets {w wa : World} {L R t : Nat} {v : Vw} (LA : VAt wa L t (vwA v)) (RA : VAt wa R t (vwA Vw.zero)) (G : w.grownBy wa none) (hRL : R ≠ L) (hL : w.heap.size ≤ L) (n1 n2 n3 : Nat) :
    VAt (((wa.setCell ⟨L, 6, none⟩ (.int .i64 (n1 : Int))).setCell ⟨L, 7, none⟩ (.int .i64 (n2 : Int))).setCell ⟨L, 8, none⟩ (.int .i64 (n3 : Int))) L t (vwA { v with net := n1, next := n2, load := n3 })
    ∧ VAt (((wa.setCell ⟨L, 6, none⟩ (.int .i64 (n1 : Int))).setCell ⟨L, 7, none⟩ (.int .i64 (n2 : Int))).setCell ⟨L, 8, none⟩ (.int .i64 (n3 : Int))) R t (vwA Vw.zero)
    ∧ w.grownBy (((wa.setCell ⟨L, 6, none⟩ (.int .i64 (n1 : Int))).setCell ⟨L, 7, none⟩ (.int .i64 (n2 : Int))).setCell ⟨L, 8, none⟩ (.int .i64 (n3 : Int))) none := by
  obtain ⟨h1, h2, h3⟩ := two_sets LA RA G hRL hL n1 n2
  exact ⟨h1.set 8 _, h2.setOther _ hRL, grown_setCell h3 _ _ (.inr hL)⟩

end Go.Proofs.Ytfjjmeanmlimoaa
