/-
  Package frame as landed: Check, the reader's beginning, what is caught, a frame that is refused for its link.
-/
import Derived.Test.YtgfiadljjlajaabWalkF
import Derived.Test.YtgfiadljjlajaabFrameP
import Derived.Defers
import Derived.Recover
import Derived.Deep.MidRow
namespace Go.Proofs.Ytgfiadljjlajaab
open Go.RowKit
set_option maxRecDepth 100000

set_option maxHeartbeats 400000 in
theorem chk_any (l : Lk) (w : World) : Calls Try.prog 20 #[.agg (lkA l)] w fun e w' => e = .returned (.int .i64 (checkF l)) ∧ w.grownBy w' none := by
  obtain ⟨a, p, m⟩ := l
  simp only [lkA]
  by_cases h0 : m < 0
  · have e : checkF ⟨a, p, m⟩ = 70 := by rw [checkF, if_pos (.inl h0)]
    rw [e]
    go_enter Try.func20, Try.ntmps20
    go_wp2
    go_ret
    exact ⟨rfl, World.grownBy_alloc _ _ _⟩
  · by_cases h2 : 2 < m
    · have e : checkF ⟨a, p, m⟩ = 70 := by rw [checkF, if_pos (.inr h2)]
      rw [e]
      go_enter Try.func20, Try.ntmps20
      go_wp2
      go_ret
      exact ⟨rfl, World.grownBy_alloc _ _ _⟩
    · have e : checkF ⟨a, p, m⟩ = 0 := by rw [checkF, if_neg (by simp only; omega)]
      rw [e]
      go_enter Try.func20, Try.ntmps20
      go_wp2
      go_ret
      exact ⟨rfl, World.grownBy_alloc _ _ _⟩

set_option maxHeartbeats 1000000 in
theorem over_any (l : Lk) (a : Option Addr) (n ca : Nat) (w : World) : Calls Try.prog 24 #[.agg (lkA l), .slice a n ca] w fun e w' => ∃ g, e = .returned (.pointer (some ⟨g, 0, none⟩)) ∧ WAt w' g Vw.zero l (.slice a n ca) ∧ w.heap.size ≤ g ∧ w.grownBy w' none := by
  obtain ⟨ac, pf, m⟩ := l
  simp only [lkA]
  go_enter Try.func24, Try.ntmps24
  go_wp2
  go_ret
  refine ⟨_, rfl, ?_, Nat.le_succ _, grown_trans (World.grownBy_alloc _ _ _) (World.grownBy_alloc _ _ _)⟩
  have k := VAt.alloc (w.alloc (.cells #[.bool ac, .bool pf, .int .i64 m] 25)) 71 (wkA Vw.zero ⟨ac, pf, m⟩ (.slice a n ca))
  rw [show (w.alloc (.cells #[.bool ac, .bool pf, .int .i64 m] 25)).heap.size = w.heap.size + 1 by simp] at k
  exact k

/-- Three new blocks: the boxed link, the view, the error. -/
theorem three_blocks (w : World) (l : Lk) (t s r : Nat) (cs ds : Array Value) :
    VAt (((w.alloc (.cells (lkA l) t)).alloc (.cells cs s)).alloc (.cells ds r)) w.heap.size t (lkA l) ∧ VAt (((w.alloc (.cells (lkA l) t)).alloc (.cells cs s)).alloc (.cells ds r)) (w.heap.size + 1) s cs ∧ VAt (((w.alloc (.cells (lkA l) t)).alloc (.cells cs s)).alloc (.cells ds r)) (w.heap.size + 2) r ds ∧ w.grownBy (((w.alloc (.cells (lkA l) t)).alloc (.cells cs s)).alloc (.cells ds r)) none := by
  obtain ⟨A0, A1, G⟩ := two_blocks w l t s cs
  have A2 := VAt.alloc ((w.alloc (.cells (lkA l) t)).alloc (.cells cs s)) r ds
  have K := World.grownBy_alloc ((w.alloc (.cells (lkA l) t)).alloc (.cells cs s)) (.cells ds r) none
  rw [show ((w.alloc (.cells (lkA l) t)).alloc (.cells cs s)).heap.size = w.heap.size + 2 by simp] at A2
  exact ⟨A0.kept K, A1.kept K, A2, grown_trans G K⟩

end Go.Proofs.Ytgfiadljjlajaab
