/-
  Package frame as landed: Check, the reader's beginning, what is caught, a frame that is refused for its link.
-/
import Derived.Test.YtfjjmeanmlimoaaWalkF
import Derived.Test.YtfjjmeanmlimoaaFrameP
import Derived.Defers
import Derived.Recover
import Derived.Deep.MidRow
namespace Go.Proofs.Ytfjjmeanmlimoaa
open Go.RowKit
set_option maxRecDepth 100000

set_option maxHeartbeats 400000 in
theorem chk_any (l : Lk) (w : World) : Calls Try.prog 24 #[.agg (lkA l)] w fun e w' => e = .returned (.int .i64 (checkF l)) ∧ w.grownBy w' none := by
  obtain ⟨a, p, m⟩ := l
  simp only [lkA]
  by_cases h0 : m < 0
  · have e : checkF ⟨a, p, m⟩ = 70 := by rw [checkF, if_pos (.inl h0)]
    rw [e]
    go_enter Try.func24, Try.ntmps24
    go_wp2
    go_ret
    exact ⟨rfl, World.grownBy_alloc _ _ _⟩
  · by_cases h2 : 2 < m
    · have e : checkF ⟨a, p, m⟩ = 70 := by rw [checkF, if_pos (.inr h2)]
      rw [e]
      go_enter Try.func24, Try.ntmps24
      go_wp2
      go_ret
      exact ⟨rfl, World.grownBy_alloc _ _ _⟩
    · have e : checkF ⟨a, p, m⟩ = 0 := by rw [checkF, if_neg (by simp only; omega)]
      rw [e]
      go_enter Try.func24, Try.ntmps24
      go_wp2
      go_ret
      exact ⟨rfl, World.grownBy_alloc _ _ _⟩

set_option maxHeartbeats 1000000 in
theorem over_any (l : Lk) (a : Option Addr) (n ca : Nat) (w : World) : Calls Try.prog 33 #[.agg (lkA l), .slice a n ca] w fun e w' => ∃ g, e = .returned (.pointer (some ⟨g, 0, none⟩)) ∧ WAt w' g Vw.zero l (.slice a n ca) ∧ w.heap.size ≤ g ∧ w.grownBy w' none := by
  obtain ⟨ac, pf, m⟩ := l
  simp only [lkA]
  go_enter Try.func33, Try.ntmps33
  go_wp2
  go_ret
  refine ⟨_, rfl, ?_, Nat.le_succ _, grown_trans (World.grownBy_alloc _ _ _) (World.grownBy_alloc _ _ _)⟩
  have k := VAt.alloc (w.alloc (.cells #[.bool ac, .bool pf, .int .i64 m] 23)) 56 (wkA Vw.zero ⟨ac, pf, m⟩ (.slice a n ca))
  rw [show (w.alloc (.cells #[.bool ac, .bool pf, .int .i64 m] 23)).heap.size = w.heap.size + 1 by simp] at k
  exact k

/-- Three new blocks: the boxed link, the view, the error. -/
theorem three_blocks (w : World) (l : Lk) (t s r : Nat) (cs ds : Array Value) :
    VAt (((w.alloc (.cells (lkA l) t)).alloc (.cells cs s)).alloc (.cells ds r)) w.heap.size t (lkA l) ∧ VAt (((w.alloc (.cells (lkA l) t)).alloc (.cells cs s)).alloc (.cells ds r)) (w.heap.size + 1) s cs ∧ VAt (((w.alloc (.cells (lkA l) t)).alloc (.cells cs s)).alloc (.cells ds r)) (w.heap.size + 2) r ds ∧ w.grownBy (((w.alloc (.cells (lkA l) t)).alloc (.cells cs s)).alloc (.cells ds r)) none := by
  obtain ⟨A0, A1, G⟩ := two_blocks w l t s cs
  have A2 := VAt.alloc ((w.alloc (.cells (lkA l) t)).alloc (.cells cs s)) r ds
  have K := World.grownBy_alloc ((w.alloc (.cells (lkA l) t)).alloc (.cells cs s)) (.cells ds r) none
  rw [show ((w.alloc (.cells (lkA l) t)).alloc (.cells cs s)).heap.size = w.heap.size + 2 by simp] at A2
  exact ⟨A0.kept K, A1.kept K, A2, grown_trans G K⟩

set_option maxHeartbeats 1000000 in
theorem catch_pan (R E : Nat) (er e0 : Int) (X : Array Value) (w : World) (hR : VAt w R 38 X) (hX : X.size = 9) (hE : VAt w E 29 #[.int .i64 e0]) (hne : R ≠ E) :
    CallsD Try.prog 32 #[.pointer (some ⟨R, 0, none⟩), .pointer (some ⟨E, 0, none⟩)] (.panicking (PanE er)) w fun e u' w' =>
      e = .returned (.tuple #[]) ∧ u' = .panicking [{ v := .iface 29 (.int .i64 er), recovered := true }] ∧ w' = (w.setRow R (vwA Vw.zero)).setCell ⟨E, 0, none⟩ (.int .i64 er) := by
  have hta : ∀ W : World, (Instr.typeAssert (.iface 29 (.int .i64 er)) 20 29 true).run Try.prog W = .ok (.tuple #[.int .i64 er, .bool true]) W := fun W => by kernel_rfl
  refine callsD_of_wpS Try.func32 rfl fun c₀ cs hu => ?_
  unfold PanE at hu
  apply wpS_seq
  apply wpS_region
  simp [wpOpsS, go_sem, recoverD, hu, hta, Try.ntmps32, Exit.thenS]
  refine wpS_of_wp ?_
  have HS : Hid ((Try.prog.info? 38).map (·.size) = some (vwA Vw.zero).size) := size38
  have HX : Hid (X.size = (vwA Vw.zero).size) := hX
  have RA := hR
  have E1 := hE.grown (w' := w.setRow R (vwA Vw.zero)) (vgrown_setRow (World.grownBy.refl w (some R)) R (vwA Vw.zero) (.inl rfl)) (by simpa using hne)
  have cE : (w.setRow R (vwA Vw.zero)).cell? ⟨E, 0, none⟩ = some (.int .i64 e0) := E1.cell 0
  have fE := E1.free 0
  clear hta hX hE E1 hR
  obtain ⟨T, hT⟩ : ∃ T, Try.f32 = T := ⟨_, rfl⟩
  have HT : Hid (T.results = #[]) := by show T.results = #[]; rw [← hT]; rfl
  rw [hT]
  clear hT
  have eT : (#[.pointer (some ⟨R, 0, none⟩), .pointer (some ⟨E, 0, none⟩)] ++ (((((((Array.replicate 10 undef).setIfInBounds 3 (.iface 29 (.int .i64 er))).setIfInBounds 4 (.tuple #[.int .i64 er, .bool true])).setIfInBounds 2 (.tuple #[.int .i64 er, .bool true])).setIfInBounds 5 (.int .i64 er)).setIfInBounds 6 (.bool true)).setIfInBounds 0 (.int .i64 er)).setIfInBounds 1 (.bool true) : Array Value) = #[.pointer (some ⟨R, 0, none⟩), .pointer (some ⟨E, 0, none⟩), .int .i64 er, .bool true, .tuple #[.int .i64 er, .bool true], .iface 29 (.int .i64 er), .tuple #[.int .i64 er, .bool true], .int .i64 er, .bool true, undef, undef, undef] := by kernel_rfl
  rw [eT]
  clear eT
  go_wp2_with (refine wpList_store_row rfl 38 (.tmp 0) (.tmp 10) rfl R (vwA Vw.zero) rfl rfl 38 X RA HS.out HX.out (vwA_all _) ?_)
  exact ⟨rfl, _, rfl, _, results_none HT.out _ _ _, rfl, rfl, rfl⟩

set_option maxHeartbeats 1000000 in
theorem catch_idle (R E : Nat) (w : World) :
    CallsD Try.prog 32 #[.pointer (some ⟨R, 0, none⟩), .pointer (some ⟨E, 0, none⟩)] .returning w fun e u' w' => e = .returned (.tuple #[]) ∧ u' = .returning ∧ w' = w := by
  have hta : ∀ W : World, (Instr.typeAssert .nilIface 20 29 true).run Try.prog W = .ok (.tuple #[.int .i64 0, .bool false]) W := fun W => by kernel_rfl
  refine callsD_of_wpS Try.func32 rfl fun c₀ cs hu => ?_
  apply wpS_seq
  apply wpS_region
  simp [wpOpsS, go_sem, recoverD, hu, hta, Try.ntmps32, Exit.thenS]
  refine wpS_of_wp ?_
  clear hta
  obtain ⟨T, hT⟩ : ∃ T, Try.f32 = T := ⟨_, rfl⟩
  have HT : Hid (T.results = #[]) := by show T.results = #[]; rw [← hT]; rfl
  rw [hT]
  clear hT
  have eT : (#[.pointer (some ⟨R, 0, none⟩), .pointer (some ⟨E, 0, none⟩)] ++ (((((((Array.replicate 10 undef).setIfInBounds 3 .nilIface).setIfInBounds 4 (.tuple #[.int .i64 0, .bool false])).setIfInBounds 2 (.tuple #[.int .i64 0, .bool false])).setIfInBounds 5 (.int .i64 0)).setIfInBounds 6 (.bool false)).setIfInBounds 0 (.int .i64 0)).setIfInBounds 1 (.bool false) : Array Value) = #[.pointer (some ⟨R, 0, none⟩), .pointer (some ⟨E, 0, none⟩), .int .i64 0, .bool false, .tuple #[.int .i64 0, .bool false], .nilIface, .tuple #[.int .i64 0, .bool false], .int .i64 0, .bool false, undef, undef, undef] := by kernel_rfl
  rw [eT]
  clear eT
  go_wp2
  exact ⟨rfl, _, by rw [← hu], _, results_none HT.out _ _ _, rfl, rfl, rfl⟩

end Go.Proofs.Ytfjjmeanmlimoaa
