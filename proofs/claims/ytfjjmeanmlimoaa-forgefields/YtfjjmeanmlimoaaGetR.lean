/-
  The document's own Get.
-/
import Derived.Test.YtfjjmeanmlimoaaBase
namespace Go.Proofs.Ytfjjmeanmlimoaa
open Go.RowKit
set_option maxRecDepth 100000

set_option maxHeartbeats 400000 in
theorem in_any (n : Nat) (p s : Int) (w : World) (hn : n ≤ 140737488355328) (hs : s = 1 ∨ s = 2 ∨ s = 4) :
    Calls Try.prog 75 #[.int .i64 n, .int .i64 p, .int .i64 s] w fun e w' => e = .returned (.bool (okB n p s)) ∧ w = w' := by
  rcases hs with rfl | rfl | rfl
  all_goals
    go_enter Try.func75, Try.ntmps75
    go_wp2
    all_goals
      go_ret
      first
        | exact ⟨ret_bool (okB_of (by omega)), rfl⟩
        | exact ⟨ret_bool (okB_no (by omega)), rfl⟩

end Go.Proofs.Ytfjjmeanmlimoaa
