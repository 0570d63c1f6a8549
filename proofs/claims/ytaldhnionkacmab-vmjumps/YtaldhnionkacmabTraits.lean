/-
  Package insn: what it tells of codes.
-/
import Derived.Test.YtaldhnionkacmabCodes
import Derived.Handy
namespace Go.Proofs.Ytaldhnionkacmab
open Go.RowKit
set_option maxRecDepth 100000

/-- Codes that look at K; codes that may end a run. -/
def tK (c : Int) : Bool := loadB c || (c == 0 || c == 96 || c == 1 || c == 97 || c == 2 || c == 3 || c == 4 || c == 20 || c == 36 || c == 52 || c == 148 || c == 68 || c == 84 || c == 164 || c == 100 || c == 116 || c == 5 || c == 6) || (c == 21 || c == 37 || c == 53 || c == 69)
def tF (c : Int) : Bool := loadB c || (c == 60 || c == 156)

theorem ret_traits {a b c d x y z u : Bool} (h1 : a = x) (h2 : b = y) (h3 : c = z) (h4 : d = u) : Ending.returned (.agg #[.bool a, .bool b, .bool c, .bool d]) = .returned (.agg #[.bool x, .bool y, .bool z, .bool u]) := by rw [h1, h2, h3, h4]

set_option maxRecDepth 100000 in
set_option maxHeartbeats 4000000 in
theorem traits_any (c : Int) (w : World) : Calls Try.prog 73 #[.int .u16 c] w fun e w' => e = .returned (.agg #[.bool (knownB c), .bool (tK c), .bool (jumpB c), .bool (tF c)]) ∧ w.grownBy w' none := by
  go_enter Try.func73, Try.ntmps73
  go_wp2
  all_goals
    go_returns
    refine ⟨?_, grown_trans (World.grownBy_alloc _ _ _) (World.grownBy_alloc _ _ _)⟩
    first
      | (have e := eq_of_beq ‹(c == _) = true›; subst e; rfl)
      | exact ret_traits (by simp [knownB, plainB, jumpB, operB, *]) (by simp [tK, loadB, *]) (by simp [jumpB, *]) (by simp [tF, loadB, *])

end Go.Proofs.Ytaldhnionkacmab
