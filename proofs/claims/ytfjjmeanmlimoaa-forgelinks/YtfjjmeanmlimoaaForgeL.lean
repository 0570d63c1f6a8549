/-
  A link and a spec that are read through calls in a region that draws its order.
-/
import Derived.Test.YtfjjmeanmlimoaaForgeK
import Derived.Deep.RegionHeld3
import Derived.Deep.MidRow
import Derived.Deep.WholeRow
namespace Go.Proofs.Ytfjjmeanmlimoaa
open Go.RowKit
set_option maxRecDepth 100000

theorem made_len (l : Lk) (s : Sp) : (exV [] (makeX l s)).length ≤ 65535 := by
  cases h : makeX l s with
  | error e => simp [exV]
  | ok b =>
    obtain ⟨_, _, rfl, h4⟩ := make_ok h
    exact h4

end Go.Proofs.Ytfjjmeanmlimoaa
