/-
  The document's own Check.
-/
import Derived.Test.YtaldhnionkacmabCodes
import Derived.Test.YtaldhnionkacmabICopy
import Derived.Handy
namespace Go.Proofs.Ytaldhnionkacmab
open Go.RowKit
set_option maxRecDepth 100000

def memB (c : Int) : Bool := c == 2 || c == 3 || c == 96 || c == 97
def divB (c : Int) : Bool := c == 52 || c == 148
def shfB (c : Int) : Bool := c == 100 || c == 116
def retB (c : Int) : Bool := c == 6 || c == 22

/-- What is wrong with an instruction by itself. -/
def faultV (c : Int) (k : Nat) : Int :=
  if knownB c = false then 42 else if (memB c && decide (16 ≤ k)) = true then 43 else if (divB c && k == 0) = true then 44 else if (shfB c && decide (31 < k)) = true then 45 else 0

end Go.Proofs.Ytaldhnionkacmab
