/-
  The document's own Packet.
-/
import Derived.Test.YtfjjmeanmlimoaaFrameV
import Derived.Test.YtfjjmeanmlimoaaCopy
import Derived.Test.YtfjjmeanmlimoaaBase
namespace Go.Proofs.Ytfjjmeanmlimoaa
open Go.RowKit
set_option maxRecDepth 100000

/-- P7.3. -/
def packV (way : Int) (b : List UInt8) : List UInt8 := if (way = 0 ∨ way = 1) ∧ b.length ≤ 65535 then UInt8.ofNat way.toNat :: b else []
theorem packV_len (way : Int) (b : List UInt8) : (packV way b).length ≤ 65536 := by
  unfold packV
  split
  · simp; omega
  · simp

end Go.Proofs.Ytfjjmeanmlimoaa
