/-
  SameBytes of two lists that read alike answers true.
-/
import Derived.Test.YthmfpodibgheiabDoorMem
namespace Go.Proofs.YthmfpodibgheiabDoor
open Go.RowKit
set_option maxRecDepth 100000

end Go.Proofs.YthmfpodibgheiabDoor
