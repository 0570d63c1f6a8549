/-
  SameBytes of two lists that read alike answers true.
-/
import Derived.Test.YthmfpodibgheiaaDoorMem
namespace Go.Proofs.YthmfpodibgheiaaDoor
open Go.RowKit
set_option maxRecDepth 100000

end Go.Proofs.YthmfpodibgheiaaDoor
