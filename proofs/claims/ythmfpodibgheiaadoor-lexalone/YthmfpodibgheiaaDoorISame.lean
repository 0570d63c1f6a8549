/-
  SameInsns of two lists that read alike answers true.
-/
import Derived.Test.YthmfpodibgheiaaDoorIMem
namespace Go.Proofs.YthmfpodibgheiaaDoor
open Go.RowKit
set_option maxRecDepth 100000

end Go.Proofs.YthmfpodibgheiaaDoor
