/-
  The document's own Get.
-/
import Derived.Test.YthmfpodibgheiaaDoorBase
namespace Go.Proofs.YthmfpodibgheiaaDoor
open Go.RowKit
set_option maxRecDepth 100000

end Go.Proofs.YthmfpodibgheiaaDoor
