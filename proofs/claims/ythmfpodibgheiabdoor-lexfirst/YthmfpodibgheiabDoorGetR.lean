/-
  The document's own Get.
-/
import Derived.Test.YthmfpodibgheiabDoorBase
namespace Go.Proofs.YthmfpodibgheiabDoor
open Go.RowKit
set_option maxRecDepth 100000

end Go.Proofs.YthmfpodibgheiabDoor
