/-
  The document's own Get.
-/
import Derived.Test.YtcmeejoabiedaaaDoorBase
namespace Go.Proofs.YtcmeejoabiedaaaDoor
open Go.RowKit
set_option maxRecDepth 100000

end Go.Proofs.YtcmeejoabiedaaaDoor
