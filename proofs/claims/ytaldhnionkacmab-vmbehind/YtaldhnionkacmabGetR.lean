/-
  The document's own Get.
-/
import Derived.Test.YtaldhnionkacmabBase
namespace Go.Proofs.Ytaldhnionkacmab
open Go.RowKit
set_option maxRecDepth 100000

end Go.Proofs.Ytaldhnionkacmab
