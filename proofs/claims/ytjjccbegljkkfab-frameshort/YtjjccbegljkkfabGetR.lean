/-
  The document's own Get.
-/
import Derived.Test.YtjjccbegljkkfabBase
namespace Go.Proofs.Ytjjccbegljkkfab
open Go.RowKit
set_option maxRecDepth 100000

end Go.Proofs.Ytjjccbegljkkfab
