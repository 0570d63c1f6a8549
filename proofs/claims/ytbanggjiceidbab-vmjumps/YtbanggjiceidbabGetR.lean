/-
  The document's own Get.
-/
import Derived.Test.YtbanggjiceidbabBase
namespace Go.Proofs.Ytbanggjiceidbab
open Go.RowKit
set_option maxRecDepth 100000

end Go.Proofs.Ytbanggjiceidbab
