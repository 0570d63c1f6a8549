/-
  The document's own Get.
-/
import Derived.Test.YtlnihneidabcnabBase
namespace Go.Proofs.Ytlnihneidabcnab
open Go.RowKit
set_option maxRecDepth 100000

end Go.Proofs.Ytlnihneidabcnab
