/-
  The document's own Get.
-/
import Derived.Test.YtgfiadljjlajaabBase
namespace Go.Proofs.Ytgfiadljjlajaab
open Go.RowKit
set_option maxRecDepth 100000

end Go.Proofs.Ytgfiadljjlajaab
