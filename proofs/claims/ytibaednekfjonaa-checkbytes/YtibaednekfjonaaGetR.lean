/-
  The document's own Get.
-/
import Derived.Test.YtibaednekfjonaaBase
namespace Go.Proofs.Ytibaednekfjonaa
open Go.RowKit
set_option maxRecDepth 100000

end Go.Proofs.Ytibaednekfjonaa
