/-
  The document's own Put.
-/
import Derived.Test.YtibaednekfjonaaGetR
namespace Go.Proofs.Ytibaednekfjonaa
open Go.RowKit
set_option maxRecDepth 100000

end Go.Proofs.Ytibaednekfjonaa
