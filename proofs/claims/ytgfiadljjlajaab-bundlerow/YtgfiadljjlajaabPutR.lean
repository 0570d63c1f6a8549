/-
  The document's own Put.
-/
import Derived.Test.YtgfiadljjlajaabGetR
namespace Go.Proofs.Ytgfiadljjlajaab
open Go.RowKit
set_option maxRecDepth 100000

end Go.Proofs.Ytgfiadljjlajaab
