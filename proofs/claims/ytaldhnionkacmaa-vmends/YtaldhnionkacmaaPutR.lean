/-
  The document's own Put.
-/
import Derived.Test.YtaldhnionkacmaaGetR
namespace Go.Proofs.Ytaldhnionkacmaa
open Go.RowKit
set_option maxRecDepth 100000

end Go.Proofs.Ytaldhnionkacmaa
