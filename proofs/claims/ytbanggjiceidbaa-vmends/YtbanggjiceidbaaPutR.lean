/-
  The document's own Put.
-/
import Derived.Test.YtbanggjiceidbaaGetR
namespace Go.Proofs.Ytbanggjiceidbaa
open Go.RowKit
set_option maxRecDepth 100000

end Go.Proofs.Ytbanggjiceidbaa
