/-
  Lists written down in a row, and joined.
-/
import Derived.Test.YtnkdcehnamkoaaaJoin
import Derived.Test.YtnkdcehnamkoaaaICopy
namespace Go.Proofs.Ytnkdcehnamkoaaa
open Go.RowKit
set_option maxRecDepth 100000

end Go.Proofs.Ytnkdcehnamkoaaa
