/-
  SameBytes of two lists that read alike answers true.
-/
import Derived.Test.YtnkdcehnamkoaaaMem
namespace Go.Proofs.Ytnkdcehnamkoaaa
open Go.RowKit
set_option maxRecDepth 100000

end Go.Proofs.Ytnkdcehnamkoaaa
