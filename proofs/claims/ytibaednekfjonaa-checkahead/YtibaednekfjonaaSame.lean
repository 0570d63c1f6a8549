/-
  SameBytes of two lists that read alike answers true.
-/
import Derived.Test.YtibaednekfjonaaMem
namespace Go.Proofs.Ytibaednekfjonaa
open Go.RowKit
set_option maxRecDepth 100000

end Go.Proofs.Ytibaednekfjonaa
