/-
  SameInsns of two lists that read alike answers true.
-/
import Derived.Test.YtjjccbegljkkfaaIMem
namespace Go.Proofs.Ytjjccbegljkkfaa
open Go.RowKit
set_option maxRecDepth 100000

end Go.Proofs.Ytjjccbegljkkfaa
