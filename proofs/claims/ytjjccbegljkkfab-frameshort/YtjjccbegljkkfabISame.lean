/-
  SameInsns of two lists that read alike answers true.
-/
import Derived.Test.YtjjccbegljkkfabIMem
namespace Go.Proofs.Ytjjccbegljkkfab
open Go.RowKit
set_option maxRecDepth 100000

end Go.Proofs.Ytjjccbegljkkfab
