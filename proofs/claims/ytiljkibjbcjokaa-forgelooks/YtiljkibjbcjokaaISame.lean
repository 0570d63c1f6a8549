/-
  SameInsns of two lists that read alike answers true.
-/
import Derived.Test.YtiljkibjbcjokaaIMem
namespace Go.Proofs.Ytiljkibjbcjokaa
open Go.RowKit
set_option maxRecDepth 100000

end Go.Proofs.Ytiljkibjbcjokaa
