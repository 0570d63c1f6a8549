/-
  SameInsns of two lists that read alike answers true.
-/
import Derived.Test.YtaldhnionkacmabIMem
namespace Go.Proofs.Ytaldhnionkacmab
open Go.RowKit
set_option maxRecDepth 100000

end Go.Proofs.Ytaldhnionkacmab
