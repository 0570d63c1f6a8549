/-
  SameBytes of two lists that read alike answers true.
-/
import Derived.Test.YtaldhnionkacmabMem
namespace Go.Proofs.Ytaldhnionkacmab
open Go.RowKit
set_option maxRecDepth 100000

end Go.Proofs.Ytaldhnionkacmab
