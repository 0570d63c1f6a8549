/-
  SameInsns of two lists that read alike answers true.
-/
import Derived.Test.YtlfjpbedjmnpaaaIMem
namespace Go.Proofs.Ytlfjpbedjmnpaaa
open Go.RowKit
set_option maxRecDepth 100000

end Go.Proofs.Ytlfjpbedjmnpaaa
