/-
  SameInsns of two lists that read alike answers true.
-/
import Derived.Test.YtbklagdegnflgaaDoorIMem
namespace Go.Proofs.YtbklagdegnflgaaDoor
open Go.RowKit
set_option maxRecDepth 100000

end Go.Proofs.YtbklagdegnflgaaDoor
