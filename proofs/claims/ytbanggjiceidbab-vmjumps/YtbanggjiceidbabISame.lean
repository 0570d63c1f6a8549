/-
  SameInsns of two lists that read alike answers true.
-/
import Derived.Test.YtbanggjiceidbabIMem
namespace Go.Proofs.Ytbanggjiceidbab
open Go.RowKit
set_option maxRecDepth 100000

end Go.Proofs.Ytbanggjiceidbab
