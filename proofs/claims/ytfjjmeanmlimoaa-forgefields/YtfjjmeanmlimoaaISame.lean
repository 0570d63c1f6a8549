/-
  SameInsns of two lists that read alike answers true.
-/
import Derived.Test.YtfjjmeanmlimoaaIMem
namespace Go.Proofs.Ytfjjmeanmlimoaa
open Go.RowKit
set_option maxRecDepth 100000

end Go.Proofs.Ytfjjmeanmlimoaa
