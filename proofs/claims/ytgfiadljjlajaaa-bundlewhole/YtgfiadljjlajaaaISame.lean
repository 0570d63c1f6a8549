/-
  SameInsns of two lists that read alike answers true.
-/
import Derived.Test.YtgfiadljjlajaaaIMem
namespace Go.Proofs.Ytgfiadljjlajaaa
open Go.RowKit
set_option maxRecDepth 100000

end Go.Proofs.Ytgfiadljjlajaaa
