/-
  SameInsns of two lists that read alike answers true.
-/
import Derived.Test.YtgfiadljjlajaabIMem
namespace Go.Proofs.Ytgfiadljjlajaab
open Go.RowKit
set_option maxRecDepth 100000

end Go.Proofs.Ytgfiadljjlajaab
