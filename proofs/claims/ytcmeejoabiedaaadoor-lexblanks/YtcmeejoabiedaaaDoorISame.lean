/-
  SameInsns of two lists that read alike answers true.
-/
import Derived.Test.YtcmeejoabiedaaaDoorIMem
namespace Go.Proofs.YtcmeejoabiedaaaDoor
open Go.RowKit
set_option maxRecDepth 100000

end Go.Proofs.YtcmeejoabiedaaaDoor
