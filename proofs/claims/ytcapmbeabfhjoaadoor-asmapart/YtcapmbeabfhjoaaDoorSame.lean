/-
  SameBytes of two lists that read alike answers true.
-/
import Derived.Test.YtcapmbeabfhjoaaDoorMem
namespace Go.Proofs.YtcapmbeabfhjoaaDoor
open Go.RowKit

end Go.Proofs.YtcapmbeabfhjoaaDoor
