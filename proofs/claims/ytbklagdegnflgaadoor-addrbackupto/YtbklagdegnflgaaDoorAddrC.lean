/-
  Package addr: its contracts.
-/
import Derived.Test.YtbklagdegnflgaaDoorAddrY
import Derived.Test.YtbklagdegnflgaaDoorAddrU
import Derived.Test.YtbklagdegnflgaaDoorAddrK
import Derived.Test.YtbklagdegnflgaaDoorAddrB
import Derived.Test.YtbklagdegnflgaaDoorAddrD
import Derived.Test.YtbklagdegnflgaaDoorAddrM
namespace Go.Proofs.YtbklagdegnflgaaDoor
set_option maxRecDepth 100000

end Go.Proofs.YtbklagdegnflgaaDoor
