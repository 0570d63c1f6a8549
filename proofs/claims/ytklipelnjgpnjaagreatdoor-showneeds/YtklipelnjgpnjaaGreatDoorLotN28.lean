import Derived.Test.YtklipelnjgpnjaaGreatDoorLotN23
import Derived.Deep.DeepCutAuto
import Derived.Deep.CutBlock
namespace Go.Proofs.YtklipelnjgpnjaaGreatDoor
open Go.RowKit
set_option maxRecDepth 100000

end Go.Proofs.YtklipelnjgpnjaaGreatDoor
