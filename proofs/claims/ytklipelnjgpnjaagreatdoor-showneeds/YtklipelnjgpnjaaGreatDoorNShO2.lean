import Derived.Test.YtklipelnjgpnjaaGreatDoorLotN25
import Derived.Deep.DeepCutAuto
namespace Go.Proofs.YtklipelnjgpnjaaGreatDoor
open Go.RowKit
set_option maxRecDepth 100000

end Go.Proofs.YtklipelnjgpnjaaGreatDoor
