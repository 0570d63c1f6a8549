import Derived.Test.YtklipelnjgpnjaaGreatDoorLotF17
namespace Go.Proofs.YtklipelnjgpnjaaGreatDoor
open Go.RowKit
set_option maxRecDepth 100000

end Go.Proofs.YtklipelnjgpnjaaGreatDoor
