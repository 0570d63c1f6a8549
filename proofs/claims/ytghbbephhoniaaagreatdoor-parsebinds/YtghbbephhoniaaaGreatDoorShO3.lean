import Derived.Test.YtghbbephhoniaaaGreatDoorLotP23
import Derived.Deep.DeepCutAuto
namespace Go.Proofs.YtghbbephhoniaaaGreatDoor
open Go.RowKit
set_option maxRecDepth 100000

end Go.Proofs.YtghbbephhoniaaaGreatDoor
