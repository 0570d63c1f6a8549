import Derived.Test.YtghbbephhoniaaaGreatDoorLotP20
import Derived.Deep.DeepCutAuto
import Derived.Deep.CutBlock
namespace Go.Proofs.YtghbbephhoniaaaGreatDoor
open Go.RowKit
set_option maxRecDepth 100000

end Go.Proofs.YtghbbephhoniaaaGreatDoor
