import Derived.Test.YtghbbephhoniaaaGreatDoorShO9
namespace Go.Proofs.YtghbbephhoniaaaGreatDoor
open Go.RowKit
set_option maxRecDepth 100000

end Go.Proofs.YtghbbephhoniaaaGreatDoor
