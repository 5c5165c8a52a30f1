import Derived.Test.YtccgfabojbjmjaaGreatDoorPx14
import Derived.Deep.CutRange
namespace Go.Proofs.YtccgfabojbjmjaaGreatDoor
open Go.RowKit
end Go.Proofs.YtccgfabojbjmjaaGreatDoor
