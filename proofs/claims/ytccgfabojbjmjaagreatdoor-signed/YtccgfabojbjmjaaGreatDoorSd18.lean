import Derived.Test.YtccgfabojbjmjaaGreatDoorSd13
import Derived.Deep.CutRange
namespace Go.Proofs.YtccgfabojbjmjaaGreatDoor
open Go.RowKit
end Go.Proofs.YtccgfabojbjmjaaGreatDoor
