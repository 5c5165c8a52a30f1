import Derived.Test.YtccgfabojbjmjaaGreatDoorSg33
import Derived.LaidEql
namespace Go.Proofs.YtccgfabojbjmjaaGreatDoor
open Go.RowKit
end Go.Proofs.YtccgfabojbjmjaaGreatDoor
