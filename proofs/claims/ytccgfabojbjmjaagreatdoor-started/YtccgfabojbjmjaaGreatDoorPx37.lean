import Derived.Test.YtccgfabojbjmjaaGreatDoorPx28
import Derived.Deep.RegionHeld3
import Derived.Deep.DrawnRows
import Derived.BigRegion
namespace Go.Proofs.YtccgfabojbjmjaaGreatDoor
open Go.RowKit
section
attribute [local go_sem] U_and U_or U_xor U_not U_add U_add_one U_shr7 U_shr6
attribute [local go_sem ↓] Go.wp_at_zero Go.wp_at_succ
end
end Go.Proofs.YtccgfabojbjmjaaGreatDoor
