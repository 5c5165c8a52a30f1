import Derived.Test.YtccgfabojbjmjaaGreatDoorPx20
namespace Go.Proofs.YtccgfabojbjmjaaGreatDoor
open Go.RowKit
def pofA (d y : Nat) : Nat := mP (sP (mP y y) 1) (invD (aP (mP d (mP y y)) 1))
theorem pofA_lt (d y : Nat) : pofA d y < P := mP_lt _ _
end Go.Proofs.YtccgfabojbjmjaaGreatDoor
