import Derived.Test.YtccgfabojbjmjaaGreatDoorSg34
namespace Go.Proofs.YtccgfabojbjmjaaGreatDoor
open Go.RowKit
def esI (a : Addr) : Value := .iface 282 (.pointer (some a))
end Go.Proofs.YtccgfabojbjmjaaGreatDoor
