import Derived.Test.YtccgfabojbjmjaaGreatDoorVe21
import Derived.Test.YtccgfabojbjmjaaGreatDoorVe20
import Derived.Test.YtccgfabojbjmjaaGreatDoorVe25
namespace Go.Proofs.YtccgfabojbjmjaaGreatDoor
open Go.RowKit
def ksN (s : ByteArray) : Nat := valLE (ksB s)
theorem ksN_lt (s : ByteArray) : ksN s < 115792089237316195423570985008687907853269984665640564039457584007913129639936 := by
 have h := valLE_lt (ksB s)
 rw [ksB_length] at h
 exact h
def poB (s : ByteArray) : Bool := ksO s && dcB (ksN s)
def poP (s : ByteArray) : Pt := if poB s = true then dcP (ksN s) else p0
theorem ptOf_ok {x y : Nat} (hx : x < P) (hy : y < P) : (ptOf x y).Ok := ⟨hx, hy, one_lt, mP_lt _ _⟩
theorem p0_ok : p0.Ok := ⟨P_pos, P_pos, P_pos, P_pos⟩
theorem dcP_ok (n : Nat) : (dcP n).Ok := by
 unfold dcP; split
 · exact ptOf_ok (xofV_lt _ _) (ofbV_lt _)
 · exact p0_ok
theorem td_mP : tdN = mP 2 dN := by decide +kernel
end Go.Proofs.YtccgfabojbjmjaaGreatDoor
