import Derived.Test.YtccgfabojbjmjaaGreatDoorLo21
import Derived.Test.YtccgfabojbjmjaaGreatDoorLo20
namespace Go.Proofs.YtccgfabojbjmjaaGreatDoor
open Go.RowKit
def ym (s : ByteArray) : Nat := qC (ksB s)
theorem qsq (s : ByteArray) : ym s < 115792089237316195423570985008687907853269984665640564039457584007913129639936 := by
 have h := qb9 (ksB s)
 rw [qi5] at h
 exact h
def yP (s : ByteArray) : Bool := ksO s && jg (ym s)
def kH (s : ByteArray) : Pt := if yP s = true then Qh (ym s) else p0
theorem qqk {x y : Nat} (hx : x < P) (hy : y < P) : (Yg x y).Ok := ⟨hx, hy, Yu, qK _ _⟩
theorem qud : p0.Ok := ⟨j3, j3, j3, j3⟩
theorem ql6 (n : Nat) : (Qh n).Ok := by
 unfold Qh; split
 · exact qqk (qgx _ _) (qhs _)
 · exact qud
theorem que : tdN = mP 2 dN := by decide +kernel
end Go.Proofs.YtccgfabojbjmjaaGreatDoor
