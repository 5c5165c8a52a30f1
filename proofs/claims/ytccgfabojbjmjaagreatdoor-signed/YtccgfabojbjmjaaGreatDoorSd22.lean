import Derived.Test.YtccgfabojbjmjaaGreatDoorSd16
import Derived.Deep.RegionHeld3
import Derived.Deep.CutRange
namespace Go.Proofs.YtccgfabojbjmjaaGreatDoor
open Go.RowKit
def fc (x i : Nat) : Int := (fd x).getD i 0
theorem fd_list (x : Nat) : fd x = [fc x 0, fc x 1, fc x 2, fc x 3, fc x 4, fc x 5, fc x 6, fc x 7, fc x 8, fc x 9] := by
 have h := fd_length x
 unfold fc
 generalize fd x = l at *
 match l, h with
 | [a0, a1, a2, a3, a4, a5, a6, a7, a8, a9], _ => rfl
theorem fA_list (x : Nat) : fA x = #[iv (fc x 0), iv (fc x 1), iv (fc x 2), iv (fc x 3), iv (fc x 4), iv (fc x 5), iv (fc x 6), iv (fc x 7), iv (fc x 8), iv (fc x 9)] := by
 unfold fA; rw [fd_list]; rfl
theorem fold10 (x : Nat) : Value.agg #[.int .i64 (fc x 0), .int .i64 (fc x 1), .int .i64 (fc x 2), .int .i64 (fc x 3), .int .i64 (fc x 4), .int .i64 (fc x 5), .int .i64 (fc x 6), .int .i64 (fc x 7), .int .i64 (fc x 8), .int .i64 (fc x 9)] = .agg (fA x) := by
 rw [fA_list]
theorem range_below {w w' : World} {b o B : Nat} {cs : List Value} (h : w.rangeAt b o cs) (hB : Below B w w') (hb : b < B) : w'.rangeAt b o cs :=
 fun j v hv => (hB.cell hb).trans (h j v hv)
theorem foldOne : Value.agg #[.int .i64 1, .int .i64 0, .int .i64 0, .int .i64 0, .int .i64 0, .int .i64 0, .int .i64 0, .int .i64 0, .int .i64 0, .int .i64 0] = .agg (fA 1) := by
 rw [fA_small 1 (by decide)]; rfl
def rxD (a : Nat) : Nat → Nat
 | 0 => mP (sqN 1 (onesN a 251)) 1
 | k + 1 => mP (rxD a k) m1D
section
attribute [local irreducible] fA fc m1D
attribute [local go_sem] foldOne fold10
end
section
attribute [local irreducible] fA fc
attribute [local go_sem] fold10
end
end Go.Proofs.YtccgfabojbjmjaaGreatDoor
