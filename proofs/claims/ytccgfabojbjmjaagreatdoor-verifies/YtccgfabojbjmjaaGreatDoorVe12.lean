import Derived.Test.YtccgfabojbjmjaaGreatDoorVe03
import Derived.BigRegion
namespace Go.Proofs.YtccgfabojbjmjaaGreatDoor
open Go.RowKit
abbrev LI : Int := 7237005577332262213973186563042994240857116359379907606001950938285454250989
def Lrow : List Int := dB 65536 17 LI
theorem Lrow_length : Lrow.length = 17 := dB_length _ _ _
theorem ivS_size {d : List Int} (h : d.length = 17) : (Tryz.prog.info? 91).map (·.size) = some (d.map iv).toArray.size := by rw [sizeS]; simp [h]
theorem ivS_old {d : List Int} (h : d.length = 17) : zS.size = (d.map iv).toArray.size := by simp [h, zS]
theorem ivS_olds {d e : List Int} (h : d.length = 17) (k : e.length = 17) : (d.map iv).toArray.size = (e.map iv).toArray.size := by simp [h, k]
theorem ivS_all (d : List Int) : (d.map iv).toArray.all (·.oneCell') = true := all_oneCell_toArray (ivs_cell _)
theorem Lrow_row : (Lrow.map iv).toArray = #[iv 54253, iv 23797, iv 25370, iv 22546, iv 40150, iv 41719, iv 63966, iv 5342, iv 0, iv 0, iv 0, iv 0, iv 0, iv 0, iv 0, iv 4096, iv 0] := by kernel_rfl
section
set_option maxRecDepth 100000 in
set_option maxHeartbeats 400000 in
theorem order_any (w : World) :
  Calls Tryz.prog 77 #[] w fun e w' => e = .returned (.agg (Lrow.map iv).toArray) ∧ Below w.heap.size w w' := by
 go_enter Tryz.func77, Tryz.ntmps77
 go_wp2_with fail
 go_returns
 refine ⟨?_, by go_grown⟩
 rw [Lrow_row]
end
end Go.Proofs.YtccgfabojbjmjaaGreatDoor
