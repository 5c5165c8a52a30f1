import Derived.Test.YtccgfabojbjmjaaGreatDoorCards
import Derived.Test.YtccgfabojbjmjaaGreatDoorTie
import Derived.ProofKit
import Derived.OpenShut
import Derived.ShutString
import Derived.ChangeOld
import Derived.Deep.DeepHandedRow
import Derived.Lib.LaidTab
import Derived.SizedLaws
import Derived.Test.YtccgfabojbjmjaaGreatDoorSd07
namespace Go.Proofs.YtccgfabojbjmjaaGreatDoor
open Go.ChangeShapes Go.WideShapes Go.ChangeAt Go.RowKit
theorem own : ownKnob Tryz.prog.godebug = none := by kernel_rfl
theorem gOrd : Tryz.prog.globalNamed "latch/scalar.order" = some 6 := by kernel_rfl
theorem gOrdType : (Tryz.prog.globals[6]?).map (·.type) = some 60 := by kernel_rfl
theorem cells4 : Tryz.prog.cellsOf 60 = 4 := by kernel_rfl
theorem cells64 : Tryz.prog.cellsOf 59 = 1 := by kernel_rfl
theorem underU64 : Tryz.prog.underlying 59 = some (.int .u64) := by kernel_rfl
def ordints : List Int := [6346243789798364141, 1503914060200516822, 0, 1152921504606846976]
theorem laid_ord : (Rows.laid_latch_scalar_order : DataW Unit) = Lib.tabData .u64 ordints := by kernel_rfl
theorem ord_of_tab {W : World} (t : Lib.TabIs Tryz.prog W "latch/scalar.order" .u64 ordints) : OrdAt W := by
 unfold Lib.TabIs World.var? at t
 rw [gOrd] at t
 simp only [Option.bind_some] at t
 split at t
 ·
  rename_i cs ty fr h
  refine ⟨ty, fr, h.trans ?_⟩
  rw [Option.some.inj t]
  rfl
 · cases t
theorem order_met {W : World} (h : laidMetH Tryz.prog [("latch/scalar.order", Rows.laid_latch_scalar_order)] W) : OrdAt W := by
 refine ord_of_tab (Lib.tabIs_of_head (rest := []) gOrd gOrdType under4 underU64 cells64 cells4 ?_)
 rw [← laid_ord]; exact h
theorem dB_vB (B : Int) (hB : 0 < B) (l : List Int) (h : ∀ x ∈ l, 0 ≤ x ∧ x < B) : dB B l.length (vB B l) = l := by
 induction l with
 | nil => rfl
 | cons a l ih =>
  obtain ⟨a0, a1⟩ := h a List.mem_cons_self
  simp only [List.length_cons, dB, vB]
  rw [Int.add_mul_emod_self_left, Int.emod_eq_of_lt a0 a1, Int.add_mul_ediv_left _ _ (by omega), Int.ediv_eq_zero_of_lt a0 a1, Int.zero_add, ih (fun x hx => h x (List.mem_cons_of_mem _ hx))]
def fd (n : Nat) : List Int := dB 67108864 10 n
theorem fd_length (n : Nat) : (fd n).length = 10 := dB_length _ _ _
end Go.Proofs.YtccgfabojbjmjaaGreatDoor
