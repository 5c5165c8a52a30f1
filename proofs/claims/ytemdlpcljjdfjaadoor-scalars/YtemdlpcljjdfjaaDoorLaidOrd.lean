import Derived.Test.YtemdlpcljjdfjaaDoorCards
import Derived.Test.YtemdlpcljjdfjaaDoorTie
import Derived.Test.YtemdlpcljjdfjaaDoorWide
import Derived.ProofKit
import Derived.OpenShut
import Derived.ShutString
import Derived.ChangeOld
import Derived.Deep.DeepHandedRow
import Derived.Lib.LaidTab
import Derived.SizedLaws
/- The variable 'order': what the row's list gives; a world for a witness. -/
namespace Go.Proofs.YtemdlpcljjdfjaaDoor
open Go.ChangeShapes Go.WideShapes Go.ChangeAt Go.RowKit

theorem own : ownKnob Tryd.prog.godebug = none := by kernel_rfl
theorem laidOut : laidOutB Tryd.prog = true := by kernel_rfl
theorem gOrd : Tryd.prog.globalNamed "latch/scalar.order" = some 3 := by kernel_rfl
theorem gOrdType : (Tryd.prog.globals[3]?).map (·.type) = some 41 := by kernel_rfl
theorem cells4 : Tryd.prog.cellsOf 41 = 4 := by kernel_rfl
theorem cells64 : Tryd.prog.cellsOf 40 = 1 := by kernel_rfl
theorem underU64 : Tryd.prog.underlying 40 = some (.int .u64) := by kernel_rfl
def ordints : List Int := [6346243789798364141, 1503914060200516822, 0, 1152921504606846976]
theorem laid_ord : (Rows.laid_latch_scalar_order : DataW Unit) = Lib.tabData .u64 ordints := by kernel_rfl
theorem ord_of_tab {W : World} (t : Lib.TabIs Tryd.prog W "latch/scalar.order" .u64 ordints) : OrdAt W := by
  unfold Lib.TabIs World.var? at t
  rw [gOrd] at t
  simp only [Option.bind_some] at t
  split at t
  · rename_i cs ty fr h
    refine ⟨ty, fr, h.trans ?_⟩
    rw [Option.some.inj t]
    rfl
  · cases t
/-- WHAT THE ROW's LIST GIVES. -/
theorem order_met {W : World} (h : laidMetH Tryd.prog [("latch/scalar.order", Rows.laid_latch_scalar_order)] W) : OrdAt W := by
  refine ord_of_tab (Lib.tabIs_of_head (rest := []) gOrd gOrdType under4 underU64 cells64 cells4 ?_)
  rw [← laid_ord]; exact h
/-- A WORLD FOR THE WITNESS: the settled one, the variable holding what its initialiser lays. -/
noncomputable def laidWorld (os : Os) : World :=
  { World.holding Tryd.prog os ⟨#[], #[], []⟩ with heap := (World.holding Tryd.prog os ⟨#[], #[], []⟩).heap.modify 3 fun
      | .cells _ t frozen => .cells #[nv 6346243789798364141, nv 1503914060200516822, nv 0, nv 1152921504606846976] t frozen
      | o => o }
end Go.Proofs.YtemdlpcljjdfjaaDoor
