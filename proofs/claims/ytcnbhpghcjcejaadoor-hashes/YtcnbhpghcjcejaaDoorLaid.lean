import Derived.Test.YtcnbhpghcjcejaaDoorCards
import Derived.Test.YtcnbhpghcjcejaaDoorTie
import Derived.Test.YtcnbhpghcjcejaaDoorRounds
import Derived.ProofKit
import Derived.OpenShut
import Derived.ShutString
import Derived.ChangeOld
import Derived.Deep.DeepHandedRow
import Derived.Lib.LaidTab
import Derived.SizedLaws
/- The table of the rounds: what the row's list gives; a world for a witness. -/
namespace Go.Proofs.YtcnbhpghcjcejaaDoor
open Go.ChangeShapes Go.WideShapes Go.ChangeAt Go.RowKit

theorem own : ownKnob Tryd.prog.godebug = none := by kernel_rfl
theorem laidOut : laidOutB Tryd.prog = true := by kernel_rfl
theorem gTab : Tryd.prog.globalNamed "latch/digest.roundWords" = some 0 := by kernel_rfl
theorem gTabType : (Tryd.prog.globals[0]?).map (·.type) = some 59 := by kernel_rfl
theorem cells80 : Tryd.prog.cellsOf 59 = 80 := by kernel_rfl
theorem cells64 : Tryd.prog.cellsOf 40 = 1 := by kernel_rfl
theorem underU64 : Tryd.prog.underlying 40 = some (.int .u64) := by kernel_rfl
def kints : List Int := kws.map U
theorem laid_tab : (Rows.laid_latch_digest_roundWords : DataW Unit) = Lib.tabData .u64 kints := by kernel_rfl
theorem kints_get (i : Nat) (h : i < 80) : kints.getD i 0 = U (kw i) := by
  have hl : i < kws.length := h
  simp [kints, kw, List.getD, List.getElem?_eq_getElem hl]

/-- WHAT THE ROW's LIST GIVES. -/
theorem table {W : World} (h : laidMetH Tryd.prog [("latch/digest.roundWords", Rows.laid_latch_digest_roundWords)] W) : Tab W := by
  have t : Lib.TabIs Tryd.prog W "latch/digest.roundWords" .u64 kints := by
    refine Lib.tabIs_of_head (rest := []) gTab gTabType under80 underU64 cells64 cells80 ?_
    rw [← laid_tab]; exact h
  intro i hi
  have e := t.cell gTab i (by show i < kints.length; exact hi)
  rw [kints_get i hi] at e
  exact e

/-- A WORLD FOR THE WITNESS: the settled one, the table (block 0) holding what its initialiser lays. -/
noncomputable def laidWorld (os : Os) : World :=
  { World.holding Tryd.prog os ⟨#[], #[], []⟩ with heap := (World.holding Tryd.prog os ⟨#[], #[], []⟩).heap.modify 0 fun
      | .cells _ t frozen => .cells (kws.map uv).toArray t frozen
      | o => o }
end Go.Proofs.YtcnbhpghcjcejaaDoor
