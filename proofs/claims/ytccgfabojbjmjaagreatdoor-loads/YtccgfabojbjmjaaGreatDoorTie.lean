/-
  DERIVED. GIVEN WITH THE SEED: THE PROGRAM's TIES (one call each: nine closed facts by the kernel) AND EACH ROW's TIE, after the 31st guide's Derived/Test/Toyas{Tie, Card}.lean. No idea stands in it: it is a product of the set-up. Laid BY PROGRAM, IN A SANDBOX (cutbox-door.mjs). By AI agents, Wed Nov 11 2026. No macro, syntax, notation, axiom, sorry.
-/
import Derived.Test.YtccgfabojbjmjaaGreatDoorRows
import Derived.LaidByTextLater
import Derived.SevenTiedAt
import Derived.LaidSub
import Derived.LaidOnce
namespace Go.Proofs.YtccgfabojbjmjaaGreatDoor
open Go
set_option maxRecDepth 100000
theorem seatTie1 : Tryz.prog.laidByTextLater [("latch/digest.roundWords", Rows.laid_latch_digest_roundWords), ("latch/field.modulus", Rows.laid_latch_field_modulus), ("latch/field.rootOfMinusOne", Rows.laid_latch_field_rootOfMinusOne), ("latch/scalar.order", Rows.laid_latch_scalar_order), ("errors.errorType", Rows.laid_errors_errorType), ("latch/fault.ErrPoint", Rows.laid_latch_fault_ErrPoint), ("latch/fault.ErrScalar", Rows.laid_latch_fault_ErrScalar), ("latch/fault.ErrSign", Rows.laid_latch_fault_ErrSign), ("latch/fault.ErrKeys", Rows.laid_latch_fault_ErrKeys), ("latch/curve.baseCode", Rows.laid_latch_curve_baseCode), ("latch/curve.one", Rows.laid_latch_curve_one), ("latch/curve.d", Rows.laid_latch_curve_d), ("latch/curve.twoD", Rows.laid_latch_curve_twoD)] [.data, .data, .data, .data, .handle, .sentinel, .sentinel, .sentinel, .sentinel, .data, .data, .data, .data] true :=
  Program.laidByTextLater_by_one 132 8 81 (by kernel_rfl) (by kernel_rfl) (by kernel_rfl) (by kernel_rfl) (by kernel_rfl) (by kernel_rfl) (fun _ _ => by kernel_rfl)
theorem noOwnUnsafe : Tryz.pinned.checked.prog.headLifts.contains "ownunsafe" = false := by kernel_rfl
theorem tie : Tryz.prog.laidByTextLater [("latch/digest.roundWords", Rows.laid_latch_digest_roundWords), ("latch/field.modulus", Rows.laid_latch_field_modulus), ("latch/field.rootOfMinusOne", Rows.laid_latch_field_rootOfMinusOne), ("latch/scalar.order", Rows.laid_latch_scalar_order), ("errors.errorType", Rows.laid_errors_errorType), ("latch/fault.ErrPoint", Rows.laid_latch_fault_ErrPoint), ("latch/fault.ErrScalar", Rows.laid_latch_fault_ErrScalar), ("latch/fault.ErrKeys", Rows.laid_latch_fault_ErrKeys), ("latch/curve.baseCode", Rows.laid_latch_curve_baseCode), ("latch/curve.one", Rows.laid_latch_curve_one), ("latch/curve.d", Rows.laid_latch_curve_d), ("latch/curve.twoD", Rows.laid_latch_curve_twoD)] [.data, .data, .data, .data, .handle, .sentinel, .sentinel, .sentinel, .data, .data, .data, .data] true :=
  Program.laidByTextLater.sub seatTie1 ["latch/digest.roundWords", "latch/field.modulus", "latch/field.rootOfMinusOne", "latch/scalar.order", "errors.errorType", "latch/fault.ErrPoint", "latch/fault.ErrScalar", "latch/fault.ErrKeys", "latch/curve.baseCode", "latch/curve.one", "latch/curve.d", "latch/curve.twoD"] (by kernel_rfl) (by kernel_rfl)
theorem signs_row_tie : Rows.signsRow.laidByTextAt .later Tryz.pinned [.data, .data, .data, .data, .handle, .sentinel, .sentinel, .sentinel, .data, .data, .data, .data] true :=
  OpenClaim.laidByTextAt_later rfl rfl tie noOwnUnsafe
theorem tie2 : Tryz.prog.laidByTextLater [("latch/digest.roundWords", Rows.laid_latch_digest_roundWords), ("latch/field.modulus", Rows.laid_latch_field_modulus), ("latch/field.rootOfMinusOne", Rows.laid_latch_field_rootOfMinusOne), ("latch/scalar.order", Rows.laid_latch_scalar_order), ("errors.errorType", Rows.laid_errors_errorType), ("latch/fault.ErrPoint", Rows.laid_latch_fault_ErrPoint), ("latch/fault.ErrScalar", Rows.laid_latch_fault_ErrScalar), ("latch/fault.ErrSign", Rows.laid_latch_fault_ErrSign), ("latch/fault.ErrKeys", Rows.laid_latch_fault_ErrKeys), ("latch/curve.baseCode", Rows.laid_latch_curve_baseCode), ("latch/curve.one", Rows.laid_latch_curve_one), ("latch/curve.d", Rows.laid_latch_curve_d), ("latch/curve.twoD", Rows.laid_latch_curve_twoD)] [.data, .data, .data, .data, .handle, .sentinel, .sentinel, .sentinel, .sentinel, .data, .data, .data, .data] true :=
  Program.laidByTextLater.sub seatTie1 ["latch/digest.roundWords", "latch/field.modulus", "latch/field.rootOfMinusOne", "latch/scalar.order", "errors.errorType", "latch/fault.ErrPoint", "latch/fault.ErrScalar", "latch/fault.ErrSign", "latch/fault.ErrKeys", "latch/curve.baseCode", "latch/curve.one", "latch/curve.d", "latch/curve.twoD"] (by kernel_rfl) (by kernel_rfl)
theorem verifies_row_tie : Rows.verifiesRow.laidByTextAt .later Tryz.pinned [.data, .data, .data, .data, .handle, .sentinel, .sentinel, .sentinel, .sentinel, .data, .data, .data, .data] true :=
  OpenClaim.laidByTextAt_later rfl rfl tie2 noOwnUnsafe
theorem signed_row_tie : Rows.signedRow.laidByTextAt .later Tryz.pinned [.data, .data, .data, .data, .handle, .sentinel, .sentinel, .sentinel, .sentinel, .data, .data, .data, .data] true :=
  OpenClaim.laidByTextAt_later rfl rfl tie2 noOwnUnsafe
theorem loads_row_tie : Rows.loadsRow.laidByTextAt .later Tryz.pinned [.data, .data, .data, .data, .handle, .sentinel, .sentinel, .sentinel, .sentinel, .data, .data, .data, .data] true :=
  OpenClaim.laidByTextAt_later rfl rfl tie2 noOwnUnsafe
theorem started_row_tie : Rows.startedRow.laidByTextAt .later Tryz.pinned [.data, .data, .data, .data, .handle, .sentinel, .sentinel, .sentinel, .sentinel, .data, .data, .data, .data] true :=
  OpenClaim.laidByTextAt_later rfl rfl tie2 noOwnUnsafe
theorem signsUpto_row_tie : Rows.signsUptoRow.laidByTextAt .later Tryz.pinned [.data, .data, .data, .data, .handle, .sentinel, .sentinel, .sentinel, .data, .data, .data, .data] true :=
  OpenClaim.laidByTextAt_later rfl rfl tie noOwnUnsafe
theorem verifiesUpto_row_tie : Rows.verifiesUptoRow.laidByTextAt .later Tryz.pinned [.data, .data, .data, .data, .handle, .sentinel, .sentinel, .sentinel, .sentinel, .data, .data, .data, .data] true :=
  OpenClaim.laidByTextAt_later rfl rfl tie2 noOwnUnsafe
theorem signedUpto_row_tie : Rows.signedUptoRow.laidByTextAt .later Tryz.pinned [.data, .data, .data, .data, .handle, .sentinel, .sentinel, .sentinel, .sentinel, .data, .data, .data, .data] true :=
  OpenClaim.laidByTextAt_later rfl rfl tie2 noOwnUnsafe
theorem loadsUpto_row_tie : Rows.loadsUptoRow.laidByTextAt .later Tryz.pinned [.data, .data, .data, .data, .handle, .sentinel, .sentinel, .sentinel, .sentinel, .data, .data, .data, .data] true :=
  OpenClaim.laidByTextAt_later rfl rfl tie2 noOwnUnsafe
theorem startedUpto_row_tie : Rows.startedUptoRow.laidByTextAt .later Tryz.pinned [.data, .data, .data, .data, .handle, .sentinel, .sentinel, .sentinel, .sentinel, .data, .data, .data, .data] true :=
  OpenClaim.laidByTextAt_later rfl rfl tie2 noOwnUnsafe
end Go.Proofs.YtccgfabojbjmjaaGreatDoor
