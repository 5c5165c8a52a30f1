/-
  DERIVED. GIVEN WITH THE SEED: THE PROGRAM's TIES (one call each: nine closed facts by the kernel) AND EACH ROW's TIE, after the 31st guide's Derived/Test/Toyas{Tie, Card}.lean. No idea stands in it: it is a product of the set-up. Laid BY PROGRAM, IN A SANDBOX (cutbox-door.mjs). By AI agents, Wed Nov 11 2026. No macro, syntax, notation, axiom, sorry.
-/
import Derived.Test.YtemdlpcljjdfjaaDoorRows
import Derived.LaidByTextLater
import Derived.SevenTiedAt
import Derived.LaidSub
import Derived.LaidOnce
namespace Go.Proofs.YtemdlpcljjdfjaaDoor
open Go
set_option maxRecDepth 100000
theorem seatTie1 : Tryd.prog.laidByTextLater [("latch/field.modulus", Rows.laid_latch_field_modulus), ("latch/field.rootOfMinusOne", Rows.laid_latch_field_rootOfMinusOne), ("latch/scalar.order", Rows.laid_latch_scalar_order), ("latch/curve.baseCode", Rows.laid_latch_curve_baseCode), ("latch/curve.one", Rows.laid_latch_curve_one), ("latch/curve.d", Rows.laid_latch_curve_d), ("latch/curve.twoD", Rows.laid_latch_curve_twoD)] [.data, .data, .data, .data, .data, .data, .data] true :=
  Program.laidByTextLater_by_one 44 8 33 (by kernel_rfl) (by kernel_rfl) (by kernel_rfl) (by kernel_rfl) (by kernel_rfl) (by kernel_rfl) (fun _ _ => by kernel_rfl)
theorem noOwnUnsafe : Tryd.pinned.checked.prog.headLifts.contains "ownunsafe" = false := by kernel_rfl
theorem tie : Tryd.prog.laidByTextLater [("latch/scalar.order", Rows.laid_latch_scalar_order)] [.data] true :=
  Program.laidByTextLater.sub seatTie1 ["latch/scalar.order"] (by kernel_rfl) (by kernel_rfl)
theorem reduces_row_tie : Rows.reducesRow.laidByTextAt .later Tryd.pinned [.data] true :=
  OpenClaim.laidByTextAt_later rfl rfl tie noOwnUnsafe
theorem tie2 : Tryd.prog.laidByTextLater [("latch/field.modulus", Rows.laid_latch_field_modulus), ("latch/field.rootOfMinusOne", Rows.laid_latch_field_rootOfMinusOne), ("latch/curve.one", Rows.laid_latch_curve_one), ("latch/curve.d", Rows.laid_latch_curve_d), ("latch/curve.twoD", Rows.laid_latch_curve_twoD)] [.data, .data, .data, .data, .data] true :=
  Program.laidByTextLater.sub seatTie1 ["latch/field.modulus", "latch/field.rootOfMinusOne", "latch/curve.one", "latch/curve.d", "latch/curve.twoD"] (by kernel_rfl) (by kernel_rfl)
theorem adds_row_tie : Rows.addsRow.laidByTextAt .later Tryd.pinned [.data, .data, .data, .data, .data] true :=
  OpenClaim.laidByTextAt_later rfl rfl tie2 noOwnUnsafe
theorem tie3 : Tryd.prog.laidByTextLater [("latch/field.modulus", Rows.laid_latch_field_modulus), ("latch/field.rootOfMinusOne", Rows.laid_latch_field_rootOfMinusOne), ("latch/curve.baseCode", Rows.laid_latch_curve_baseCode), ("latch/curve.one", Rows.laid_latch_curve_one), ("latch/curve.d", Rows.laid_latch_curve_d), ("latch/curve.twoD", Rows.laid_latch_curve_twoD)] [.data, .data, .data, .data, .data, .data] true :=
  Program.laidByTextLater.sub seatTie1 ["latch/field.modulus", "latch/field.rootOfMinusOne", "latch/curve.baseCode", "latch/curve.one", "latch/curve.d", "latch/curve.twoD"] (by kernel_rfl) (by kernel_rfl)
theorem multiplies_row_tie : Rows.multipliesRow.laidByTextAt .later Tryd.pinned [.data, .data, .data, .data, .data, .data] true :=
  OpenClaim.laidByTextAt_later rfl rfl tie3 noOwnUnsafe
theorem group_row_tie : Rows.groupRow.laidByTextAt .later Tryd.pinned [.data, .data, .data, .data, .data, .data] true :=
  OpenClaim.laidByTextAt_later rfl rfl tie3 noOwnUnsafe
theorem tie4 : Tryd.prog.laidByTextLater [("latch/field.modulus", Rows.laid_latch_field_modulus), ("latch/field.rootOfMinusOne", Rows.laid_latch_field_rootOfMinusOne), ("latch/scalar.order", Rows.laid_latch_scalar_order), ("latch/curve.baseCode", Rows.laid_latch_curve_baseCode), ("latch/curve.one", Rows.laid_latch_curve_one), ("latch/curve.d", Rows.laid_latch_curve_d), ("latch/curve.twoD", Rows.laid_latch_curve_twoD)] [.data, .data, .data, .data, .data, .data, .data] true :=
  Program.laidByTextLater.sub seatTie1 ["latch/field.modulus", "latch/field.rootOfMinusOne", "latch/scalar.order", "latch/curve.baseCode", "latch/curve.one", "latch/curve.d", "latch/curve.twoD"] (by kernel_rfl) (by kernel_rfl)
theorem scalars_row_tie : Rows.scalarsRow.laidByTextAt .later Tryd.pinned [.data, .data, .data, .data, .data, .data, .data] true :=
  OpenClaim.laidByTextAt_later rfl rfl tie4 noOwnUnsafe
theorem reducesUpto_row_tie : Rows.reducesUptoRow.laidByTextAt .later Tryd.pinned [.data] true :=
  OpenClaim.laidByTextAt_later rfl rfl tie noOwnUnsafe
theorem addsUpto_row_tie : Rows.addsUptoRow.laidByTextAt .later Tryd.pinned [.data, .data, .data, .data, .data] true :=
  OpenClaim.laidByTextAt_later rfl rfl tie2 noOwnUnsafe
theorem multipliesUpto_row_tie : Rows.multipliesUptoRow.laidByTextAt .later Tryd.pinned [.data, .data, .data, .data, .data, .data] true :=
  OpenClaim.laidByTextAt_later rfl rfl tie3 noOwnUnsafe
theorem groupUpto_row_tie : Rows.groupUptoRow.laidByTextAt .later Tryd.pinned [.data, .data, .data, .data, .data, .data] true :=
  OpenClaim.laidByTextAt_later rfl rfl tie3 noOwnUnsafe
theorem scalarsUpto_row_tie : Rows.scalarsUptoRow.laidByTextAt .later Tryd.pinned [.data, .data, .data, .data, .data, .data, .data] true :=
  OpenClaim.laidByTextAt_later rfl rfl tie4 noOwnUnsafe
end Go.Proofs.YtemdlpcljjdfjaaDoor
