/-
  DERIVED. GIVEN WITH THE SEED: THE CARDS: each row of YtemdlpcljjdfjaaDoorRows.lean that lists a variable, with what it lists TIED to the program's text (the seventh form; the later family's looks); each row that meets fmt, with fmt's text TOLD by the authors' own Lean function (tested against real Go, not proved from fmt's source: count such statements apart). THE CARD IS WHAT COUNTS. Prove the row's statement (the work); the ties are given (YtemdlpcljjdfjaaDoorTie.lean); close each card by the builder's one call (the guide's Derived/Test/ToyasCard.lean, 'card_holds'). Laid BY PROGRAM, IN A SANDBOX (cutbox-door.mjs). By AI agents, Wed Nov 11 2026. No macro, syntax, notation, axiom, sorry.
-/
import Derived.Test.YtemdlpcljjdfjaaDoorRows
import GoSem.ClaimSeven
namespace Go.Proofs.YtemdlpcljjdfjaaDoor
namespace Rows

/-- THE TIED CARD OF 'latchlaw.Reduces'. -/
def reducesCard : Claim7 := { stood := { row := reducesRow, standIns := [], harness := (true, "acf50d4e0e5d298658771502c918bcc8403299241f16cb4304b7ac6fcd98b10c"), looks := false }, kinds := [], alts := [], laidByText := true, laidKinds := [.data], laidTests := true, laidLooks := .later }
def ReducesCardSaid : Prop := Claim7.holds Tryd.pinned (.plain (OpenSpec.ofChange reducesSpec)) reducesCard

/-- THE TIED CARD OF 'latchlaw.Adds'. -/
def addsCard : Claim7 := { stood := { row := addsRow, standIns := [], harness := (true, "acf50d4e0e5d298658771502c918bcc8403299241f16cb4304b7ac6fcd98b10c"), looks := false }, kinds := [], alts := [], laidByText := true, laidKinds := [.data, .data, .data, .data, .data], laidTests := true, laidLooks := .later }
def AddsCardSaid : Prop := Claim7.holds Tryd.pinned (.plain (OpenSpec.ofChange addsSpec)) addsCard

/-- THE TIED CARD OF 'latchlaw.Multiplies'. -/
def multipliesCard : Claim7 := { stood := { row := multipliesRow, standIns := [], harness := (true, "acf50d4e0e5d298658771502c918bcc8403299241f16cb4304b7ac6fcd98b10c"), looks := false }, kinds := [], alts := [], laidByText := true, laidKinds := [.data, .data, .data, .data, .data, .data], laidTests := true, laidLooks := .later }
def MultipliesCardSaid : Prop := Claim7.holds Tryd.pinned (.plain (OpenSpec.ofChange multipliesSpec)) multipliesCard

/-- THE TIED CARD OF 'latchkeep.Group'. -/
def groupCard : Claim7 := { stood := { row := groupRow, standIns := [], harness := (true, "acf50d4e0e5d298658771502c918bcc8403299241f16cb4304b7ac6fcd98b10c"), looks := false }, kinds := [], alts := [], laidByText := true, laidKinds := [.data, .data, .data, .data, .data, .data], laidTests := true, laidLooks := .later }
def GroupCardSaid : Prop := Claim7.holds Tryd.pinned (.plain (OpenSpec.ofChange groupSpec)) groupCard

/-- THE TIED CARD OF 'latchkeep.Scalars'. -/
def scalarsCard : Claim7 := { stood := { row := scalarsRow, standIns := [], harness := (true, "acf50d4e0e5d298658771502c918bcc8403299241f16cb4304b7ac6fcd98b10c"), looks := false }, kinds := [], alts := [], laidByText := true, laidKinds := [.data, .data, .data, .data, .data, .data, .data], laidTests := true, laidLooks := .later }
def ScalarsCardSaid : Prop := Claim7.holds Tryd.pinned (.plain (OpenSpec.ofChange scalarsSpec)) scalarsCard

/-- THE SECOND FORM's CARD OF 'latchlaw.Reduces'. -/
def reducesUptoCard : Claim7 := { stood := { row := reducesUptoRow, standIns := [], harness := (true, "acf50d4e0e5d298658771502c918bcc8403299241f16cb4304b7ac6fcd98b10c"), looks := false }, kinds := [], alts := [], laidByText := true, laidKinds := [.data], laidTests := true, laidLooks := .later }
def ReducesUptoCardSaid : Prop := Claim7.holds Tryd.pinned (.plain (OpenSpec.upto reducesSpec)) reducesUptoCard

/-- THE SECOND FORM's CARD OF 'latchlaw.Adds'. -/
def addsUptoCard : Claim7 := { stood := { row := addsUptoRow, standIns := [], harness := (true, "acf50d4e0e5d298658771502c918bcc8403299241f16cb4304b7ac6fcd98b10c"), looks := false }, kinds := [], alts := [], laidByText := true, laidKinds := [.data, .data, .data, .data, .data], laidTests := true, laidLooks := .later }
def AddsUptoCardSaid : Prop := Claim7.holds Tryd.pinned (.plain (OpenSpec.upto addsSpec)) addsUptoCard

/-- THE SECOND FORM's CARD OF 'latchlaw.Multiplies'. -/
def multipliesUptoCard : Claim7 := { stood := { row := multipliesUptoRow, standIns := [], harness := (true, "acf50d4e0e5d298658771502c918bcc8403299241f16cb4304b7ac6fcd98b10c"), looks := false }, kinds := [], alts := [], laidByText := true, laidKinds := [.data, .data, .data, .data, .data, .data], laidTests := true, laidLooks := .later }
def MultipliesUptoCardSaid : Prop := Claim7.holds Tryd.pinned (.plain (OpenSpec.upto multipliesSpec)) multipliesUptoCard

/-- THE SECOND FORM's CARD OF 'latchkeep.Group'. -/
def groupUptoCard : Claim7 := { stood := { row := groupUptoRow, standIns := [], harness := (true, "acf50d4e0e5d298658771502c918bcc8403299241f16cb4304b7ac6fcd98b10c"), looks := false }, kinds := [], alts := [], laidByText := true, laidKinds := [.data, .data, .data, .data, .data, .data], laidTests := true, laidLooks := .later }
def GroupUptoCardSaid : Prop := Claim7.holds Tryd.pinned (.plain (OpenSpec.upto groupSpec)) groupUptoCard

/-- THE SECOND FORM's CARD OF 'latchkeep.Scalars'. -/
def scalarsUptoCard : Claim7 := { stood := { row := scalarsUptoRow, standIns := [], harness := (true, "acf50d4e0e5d298658771502c918bcc8403299241f16cb4304b7ac6fcd98b10c"), looks := false }, kinds := [], alts := [], laidByText := true, laidKinds := [.data, .data, .data, .data, .data, .data, .data], laidTests := true, laidLooks := .later }
def ScalarsUptoCardSaid : Prop := Claim7.holds Tryd.pinned (.plain (OpenSpec.upto scalarsSpec)) scalarsUptoCard
end Rows
end Go.Proofs.YtemdlpcljjdfjaaDoor
