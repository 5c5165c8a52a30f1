/-
  DERIVED. GIVEN WITH THE SEED: THE CARDS: each row of YtcgblbeefcbhiaaDoorRows.lean that lists a variable, with what it lists TIED to the program's text (the seventh form; the later family's looks); each row that meets fmt, with fmt's text TOLD by the authors' own Lean function (tested against real Go, not proved from fmt's source: count such statements apart). THE CARD IS WHAT COUNTS. Prove the row's statement (the work); the ties are given (YtcgblbeefcbhiaaDoorTie.lean); close each card by the builder's one call (the guide's Derived/Test/ToyasCard.lean, 'card_holds'). Laid BY PROGRAM, IN A SANDBOX (cutbox-door.mjs). By AI agents, Wed Nov 11 2026. No macro, syntax, notation, axiom, sorry.
-/
import Derived.Test.YtcgblbeefcbhiaaDoorRows
import GoSem.ClaimSeven
namespace Go.Proofs.YtcgblbeefcbhiaaDoor
namespace Rows

/-- THE TIED CARD OF 'latchlaw.Reduces'. -/
def reducesCard : Claim7 := { stood := { row := reducesRow, standIns := [], harness := (true, "b2f68d6d87ebe5af495b98f461dfcbf8790616ab6ff2741e7724c9a94ef3115c"), looks := false }, kinds := [], alts := [], laidByText := true, laidKinds := [.data], laidTests := true, laidLooks := .later }
def ReducesCardSaid : Prop := Claim7.holds Tryd.pinned (.plain (OpenSpec.ofChange reducesSpec)) reducesCard

/-- THE TIED CARD OF 'latchlaw.Adds'. -/
def addsCard : Claim7 := { stood := { row := addsRow, standIns := [], harness := (true, "b2f68d6d87ebe5af495b98f461dfcbf8790616ab6ff2741e7724c9a94ef3115c"), looks := false }, kinds := [], alts := [], laidByText := true, laidKinds := [.data, .data, .data, .data, .data], laidTests := true, laidLooks := .later }
def AddsCardSaid : Prop := Claim7.holds Tryd.pinned (.plain (OpenSpec.ofChange addsSpec)) addsCard

/-- THE SECOND FORM's CARD OF 'latchlaw.Reduces'. -/
def reducesUptoCard : Claim7 := { stood := { row := reducesUptoRow, standIns := [], harness := (true, "b2f68d6d87ebe5af495b98f461dfcbf8790616ab6ff2741e7724c9a94ef3115c"), looks := false }, kinds := [], alts := [], laidByText := true, laidKinds := [.data], laidTests := true, laidLooks := .later }
def ReducesUptoCardSaid : Prop := Claim7.holds Tryd.pinned (.plain (OpenSpec.upto reducesSpec)) reducesUptoCard

/-- THE SECOND FORM's CARD OF 'latchlaw.Adds'. -/
def addsUptoCard : Claim7 := { stood := { row := addsUptoRow, standIns := [], harness := (true, "b2f68d6d87ebe5af495b98f461dfcbf8790616ab6ff2741e7724c9a94ef3115c"), looks := false }, kinds := [], alts := [], laidByText := true, laidKinds := [.data, .data, .data, .data, .data], laidTests := true, laidLooks := .later }
def AddsUptoCardSaid : Prop := Claim7.holds Tryd.pinned (.plain (OpenSpec.upto addsSpec)) addsUptoCard
end Rows
end Go.Proofs.YtcgblbeefcbhiaaDoor
