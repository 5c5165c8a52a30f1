/-
  DERIVED. GIVEN WITH THE SEED: THE CARDS: each row of YtccgfabojbjmjaaGreatDoorRows.lean that lists a variable, with what it lists TIED to the program's text (the seventh form; the later family's looks); each row that meets fmt, with fmt's text TOLD by the authors' own Lean function (tested against real Go, not proved from fmt's source: count such statements apart). THE CARD IS WHAT COUNTS. Prove the row's statement (the work); the ties are given (YtccgfabojbjmjaaGreatDoorTie.lean); close each card by the builder's one call (the guide's Derived/Test/ToyasCard.lean, 'card_holds'). Laid BY PROGRAM, IN A SANDBOX (cutbox-door.mjs). By AI agents, Wed Nov 11 2026. No macro, syntax, notation, axiom, sorry.
-/
import Derived.Test.YtccgfabojbjmjaaGreatDoorRows
import GoSem.ClaimSeven
namespace Go.Proofs.YtccgfabojbjmjaaGreatDoor
namespace Rows

/-- THE TIED CARD OF 'latchlaw.Signs'. -/
def signsCard : Claim7 := { stood := { row := signsRow, standIns := [], harness := (true, "bf72f916d673aed0014eb27d2fb4f38fa06acdfaced58f5599a618ce2bf66321"), looks := true }, kinds := [], alts := [], laidByText := true, laidKinds := [.data, .data, .data, .data, .handle, .sentinel, .sentinel, .sentinel, .data, .data, .data, .data], laidTests := true, laidLooks := .later }
def SignsCardSaid : Prop := Claim7.holds Tryz.pinned (.plain (OpenSpec.ofChange signsSpec)) signsCard

/-- THE TIED CARD OF 'latchlaw.Verifies'. -/
def verifiesCard : Claim7 := { stood := { row := verifiesRow, standIns := [], harness := (true, "bf72f916d673aed0014eb27d2fb4f38fa06acdfaced58f5599a618ce2bf66321"), looks := true }, kinds := [], alts := [], laidByText := true, laidKinds := [.data, .data, .data, .data, .handle, .sentinel, .sentinel, .sentinel, .sentinel, .data, .data, .data, .data], laidTests := true, laidLooks := .later }
def VerifiesCardSaid : Prop := Claim7.holds Tryz.pinned (.plain (OpenSpec.ofChange verifiesSpec)) verifiesCard

/-- THE TIED CARD OF 'latchkeep.Signed'. -/
def signedCard : Claim7 := { stood := { row := signedRow, standIns := [], harness := (true, "bf72f916d673aed0014eb27d2fb4f38fa06acdfaced58f5599a618ce2bf66321"), looks := true }, kinds := [], alts := [], laidByText := true, laidKinds := [.data, .data, .data, .data, .handle, .sentinel, .sentinel, .sentinel, .sentinel, .data, .data, .data, .data], laidTests := true, laidLooks := .later }
def SignedCardSaid : Prop := Claim7.holds Tryz.pinned (.plain (OpenSpec.ofChange signedSpec)) signedCard

/-- THE TIED CARD OF 'latchlaw.Loads'. -/
def loadsCard : Claim7 := { stood := { row := loadsRow, standIns := [], harness := (true, "bf72f916d673aed0014eb27d2fb4f38fa06acdfaced58f5599a618ce2bf66321"), looks := true }, kinds := [], alts := [], laidByText := true, laidKinds := [.data, .data, .data, .data, .handle, .sentinel, .sentinel, .sentinel, .sentinel, .data, .data, .data, .data], laidTests := true, laidLooks := .later }
def LoadsCardSaid : Prop := Claim7.holds Tryz.pinned (.plain (OpenSpec.ofChange loadsSpec)) loadsCard

/-- THE TIED CARD OF 'latchkeep.Started'. -/
def startedCard : Claim7 := { stood := { row := startedRow, standIns := [], harness := (true, "bf72f916d673aed0014eb27d2fb4f38fa06acdfaced58f5599a618ce2bf66321"), looks := true }, kinds := [], alts := [], laidByText := true, laidKinds := [.data, .data, .data, .data, .handle, .sentinel, .sentinel, .sentinel, .sentinel, .data, .data, .data, .data], laidTests := true, laidLooks := .later }
def StartedCardSaid : Prop := Claim7.holds Tryz.pinned (.plain (OpenSpec.ofChange startedSpec)) startedCard

/-- THE SECOND FORM's CARD OF 'latchlaw.Signs'. -/
def signsUptoCard : Claim7 := { stood := { row := signsUptoRow, standIns := [], harness := (true, "bf72f916d673aed0014eb27d2fb4f38fa06acdfaced58f5599a618ce2bf66321"), looks := true }, kinds := [], alts := [], laidByText := true, laidKinds := [.data, .data, .data, .data, .handle, .sentinel, .sentinel, .sentinel, .data, .data, .data, .data], laidTests := true, laidLooks := .later }
def SignsUptoCardSaid : Prop := Claim7.holds Tryz.pinned (.plain (OpenSpec.upto signsSpec)) signsUptoCard

/-- THE SECOND FORM's CARD OF 'latchlaw.Verifies'. -/
def verifiesUptoCard : Claim7 := { stood := { row := verifiesUptoRow, standIns := [], harness := (true, "bf72f916d673aed0014eb27d2fb4f38fa06acdfaced58f5599a618ce2bf66321"), looks := true }, kinds := [], alts := [], laidByText := true, laidKinds := [.data, .data, .data, .data, .handle, .sentinel, .sentinel, .sentinel, .sentinel, .data, .data, .data, .data], laidTests := true, laidLooks := .later }
def VerifiesUptoCardSaid : Prop := Claim7.holds Tryz.pinned (.plain (OpenSpec.upto verifiesSpec)) verifiesUptoCard

/-- THE SECOND FORM's CARD OF 'latchkeep.Signed'. -/
def signedUptoCard : Claim7 := { stood := { row := signedUptoRow, standIns := [], harness := (true, "bf72f916d673aed0014eb27d2fb4f38fa06acdfaced58f5599a618ce2bf66321"), looks := true }, kinds := [], alts := [], laidByText := true, laidKinds := [.data, .data, .data, .data, .handle, .sentinel, .sentinel, .sentinel, .sentinel, .data, .data, .data, .data], laidTests := true, laidLooks := .later }
def SignedUptoCardSaid : Prop := Claim7.holds Tryz.pinned (.plain (OpenSpec.upto signedSpec)) signedUptoCard

/-- THE SECOND FORM's CARD OF 'latchlaw.Loads'. -/
def loadsUptoCard : Claim7 := { stood := { row := loadsUptoRow, standIns := [], harness := (true, "bf72f916d673aed0014eb27d2fb4f38fa06acdfaced58f5599a618ce2bf66321"), looks := true }, kinds := [], alts := [], laidByText := true, laidKinds := [.data, .data, .data, .data, .handle, .sentinel, .sentinel, .sentinel, .sentinel, .data, .data, .data, .data], laidTests := true, laidLooks := .later }
def LoadsUptoCardSaid : Prop := Claim7.holds Tryz.pinned (.plain (OpenSpec.upto loadsSpec)) loadsUptoCard

/-- THE SECOND FORM's CARD OF 'latchkeep.Started'. -/
def startedUptoCard : Claim7 := { stood := { row := startedUptoRow, standIns := [], harness := (true, "bf72f916d673aed0014eb27d2fb4f38fa06acdfaced58f5599a618ce2bf66321"), looks := true }, kinds := [], alts := [], laidByText := true, laidKinds := [.data, .data, .data, .data, .handle, .sentinel, .sentinel, .sentinel, .sentinel, .data, .data, .data, .data], laidTests := true, laidLooks := .later }
def StartedUptoCardSaid : Prop := Claim7.holds Tryz.pinned (.plain (OpenSpec.upto startedSpec)) startedUptoCard
end Rows
end Go.Proofs.YtccgfabojbjmjaaGreatDoor
