/-
  DERIVED. GIVEN WITH THE SEED: THE CARDS: each row of YtmfckhhmalogdaaGreatDoorRows.lean that lists a variable, with what it lists TIED to the program's text (the seventh form; the later family's looks); each row that meets fmt, with fmt's text TOLD by the authors' own Lean function (tested against real Go, not proved from fmt's source: count such statements apart). THE CARD IS WHAT COUNTS. Prove the row's statement (the work); the ties are given (YtmfckhhmalogdaaGreatDoorTie.lean); close each card by the builder's one call (the guide's Derived/Test/ToyasCard.lean, 'card_holds'). Laid BY PROGRAM, IN A SANDBOX (cutbox-door.mjs). By AI agents, Wed Nov 11 2026. No macro, syntax, notation, axiom, sorry.
-/
import Derived.Test.YtmfckhhmalogdaaGreatDoorRows
import GoSem.ClaimSeven
namespace Go.Proofs.YtmfckhhmalogdaaGreatDoor
namespace Rows

/-- THE TIED CARD OF 'screelaw03.RealAgree'. -/
def realAgreeCard : Claim7 := { stood := { row := realAgreeRow, standIns := [], harness := (true, "19fe838fba9560acf53c82d719a8aed21be82a08511323273c5292449b6ec30d"), looks := true }, kinds := [], alts := [], laidByText := true, laidKinds := [.data, .data, .widerDeep, .widerDeep, .data, .data, .data, .data, .data, .sentinel, .sentinel, .pinned, .pinned], laidTests := true, laidLooks := .later }
def RealAgreeCardSaid : Prop := Claim7.holds Tryz.pinned (.plain (OpenSpec.ofChange realAgreeSpec)) realAgreeCard

/-- THE SECOND FORM's CARD OF 'screelaw03.RealAgree'. -/
def realAgreeUptoCard : Claim7 := { stood := { row := realAgreeUptoRow, standIns := [], harness := (true, "19fe838fba9560acf53c82d719a8aed21be82a08511323273c5292449b6ec30d"), looks := true }, kinds := [], alts := [], laidByText := true, laidKinds := [.data, .data, .widerDeep, .widerDeep, .data, .data, .data, .data, .data, .sentinel, .sentinel, .pinned, .pinned], laidTests := true, laidLooks := .later }
def RealAgreeUptoCardSaid : Prop := Claim7.holds Tryz.pinned (.plain (OpenSpec.upto realAgreeSpec)) realAgreeUptoCard
end Rows
end Go.Proofs.YtmfckhhmalogdaaGreatDoor
