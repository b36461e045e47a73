/-
  DERIVED. GIVEN WITH THE SEED: THE CARDS: each row of YtpflbnddjclndaaGreatDoorRows.lean that lists a variable, with what it lists TIED to the program's text (the seventh form; the later family's looks); each row that meets fmt, with fmt's text TOLD by the authors' own Lean function (tested against real Go, not proved from fmt's source: count such statements apart). THE CARD IS WHAT COUNTS. Prove the row's statement (the work); the ties are given (YtpflbnddjclndaaGreatDoorTie.lean); close each card by the builder's one call (the guide's Derived/Test/ToyasCard.lean, 'card_holds'). Laid BY PROGRAM, IN A SANDBOX (cutbox-door.mjs). By AI agents, Wed Nov 11 2026. No macro, syntax, notation, axiom, sorry.
-/
import Derived.Test.YtpflbnddjclndaaGreatDoorRows
import GoSem.ClaimSeven
namespace Go.Proofs.YtpflbnddjclndaaGreatDoor
namespace Rows

/-- THE TIED CARD OF 'screelaw03.RealRests'. -/
def realRestsCard : Claim7 := { stood := { row := realRestsRow, standIns := [], harness := (true, "eecaf9265c32f08f855552a567d8a7cc555db2a2379e45df9b995296d10c8921"), looks := true }, kinds := [], alts := [], laidByText := true, laidKinds := [.data, .data, .widerDeep, .widerDeep, .data, .data, .data, .data, .data, .sentinel, .sentinel, .pinned, .pinned], laidTests := true, laidLooks := .later }
def RealRestsCardSaid : Prop := Claim7.holds Tryz.pinned (.plain (OpenSpec.ofChange realRestsSpec)) realRestsCard

/-- THE SECOND FORM's CARD OF 'screelaw03.RealRests'. -/
def realRestsUptoCard : Claim7 := { stood := { row := realRestsUptoRow, standIns := [], harness := (true, "eecaf9265c32f08f855552a567d8a7cc555db2a2379e45df9b995296d10c8921"), looks := true }, kinds := [], alts := [], laidByText := true, laidKinds := [.data, .data, .widerDeep, .widerDeep, .data, .data, .data, .data, .data, .sentinel, .sentinel, .pinned, .pinned], laidTests := true, laidLooks := .later }
def RealRestsUptoCardSaid : Prop := Claim7.holds Tryz.pinned (.plain (OpenSpec.upto realRestsSpec)) realRestsUptoCard
end Rows
end Go.Proofs.YtpflbnddjclndaaGreatDoor
