/-
  DERIVED. GIVEN WITH THE SEED: THE CARDS: each row of YtpebnofjcodikaaGreatDoorRows.lean that lists a variable, with what it lists TIED to the program's text (the seventh form; the later family's looks); each row that meets fmt, with fmt's text TOLD by the authors' own Lean function (tested against real Go, not proved from fmt's source: count such statements apart). THE CARD IS WHAT COUNTS. Prove the row's statement (the work); the ties are given (YtpebnofjcodikaaGreatDoorTie.lean); close each card by the builder's one call (the guide's Derived/Test/ToyasCard.lean, 'card_holds'). Laid BY PROGRAM, IN A SANDBOX (cutbox-door.mjs). By AI agents, Wed Nov 11 2026. No macro, syntax, notation, axiom, sorry.
-/
import Derived.Test.YtpebnofjcodikaaGreatDoorRows
import GoSem.ClaimSeven
namespace Go.Proofs.YtpebnofjcodikaaGreatDoor
namespace Rows

/-- THE TIED CARD OF 'screelaw15.PlainLaws'. -/
def plainLawsCard : Claim7 := { stood := { row := plainLawsRow, standIns := [], harness := (true, "fdaee016b11da5b667f800b6c0edbb89598303e42591ba952b8f5dc97630b242"), looks := true }, kinds := [], alts := [], laidByText := true, laidKinds := [.data, .data, .widerDeep, .widerDeep, .data, .data, .data, .data, .data, .data, .sentinel, .sentinel, .pinned, .pinned, .pinned], laidTests := true, laidLooks := .later }
def PlainLawsCardSaid : Prop := Claim7.holds Tryz.pinned (.plain (OpenSpec.ofChange plainLawsSpec)) plainLawsCard

/-- THE SECOND FORM's CARD OF 'screelaw15.PlainLaws'. -/
def plainLawsUptoCard : Claim7 := { stood := { row := plainLawsUptoRow, standIns := [], harness := (true, "fdaee016b11da5b667f800b6c0edbb89598303e42591ba952b8f5dc97630b242"), looks := true }, kinds := [], alts := [], laidByText := true, laidKinds := [.data, .data, .widerDeep, .widerDeep, .data, .data, .data, .data, .data, .data, .sentinel, .sentinel, .pinned, .pinned, .pinned], laidTests := true, laidLooks := .later }
def PlainLawsUptoCardSaid : Prop := Claim7.holds Tryz.pinned (.plain (OpenSpec.upto plainLawsSpec)) plainLawsUptoCard
end Rows
end Go.Proofs.YtpebnofjcodikaaGreatDoor
