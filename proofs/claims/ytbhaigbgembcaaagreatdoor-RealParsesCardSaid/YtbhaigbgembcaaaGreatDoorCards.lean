/-
  DERIVED. GIVEN WITH THE SEED: THE CARDS: each row of YtbhaigbgembcaaaGreatDoorRows.lean that lists a variable, with what it lists TIED to the program's text (the seventh form; the later family's looks); each row that meets fmt, with fmt's text TOLD by the authors' own Lean function (tested against real Go, not proved from fmt's source: count such statements apart). THE CARD IS WHAT COUNTS. Prove the row's statement (the work); the ties are given (YtbhaigbgembcaaaGreatDoorTie.lean); close each card by the builder's one call (the guide's Derived/Test/ToyasCard.lean, 'card_holds'). Laid BY PROGRAM, IN A SANDBOX (cutbox-door.mjs). By AI agents, Wed Nov 11 2026. No macro, syntax, notation, axiom, sorry.
-/
import Derived.Test.YtbhaigbgembcaaaGreatDoorRows
import GoSem.ClaimSeven
namespace Go.Proofs.YtbhaigbgembcaaaGreatDoor
namespace Rows

/-- THE TIED CARD OF 'screelaw03.RealParses'. -/
def realParsesCard : Claim7 := { stood := { row := realParsesRow, standIns := [], harness := (true, "7b7b199b85beb050b1d22389b0f2ce3ff2001e92d2cc694afa806c9149a28bec"), looks := true }, kinds := [], alts := [], laidByText := true, laidKinds := [.data, .data, .widerDeep, .widerDeep, .data, .data, .data, .data, .data, .sentinel, .sentinel, .pinned, .pinned], laidTests := true, laidLooks := .later }
def RealParsesCardSaid : Prop := Claim7.holds Tryz.pinned (.plain (OpenSpec.ofChange realParsesSpec)) realParsesCard

/-- THE SECOND FORM's CARD OF 'screelaw03.RealParses'. -/
def realParsesUptoCard : Claim7 := { stood := { row := realParsesUptoRow, standIns := [], harness := (true, "7b7b199b85beb050b1d22389b0f2ce3ff2001e92d2cc694afa806c9149a28bec"), looks := true }, kinds := [], alts := [], laidByText := true, laidKinds := [.data, .data, .widerDeep, .widerDeep, .data, .data, .data, .data, .data, .sentinel, .sentinel, .pinned, .pinned], laidTests := true, laidLooks := .later }
def RealParsesUptoCardSaid : Prop := Claim7.holds Tryz.pinned (.plain (OpenSpec.upto realParsesSpec)) realParsesUptoCard
end Rows
end Go.Proofs.YtbhaigbgembcaaaGreatDoor
