/-
  DERIVED. GIVEN WITH THE SEED: THE CARDS: each row of YtbhommcpgejbfaaGreatDoorRows.lean that lists a variable, with what it lists TIED to the program's text (the seventh form; the later family's looks); each row that meets fmt, with fmt's text TOLD by the authors' own Lean function (tested against real Go, not proved from fmt's source: count such statements apart). THE CARD IS WHAT COUNTS. Prove the row's statement (the work); the ties are given (YtbhommcpgejbfaaGreatDoorTie.lean); close each card by the builder's one call (the guide's Derived/Test/ToyasCard.lean, 'card_holds'). Laid BY PROGRAM, IN A SANDBOX (cutbox-door.mjs). By AI agents, Wed Nov 11 2026. No macro, syntax, notation, axiom, sorry.
-/
import Derived.Test.YtbhommcpgejbfaaGreatDoorRows
import GoSem.ClaimSeven
namespace Go.Proofs.YtbhommcpgejbfaaGreatDoor
namespace Rows

/-- THE TIED CARD OF 'screelaw03.RealWholes'. -/
def realWholesCard : Claim7 := { stood := { row := realWholesRow, standIns := [], harness := (true, "214847eac06130cd0b5ad2abc8312b19cd6c35d686bd7b48ebaf3a9549f739b4"), looks := true }, kinds := [], alts := [], laidByText := true, laidKinds := [.data, .data, .widerDeep, .widerDeep, .data, .data, .data, .data, .data, .sentinel, .sentinel, .pinned, .pinned], laidTests := true, laidLooks := .later }
def RealWholesCardSaid : Prop := Claim7.holds Tryz.pinned (.plain (OpenSpec.ofChange realWholesSpec)) realWholesCard

/-- THE SECOND FORM's CARD OF 'screelaw03.RealWholes'. -/
def realWholesUptoCard : Claim7 := { stood := { row := realWholesUptoRow, standIns := [], harness := (true, "214847eac06130cd0b5ad2abc8312b19cd6c35d686bd7b48ebaf3a9549f739b4"), looks := true }, kinds := [], alts := [], laidByText := true, laidKinds := [.data, .data, .widerDeep, .widerDeep, .data, .data, .data, .data, .data, .sentinel, .sentinel, .pinned, .pinned], laidTests := true, laidLooks := .later }
def RealWholesUptoCardSaid : Prop := Claim7.holds Tryz.pinned (.plain (OpenSpec.upto realWholesSpec)) realWholesUptoCard
end Rows
end Go.Proofs.YtbhommcpgejbfaaGreatDoor
