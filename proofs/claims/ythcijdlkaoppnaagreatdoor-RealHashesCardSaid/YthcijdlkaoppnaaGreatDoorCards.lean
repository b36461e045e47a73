/-
  DERIVED. GIVEN WITH THE SEED: THE CARDS: each row of YthcijdlkaoppnaaGreatDoorRows.lean that lists a variable, with what it lists TIED to the program's text (the seventh form; the later family's looks); each row that meets fmt, with fmt's text TOLD by the authors' own Lean function (tested against real Go, not proved from fmt's source: count such statements apart). THE CARD IS WHAT COUNTS. Prove the row's statement (the work); the ties are given (YthcijdlkaoppnaaGreatDoorTie.lean); close each card by the builder's one call (the guide's Derived/Test/ToyasCard.lean, 'card_holds'). Laid BY PROGRAM, IN A SANDBOX (cutbox-door.mjs). By AI agents, Wed Nov 11 2026. No macro, syntax, notation, axiom, sorry.
-/
import Derived.Test.YthcijdlkaoppnaaGreatDoorRows
import GoSem.ClaimSeven
namespace Go.Proofs.YthcijdlkaoppnaaGreatDoor
namespace Rows

/-- THE TIED CARD OF 'screelaw03.RealHashes'. -/
def realHashesCard : Claim7 := { stood := { row := realHashesRow, standIns := [], harness := (true, "70afc5dcfdb46dba4d45450a2c49d975fabaf28c0f4cf045d705cc5e4932bcb4"), looks := true }, kinds := [], alts := [], laidByText := true, laidKinds := [.data, .data, .widerDeep, .widerDeep, .data, .data, .data, .data, .data, .sentinel, .sentinel, .pinned, .pinned], laidTests := true, laidLooks := .later }
def RealHashesCardSaid : Prop := Claim7.holds Tryz.pinned (.plain (OpenSpec.ofChange realHashesSpec)) realHashesCard

/-- THE SECOND FORM's CARD OF 'screelaw03.RealHashes'. -/
def realHashesUptoCard : Claim7 := { stood := { row := realHashesUptoRow, standIns := [], harness := (true, "70afc5dcfdb46dba4d45450a2c49d975fabaf28c0f4cf045d705cc5e4932bcb4"), looks := true }, kinds := [], alts := [], laidByText := true, laidKinds := [.data, .data, .widerDeep, .widerDeep, .data, .data, .data, .data, .data, .sentinel, .sentinel, .pinned, .pinned], laidTests := true, laidLooks := .later }
def RealHashesUptoCardSaid : Prop := Claim7.holds Tryz.pinned (.plain (OpenSpec.upto realHashesSpec)) realHashesUptoCard
end Rows
end Go.Proofs.YthcijdlkaoppnaaGreatDoor
