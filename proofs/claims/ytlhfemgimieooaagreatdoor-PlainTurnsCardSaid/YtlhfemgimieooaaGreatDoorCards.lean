/-
  DERIVED. GIVEN WITH THE SEED: THE CARDS: each row of YtlhfemgimieooaaGreatDoorRows.lean that lists a variable, with what it lists TIED to the program's text (the seventh form; the later family's looks); each row that meets fmt, with fmt's text TOLD by the authors' own Lean function (tested against real Go, not proved from fmt's source: count such statements apart). THE CARD IS WHAT COUNTS. Prove the row's statement (the work); the ties are given (YtlhfemgimieooaaGreatDoorTie.lean); close each card by the builder's one call (the guide's Derived/Test/ToyasCard.lean, 'card_holds'). Laid BY PROGRAM, IN A SANDBOX (cutbox-door.mjs). By AI agents, Wed Nov 11 2026. No macro, syntax, notation, axiom, sorry.
-/
import Derived.Test.YtlhfemgimieooaaGreatDoorRows
import GoSem.ClaimSeven
namespace Go.Proofs.YtlhfemgimieooaaGreatDoor
namespace Rows

/-- THE TIED CARD OF 'screelaw15.PlainTurns'. -/
def plainTurnsCard : Claim7 := { stood := { row := plainTurnsRow, standIns := [], harness := (true, "aaf289ca75e4e791bc190c47510d79b7bcc224cee474d784b44609fda2090690"), looks := true }, kinds := [], alts := [], laidByText := true, laidKinds := [.data, .data, .widerDeep, .widerDeep, .data, .data, .data, .data, .data, .data, .sentinel, .sentinel, .pinned, .pinned, .pinned], laidTests := true, laidLooks := .later }
def PlainTurnsCardSaid : Prop := Claim7.holds Tryz.pinned (.plain (OpenSpec.ofChange plainTurnsSpec)) plainTurnsCard

/-- THE SECOND FORM's CARD OF 'screelaw15.PlainTurns'. -/
def plainTurnsUptoCard : Claim7 := { stood := { row := plainTurnsUptoRow, standIns := [], harness := (true, "aaf289ca75e4e791bc190c47510d79b7bcc224cee474d784b44609fda2090690"), looks := true }, kinds := [], alts := [], laidByText := true, laidKinds := [.data, .data, .widerDeep, .widerDeep, .data, .data, .data, .data, .data, .data, .sentinel, .sentinel, .pinned, .pinned, .pinned], laidTests := true, laidLooks := .later }
def PlainTurnsUptoCardSaid : Prop := Claim7.holds Tryz.pinned (.plain (OpenSpec.upto plainTurnsSpec)) plainTurnsUptoCard
end Rows
end Go.Proofs.YtlhfemgimieooaaGreatDoor
