/-
  DERIVED. GIVEN WITH THE SEED: THE CARDS: each row of YticebchmafipiaaDoorRows.lean that lists a variable, with what it lists TIED to the program's text (the seventh form; the later family's looks); each row that meets fmt, with fmt's text TOLD by the authors' own Lean function (tested against real Go, not proved from fmt's source: count such statements apart). THE CARD IS WHAT COUNTS. Prove the row's statement (the work); the ties are given (YticebchmafipiaaDoorTie.lean); close each card by the builder's one call (the guide's Derived/Test/ToyasCard.lean, 'card_holds'). Laid BY PROGRAM, IN A SANDBOX (cutbox-door.mjs). By AI agents, Wed Nov 11 2026. No macro, syntax, notation, axiom, sorry.
-/
import Derived.Test.YticebchmafipiaaDoorRows
import GoSem.ClaimSeven
namespace Go.Proofs.YticebchmafipiaaDoor
namespace Rows

/-- THE TIED CARD OF 'screelaw02.WholeTexts'. -/
def wholeTextsCard : Claim7 := { stood := { row := wholeTextsRow, standIns := [], harness := (true, "e86826476e8ce9853c18d8c533e2a69c9cfc9a0d866640f348c99302dbf4cd55"), looks := true }, kinds := [], alts := [], laidByText := true, laidKinds := [.data, .data, .data, .data, .sentinel, .sentinel, .pinned], laidTests := true, laidLooks := .later }
def WholeTextsCardSaid : Prop := Claim7.holds Tryd.pinned (.plain (OpenSpec.ofChange wholeTextsSpec)) wholeTextsCard

/-- THE TIED CARD OF 'screelaw02.WholeKeeps'. -/
def wholeKeepsCard : Claim7 := { stood := { row := wholeKeepsRow, standIns := [], harness := (true, "e86826476e8ce9853c18d8c533e2a69c9cfc9a0d866640f348c99302dbf4cd55"), looks := true }, kinds := [], alts := [], laidByText := true, laidKinds := [.data, .data, .data], laidTests := true, laidLooks := .later }
def WholeKeepsCardSaid : Prop := Claim7.holds Tryd.pinned (.plain (OpenSpec.ofChange wholeKeepsSpec)) wholeKeepsCard

/-- THE SECOND FORM's CARD OF 'screelaw02.WholeTexts'. -/
def wholeTextsUptoCard : Claim7 := { stood := { row := wholeTextsUptoRow, standIns := [], harness := (true, "e86826476e8ce9853c18d8c533e2a69c9cfc9a0d866640f348c99302dbf4cd55"), looks := true }, kinds := [], alts := [], laidByText := true, laidKinds := [.data, .data, .data, .data, .sentinel, .sentinel, .pinned], laidTests := true, laidLooks := .later }
def WholeTextsUptoCardSaid : Prop := Claim7.holds Tryd.pinned (.plain (OpenSpec.upto wholeTextsSpec)) wholeTextsUptoCard

/-- THE SECOND FORM's CARD OF 'screelaw02.WholeKeeps'. -/
def wholeKeepsUptoCard : Claim7 := { stood := { row := wholeKeepsUptoRow, standIns := [], harness := (true, "e86826476e8ce9853c18d8c533e2a69c9cfc9a0d866640f348c99302dbf4cd55"), looks := true }, kinds := [], alts := [], laidByText := true, laidKinds := [.data, .data, .data], laidTests := true, laidLooks := .later }
def WholeKeepsUptoCardSaid : Prop := Claim7.holds Tryd.pinned (.plain (OpenSpec.upto wholeKeepsSpec)) wholeKeepsUptoCard
end Rows
end Go.Proofs.YticebchmafipiaaDoor
