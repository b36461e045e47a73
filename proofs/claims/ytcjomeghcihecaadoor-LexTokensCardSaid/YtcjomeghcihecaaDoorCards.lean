/-
  DERIVED. GIVEN WITH THE SEED: THE CARDS: each row of YtcjomeghcihecaaDoorRows.lean that lists a variable, with what it lists TIED to the program's text (the seventh form; the later family's looks); each row that meets fmt, with fmt's text TOLD by the authors' own Lean function (tested against real Go, not proved from fmt's source: count such statements apart). THE CARD IS WHAT COUNTS. Prove the row's statement (the work); the ties are given (YtcjomeghcihecaaDoorTie.lean); close each card by the builder's one call (the guide's Derived/Test/ToyasCard.lean, 'card_holds'). Laid BY PROGRAM, IN A SANDBOX (cutbox-door.mjs). By AI agents, Wed Nov 11 2026. No macro, syntax, notation, axiom, sorry.
-/
import Derived.Test.YtcjomeghcihecaaDoorRows
import GoSem.ClaimSeven
namespace Go.Proofs.YtcjomeghcihecaaDoor
namespace Rows

/-- THE TIED CARD OF 'screelaw04.LexTokens'. -/
def lexTokensCard : Claim7 := { stood := { row := lexTokensRow, standIns := [], harness := (true, "f10f17f915d4cbfb236be098361ebb27d8791ca777927c99e06369e4d239d427"), looks := false }, kinds := [], alts := [], laidByText := true, laidKinds := [.listed, .data], laidTests := true, laidLooks := .later }
def LexTokensCardSaid : Prop := Claim7.holds Tryd.pinned (.plain (OpenSpec.ofChange lexTokensSpec)) lexTokensCard

/-- THE TIED CARD OF 'screelaw04.LexBlocks'. -/
def lexBlocksCard : Claim7 := { stood := { row := lexBlocksRow, standIns := [], harness := (true, "f10f17f915d4cbfb236be098361ebb27d8791ca777927c99e06369e4d239d427"), looks := false }, kinds := [], alts := [], laidByText := true, laidKinds := [.listed, .data], laidTests := true, laidLooks := .later }
def LexBlocksCardSaid : Prop := Claim7.holds Tryd.pinned (.plain (OpenSpec.ofChange lexBlocksSpec)) lexBlocksCard

/-- THE TIED CARD OF 'screelaw04.LexQuiet'. -/
def lexQuietCard : Claim7 := { stood := { row := lexQuietRow, standIns := [], harness := (true, "f10f17f915d4cbfb236be098361ebb27d8791ca777927c99e06369e4d239d427"), looks := false }, kinds := [], alts := [], laidByText := true, laidKinds := [.listed, .data], laidTests := true, laidLooks := .later }
def LexQuietCardSaid : Prop := Claim7.holds Tryd.pinned (.plain (OpenSpec.ofChange lexQuietSpec)) lexQuietCard

/-- THE TIED CARD OF 'screelaw04.LexJoins'. -/
def lexJoinsCard : Claim7 := { stood := { row := lexJoinsRow, standIns := [], harness := (true, "f10f17f915d4cbfb236be098361ebb27d8791ca777927c99e06369e4d239d427"), looks := false }, kinds := [], alts := [], laidByText := true, laidKinds := [.listed, .data], laidTests := true, laidLooks := .later }
def LexJoinsCardSaid : Prop := Claim7.holds Tryd.pinned (.plain (OpenSpec.ofChange lexJoinsSpec)) lexJoinsCard

/-- THE TIED CARD OF 'screelaw04.LexSpaces'. -/
def lexSpacesCard : Claim7 := { stood := { row := lexSpacesRow, standIns := [], harness := (true, "f10f17f915d4cbfb236be098361ebb27d8791ca777927c99e06369e4d239d427"), looks := false }, kinds := [], alts := [], laidByText := true, laidKinds := [.listed, .data], laidTests := true, laidLooks := .later }
def LexSpacesCardSaid : Prop := Claim7.holds Tryd.pinned (.plain (OpenSpec.ofChange lexSpacesSpec)) lexSpacesCard

/-- THE TIED CARD OF 'screelaw04.LexKeeps'. -/
def lexKeepsCard : Claim7 := { stood := { row := lexKeepsRow, standIns := [], harness := (true, "f10f17f915d4cbfb236be098361ebb27d8791ca777927c99e06369e4d239d427"), looks := false }, kinds := [], alts := [], laidByText := true, laidKinds := [.listed, .data], laidTests := true, laidLooks := .later }
def LexKeepsCardSaid : Prop := Claim7.holds Tryd.pinned (.plain (OpenSpec.ofChange lexKeepsSpec)) lexKeepsCard

/-- THE SECOND FORM's CARD OF 'screelaw04.LexTokens'. -/
def lexTokensUptoCard : Claim7 := { stood := { row := lexTokensUptoRow, standIns := [], harness := (true, "f10f17f915d4cbfb236be098361ebb27d8791ca777927c99e06369e4d239d427"), looks := false }, kinds := [], alts := [], laidByText := true, laidKinds := [.listed, .data], laidTests := true, laidLooks := .later }
def LexTokensUptoCardSaid : Prop := Claim7.holds Tryd.pinned (.plain (OpenSpec.upto lexTokensSpec)) lexTokensUptoCard

/-- THE SECOND FORM's CARD OF 'screelaw04.LexBlocks'. -/
def lexBlocksUptoCard : Claim7 := { stood := { row := lexBlocksUptoRow, standIns := [], harness := (true, "f10f17f915d4cbfb236be098361ebb27d8791ca777927c99e06369e4d239d427"), looks := false }, kinds := [], alts := [], laidByText := true, laidKinds := [.listed, .data], laidTests := true, laidLooks := .later }
def LexBlocksUptoCardSaid : Prop := Claim7.holds Tryd.pinned (.plain (OpenSpec.upto lexBlocksSpec)) lexBlocksUptoCard

/-- THE SECOND FORM's CARD OF 'screelaw04.LexQuiet'. -/
def lexQuietUptoCard : Claim7 := { stood := { row := lexQuietUptoRow, standIns := [], harness := (true, "f10f17f915d4cbfb236be098361ebb27d8791ca777927c99e06369e4d239d427"), looks := false }, kinds := [], alts := [], laidByText := true, laidKinds := [.listed, .data], laidTests := true, laidLooks := .later }
def LexQuietUptoCardSaid : Prop := Claim7.holds Tryd.pinned (.plain (OpenSpec.upto lexQuietSpec)) lexQuietUptoCard

/-- THE SECOND FORM's CARD OF 'screelaw04.LexJoins'. -/
def lexJoinsUptoCard : Claim7 := { stood := { row := lexJoinsUptoRow, standIns := [], harness := (true, "f10f17f915d4cbfb236be098361ebb27d8791ca777927c99e06369e4d239d427"), looks := false }, kinds := [], alts := [], laidByText := true, laidKinds := [.listed, .data], laidTests := true, laidLooks := .later }
def LexJoinsUptoCardSaid : Prop := Claim7.holds Tryd.pinned (.plain (OpenSpec.upto lexJoinsSpec)) lexJoinsUptoCard

/-- THE SECOND FORM's CARD OF 'screelaw04.LexSpaces'. -/
def lexSpacesUptoCard : Claim7 := { stood := { row := lexSpacesUptoRow, standIns := [], harness := (true, "f10f17f915d4cbfb236be098361ebb27d8791ca777927c99e06369e4d239d427"), looks := false }, kinds := [], alts := [], laidByText := true, laidKinds := [.listed, .data], laidTests := true, laidLooks := .later }
def LexSpacesUptoCardSaid : Prop := Claim7.holds Tryd.pinned (.plain (OpenSpec.upto lexSpacesSpec)) lexSpacesUptoCard

/-- THE SECOND FORM's CARD OF 'screelaw04.LexKeeps'. -/
def lexKeepsUptoCard : Claim7 := { stood := { row := lexKeepsUptoRow, standIns := [], harness := (true, "f10f17f915d4cbfb236be098361ebb27d8791ca777927c99e06369e4d239d427"), looks := false }, kinds := [], alts := [], laidByText := true, laidKinds := [.listed, .data], laidTests := true, laidLooks := .later }
def LexKeepsUptoCardSaid : Prop := Claim7.holds Tryd.pinned (.plain (OpenSpec.upto lexKeepsSpec)) lexKeepsUptoCard
end Rows
end Go.Proofs.YtcjomeghcihecaaDoor
