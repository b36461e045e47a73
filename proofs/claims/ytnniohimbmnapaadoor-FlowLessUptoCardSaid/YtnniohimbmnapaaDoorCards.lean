/-
  DERIVED. GIVEN WITH THE SEED: THE CARDS: each row of YtnniohimbmnapaaDoorRows.lean that lists a variable, with what it lists TIED to the program's text (the seventh form; the later family's looks); each row that meets fmt, with fmt's text TOLD by the authors' own Lean function (tested against real Go, not proved from fmt's source: count such statements apart). THE CARD IS WHAT COUNTS. Prove the row's statement (the work); the ties are given (YtnniohimbmnapaaDoorTie.lean); close each card by the builder's one call (the guide's Derived/Test/ToyasCard.lean, 'card_holds'). Laid BY PROGRAM, IN A SANDBOX (cutbox-door.mjs). By AI agents, Wed Nov 11 2026. No macro, syntax, notation, axiom, sorry.
-/
import Derived.Test.YtnniohimbmnapaaDoorRows
import GoSem.ClaimSeven
namespace Go.Proofs.YtnniohimbmnapaaDoor
namespace Rows

/-- THE TIED CARD OF 'screelaw10.FlowWays'. -/
def flowWaysCard : Claim7 := { stood := { row := flowWaysRow, standIns := [], harness := (true, "17a29315892559ab6a461be1fcb76d27d857c75a8ead08c4b58341ac54e9abf6"), looks := false }, kinds := [], alts := [], laidByText := true, laidKinds := [.data], laidTests := true, laidLooks := .later }
def FlowWaysCardSaid : Prop := Claim7.holds Tryd.pinned (.plain (OpenSpec.ofChange flowWaysSpec)) flowWaysCard

/-- THE TIED CARD OF 'screelaw10.FlowReach'. -/
def flowReachCard : Claim7 := { stood := { row := flowReachRow, standIns := [], harness := (true, "17a29315892559ab6a461be1fcb76d27d857c75a8ead08c4b58341ac54e9abf6"), looks := false }, kinds := [], alts := [], laidByText := true, laidKinds := [.data], laidTests := true, laidLooks := .later }
def FlowReachCardSaid : Prop := Claim7.holds Tryd.pinned (.plain (OpenSpec.ofChange flowReachSpec)) flowReachCard

/-- THE TIED CARD OF 'screelaw10.FlowLive'. -/
def flowLiveCard : Claim7 := { stood := { row := flowLiveRow, standIns := [], harness := (true, "17a29315892559ab6a461be1fcb76d27d857c75a8ead08c4b58341ac54e9abf6"), looks := false }, kinds := [], alts := [], laidByText := true, laidKinds := [.data], laidTests := true, laidLooks := .later }
def FlowLiveCardSaid : Prop := Claim7.holds Tryd.pinned (.plain (OpenSpec.ofChange flowLiveSpec)) flowLiveCard

/-- THE TIED CARD OF 'screelaw10.FlowPaths'. -/
def flowPathsCard : Claim7 := { stood := { row := flowPathsRow, standIns := [], harness := (true, "17a29315892559ab6a461be1fcb76d27d857c75a8ead08c4b58341ac54e9abf6"), looks := false }, kinds := [], alts := [], laidByText := true, laidKinds := [.data], laidTests := true, laidLooks := .later }
def FlowPathsCardSaid : Prop := Claim7.holds Tryd.pinned (.plain (OpenSpec.ofChange flowPathsSpec)) flowPathsCard

/-- THE TIED CARD OF 'screelaw10.FlowLess'. -/
def flowLessCard : Claim7 := { stood := { row := flowLessRow, standIns := [], harness := (true, "17a29315892559ab6a461be1fcb76d27d857c75a8ead08c4b58341ac54e9abf6"), looks := false }, kinds := [], alts := [], laidByText := true, laidKinds := [.data], laidTests := true, laidLooks := .later }
def FlowLessCardSaid : Prop := Claim7.holds Tryd.pinned (.plain (OpenSpec.ofChange flowLessSpec)) flowLessCard

/-- THE TIED CARD OF 'screelaw10.FlowKeeps'. -/
def flowKeepsCard : Claim7 := { stood := { row := flowKeepsRow, standIns := [], harness := (true, "17a29315892559ab6a461be1fcb76d27d857c75a8ead08c4b58341ac54e9abf6"), looks := false }, kinds := [], alts := [], laidByText := true, laidKinds := [.data], laidTests := true, laidLooks := .later }
def FlowKeepsCardSaid : Prop := Claim7.holds Tryd.pinned (.plain (OpenSpec.ofChange flowKeepsSpec)) flowKeepsCard

/-- THE TIED CARD OF 'screelaw12.RootsMaps'. -/
def rootsMapsCard : Claim7 := { stood := { row := rootsMapsRow, standIns := [], harness := (true, "17a29315892559ab6a461be1fcb76d27d857c75a8ead08c4b58341ac54e9abf6"), looks := false }, kinds := [], alts := [], laidByText := true, laidKinds := [.data], laidTests := true, laidLooks := .later }
def RootsMapsCardSaid : Prop := Claim7.holds Tryd.pinned (.plain (OpenSpec.ofChange rootsMapsSpec)) rootsMapsCard

/-- THE TIED CARD OF 'screelaw12.RootsBits'. -/
def rootsBitsCard : Claim7 := { stood := { row := rootsBitsRow, standIns := [], harness := (true, "17a29315892559ab6a461be1fcb76d27d857c75a8ead08c4b58341ac54e9abf6"), looks := false }, kinds := [], alts := [], laidByText := true, laidKinds := [.data], laidTests := true, laidLooks := .later }
def RootsBitsCardSaid : Prop := Claim7.holds Tryd.pinned (.plain (OpenSpec.ofChange rootsBitsSpec)) rootsBitsCard

/-- THE TIED CARD OF 'screelaw12.RootsEnough'. -/
def rootsEnoughCard : Claim7 := { stood := { row := rootsEnoughRow, standIns := [], harness := (true, "17a29315892559ab6a461be1fcb76d27d857c75a8ead08c4b58341ac54e9abf6"), looks := false }, kinds := [], alts := [], laidByText := true, laidKinds := [.data], laidTests := true, laidLooks := .later }
def RootsEnoughCardSaid : Prop := Claim7.holds Tryd.pinned (.plain (OpenSpec.ofChange rootsEnoughSpec)) rootsEnoughCard

/-- THE TIED CARD OF 'screelaw12.RootsNoMore'. -/
def rootsNoMoreCard : Claim7 := { stood := { row := rootsNoMoreRow, standIns := [], harness := (true, "17a29315892559ab6a461be1fcb76d27d857c75a8ead08c4b58341ac54e9abf6"), looks := false }, kinds := [], alts := [], laidByText := true, laidKinds := [.data], laidTests := true, laidLooks := .later }
def RootsNoMoreCardSaid : Prop := Claim7.holds Tryd.pinned (.plain (OpenSpec.ofChange rootsNoMoreSpec)) rootsNoMoreCard

/-- THE TIED CARD OF 'screelaw12.RootsKeeps'. -/
def rootsKeepsCard : Claim7 := { stood := { row := rootsKeepsRow, standIns := [], harness := (true, "17a29315892559ab6a461be1fcb76d27d857c75a8ead08c4b58341ac54e9abf6"), looks := false }, kinds := [], alts := [], laidByText := true, laidKinds := [.data], laidTests := true, laidLooks := .later }
def RootsKeepsCardSaid : Prop := Claim7.holds Tryd.pinned (.plain (OpenSpec.ofChange rootsKeepsSpec)) rootsKeepsCard

/-- THE SECOND FORM's CARD OF 'screelaw10.FlowWays'. -/
def flowWaysUptoCard : Claim7 := { stood := { row := flowWaysUptoRow, standIns := [], harness := (true, "17a29315892559ab6a461be1fcb76d27d857c75a8ead08c4b58341ac54e9abf6"), looks := false }, kinds := [], alts := [], laidByText := true, laidKinds := [.data], laidTests := true, laidLooks := .later }
def FlowWaysUptoCardSaid : Prop := Claim7.holds Tryd.pinned (.plain (OpenSpec.upto flowWaysSpec)) flowWaysUptoCard

/-- THE SECOND FORM's CARD OF 'screelaw10.FlowReach'. -/
def flowReachUptoCard : Claim7 := { stood := { row := flowReachUptoRow, standIns := [], harness := (true, "17a29315892559ab6a461be1fcb76d27d857c75a8ead08c4b58341ac54e9abf6"), looks := false }, kinds := [], alts := [], laidByText := true, laidKinds := [.data], laidTests := true, laidLooks := .later }
def FlowReachUptoCardSaid : Prop := Claim7.holds Tryd.pinned (.plain (OpenSpec.upto flowReachSpec)) flowReachUptoCard

/-- THE SECOND FORM's CARD OF 'screelaw10.FlowLive'. -/
def flowLiveUptoCard : Claim7 := { stood := { row := flowLiveUptoRow, standIns := [], harness := (true, "17a29315892559ab6a461be1fcb76d27d857c75a8ead08c4b58341ac54e9abf6"), looks := false }, kinds := [], alts := [], laidByText := true, laidKinds := [.data], laidTests := true, laidLooks := .later }
def FlowLiveUptoCardSaid : Prop := Claim7.holds Tryd.pinned (.plain (OpenSpec.upto flowLiveSpec)) flowLiveUptoCard

/-- THE SECOND FORM's CARD OF 'screelaw10.FlowPaths'. -/
def flowPathsUptoCard : Claim7 := { stood := { row := flowPathsUptoRow, standIns := [], harness := (true, "17a29315892559ab6a461be1fcb76d27d857c75a8ead08c4b58341ac54e9abf6"), looks := false }, kinds := [], alts := [], laidByText := true, laidKinds := [.data], laidTests := true, laidLooks := .later }
def FlowPathsUptoCardSaid : Prop := Claim7.holds Tryd.pinned (.plain (OpenSpec.upto flowPathsSpec)) flowPathsUptoCard

/-- THE SECOND FORM's CARD OF 'screelaw10.FlowLess'. -/
def flowLessUptoCard : Claim7 := { stood := { row := flowLessUptoRow, standIns := [], harness := (true, "17a29315892559ab6a461be1fcb76d27d857c75a8ead08c4b58341ac54e9abf6"), looks := false }, kinds := [], alts := [], laidByText := true, laidKinds := [.data], laidTests := true, laidLooks := .later }
def FlowLessUptoCardSaid : Prop := Claim7.holds Tryd.pinned (.plain (OpenSpec.upto flowLessSpec)) flowLessUptoCard

/-- THE SECOND FORM's CARD OF 'screelaw10.FlowKeeps'. -/
def flowKeepsUptoCard : Claim7 := { stood := { row := flowKeepsUptoRow, standIns := [], harness := (true, "17a29315892559ab6a461be1fcb76d27d857c75a8ead08c4b58341ac54e9abf6"), looks := false }, kinds := [], alts := [], laidByText := true, laidKinds := [.data], laidTests := true, laidLooks := .later }
def FlowKeepsUptoCardSaid : Prop := Claim7.holds Tryd.pinned (.plain (OpenSpec.upto flowKeepsSpec)) flowKeepsUptoCard

/-- THE SECOND FORM's CARD OF 'screelaw12.RootsMaps'. -/
def rootsMapsUptoCard : Claim7 := { stood := { row := rootsMapsUptoRow, standIns := [], harness := (true, "17a29315892559ab6a461be1fcb76d27d857c75a8ead08c4b58341ac54e9abf6"), looks := false }, kinds := [], alts := [], laidByText := true, laidKinds := [.data], laidTests := true, laidLooks := .later }
def RootsMapsUptoCardSaid : Prop := Claim7.holds Tryd.pinned (.plain (OpenSpec.upto rootsMapsSpec)) rootsMapsUptoCard

/-- THE SECOND FORM's CARD OF 'screelaw12.RootsBits'. -/
def rootsBitsUptoCard : Claim7 := { stood := { row := rootsBitsUptoRow, standIns := [], harness := (true, "17a29315892559ab6a461be1fcb76d27d857c75a8ead08c4b58341ac54e9abf6"), looks := false }, kinds := [], alts := [], laidByText := true, laidKinds := [.data], laidTests := true, laidLooks := .later }
def RootsBitsUptoCardSaid : Prop := Claim7.holds Tryd.pinned (.plain (OpenSpec.upto rootsBitsSpec)) rootsBitsUptoCard

/-- THE SECOND FORM's CARD OF 'screelaw12.RootsEnough'. -/
def rootsEnoughUptoCard : Claim7 := { stood := { row := rootsEnoughUptoRow, standIns := [], harness := (true, "17a29315892559ab6a461be1fcb76d27d857c75a8ead08c4b58341ac54e9abf6"), looks := false }, kinds := [], alts := [], laidByText := true, laidKinds := [.data], laidTests := true, laidLooks := .later }
def RootsEnoughUptoCardSaid : Prop := Claim7.holds Tryd.pinned (.plain (OpenSpec.upto rootsEnoughSpec)) rootsEnoughUptoCard

/-- THE SECOND FORM's CARD OF 'screelaw12.RootsNoMore'. -/
def rootsNoMoreUptoCard : Claim7 := { stood := { row := rootsNoMoreUptoRow, standIns := [], harness := (true, "17a29315892559ab6a461be1fcb76d27d857c75a8ead08c4b58341ac54e9abf6"), looks := false }, kinds := [], alts := [], laidByText := true, laidKinds := [.data], laidTests := true, laidLooks := .later }
def RootsNoMoreUptoCardSaid : Prop := Claim7.holds Tryd.pinned (.plain (OpenSpec.upto rootsNoMoreSpec)) rootsNoMoreUptoCard

/-- THE SECOND FORM's CARD OF 'screelaw12.RootsKeeps'. -/
def rootsKeepsUptoCard : Claim7 := { stood := { row := rootsKeepsUptoRow, standIns := [], harness := (true, "17a29315892559ab6a461be1fcb76d27d857c75a8ead08c4b58341ac54e9abf6"), looks := false }, kinds := [], alts := [], laidByText := true, laidKinds := [.data], laidTests := true, laidLooks := .later }
def RootsKeepsUptoCardSaid : Prop := Claim7.holds Tryd.pinned (.plain (OpenSpec.upto rootsKeepsSpec)) rootsKeepsUptoCard
end Rows
end Go.Proofs.YtnniohimbmnapaaDoor
