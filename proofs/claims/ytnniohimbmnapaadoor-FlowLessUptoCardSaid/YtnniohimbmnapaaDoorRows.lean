/-
  NARROWER THAN 'FOR EVERY INPUT', by the rows' own cells (each row's printed sentence says how): FlowWays: laid · FlowReach: laid · FlowLive: laid · FlowPaths: laid · FlowLess: laid · FlowKeeps: laid · RootsMaps: laid · RootsBits: laid · RootsEnough: laid · RootsNoMore: laid · RootsKeeps: laid.
  DERIVED. THE GIVEN ROWS OF THIS SEAT. 11 by the template 'for every input the law returns true; each argument reads behind the call as it read before'; 0 by the template 'total and deterministic' (their statements: YtnniohimbmnapaaDoorTotals.lean).
  GIVEN WITH THE SEED: the statements are not yours to turn. If you find one false, say at which input.
  Laid BY PROGRAM, IN A SANDBOX (cutbox-rows.mjs): the forced cells as the released guide's own fill.sh prints them over the translation ef204ad83c4222ab… (all of the seat's roots in one cut). By AI agents, Wed Nov 11 2026. No macro, syntax, notation, axiom, sorry.
-/
import Derived.Test.YtnniohimbmnapaaDoorChecked
import GoSem.Claim
import GoSem.ClaimJoined
import GoSem.ClaimMapViews
import Derived.JoinedTies
import Derived.KernelRfl
namespace Go.Proofs.YtnniohimbmnapaaDoor
/- THE CELL 'sum', in the pinned program and in every row, IS THE sha256 OF THE DUMP (.gsa) THAT YtnniohimbmnapaaDoorProg.lean LOADS. Nothing in Lean hashes anything: it is a label: what it is worth is what the hold of that sum in a sandbox is worth. -/
noncomputable def Tryd.pinned : Pinned := { name := "ytnniohimbmnapaadoor", sum := "ef204ad83c4222ab90754524182c3f3fd369636fe0703ec712f66baed22e3f67", checked := Tryd.checked }
namespace Rows
def none {H : Type} : Left H := { results := [], args := [] }

/- WHAT THE LISTED PACKAGE-LEVEL VARIABLES READ AS WHEN THE CALL BEGINS. Each datum BY PROGRAM (the guide's laid-datum.mjs) off the statement by which the dump's own 'gosem.cut.vars' lays the variable. In a bare row this is a premise. The card (YtnniohimbmnapaaDoorCards.lean) ties it to the program's text. -/
def laid_scree_code_uses {H : Type} : DataW H := .agg [.lit (.int .i64 256), .lit (.int .i64 320), .lit (.int .i64 321), .lit (.int .i64 65), .lit (.int .i64 3), .lit (.int .i64 257), .lit (.int .i64 65), .lit (.int .i64 66), .lit (.int .i64 64), .lit (.int .i64 1), .lit (.int .i64 3), .lit (.int .i64 6), .lit (.int .i64 2), .lit (.int .i64 65), .lit (.int .i64 71), .lit (.int .i64 67), .lit (.int .i64 71), .lit (.int .i64 3), .lit (.int .i64 416), .lit (.int .i64 34), .lit (.int .i64 34), .lit (.int .i64 11), .lit (.int .i64 67), .lit (.int .i64 70), .lit (.int .i64 7), .lit (.int .i64 14), .lit (.int .i64 6), .lit (.int .i64 11), .lit (.int .i64 9), .lit (.int .i64 9), .lit (.int .i64 9), .lit (.int .i64 9), .lit (.int .i64 6), .lit (.int .i64 6), .lit (.int .i64 66), .lit (.int .i64 18), .lit (.int .i64 73), .lit (.int .i64 73), .lit (.int .i64 3), .lit (.int .i64 35), .lit (.int .i64 3), .lit (.int .i64 130), .lit (.int .i64 130), .lit (.int .i64 7), .lit (.int .i64 65)]

/-- 'screelaw10.FlowWays': WHATEVER THE INPUT: true; the input reads as it did. -/
def flowWaysSpec : ChangeSpec := { name := "flowWays", fn := fun _ => fun
  | [d1, d2] => { results := [.lit (.bool true)], args := [d1, d2] }
  | _ => none }
def flowWaysRow : OpenClaim := { program := "ytnniohimbmnapaadoor", sum := "ef204ad83c4222ab90754524182c3f3fd369636fe0703ec712f66baed22e3f67", func := "scree/screelaw10.FlowWays", spec := "flowWays", unfollowed := true, recurses := true, named := ["scree/code.uses"], apart := false, laid := [("scree/code.uses", laid_scree_code_uses)] }
def FlowWaysSaid : Prop := flowWaysRow.holds Tryd.pinned (OpenSpec.ofChange flowWaysSpec)

/-- ITS FALSE NEIGHBOUR: 'it returns false'. Refute it at one input. -/
def flowWaysWrong : ChangeSpec := { name := "flowWays", fn := fun _ => fun
  | [d1, d2] => { results := [.lit (.bool false)], args := [d1, d2] }
  | _ => none }
def FlowWaysWrongFalsely : Prop := flowWaysRow.holds Tryd.pinned (OpenSpec.ofChange flowWaysWrong)

/-- 'screelaw10.FlowReach': WHATEVER THE INPUT: true; the input reads as it did. -/
def flowReachSpec : ChangeSpec := { name := "flowReach", fn := fun _ => fun
  | [d] => { results := [.lit (.bool true)], args := [d] }
  | _ => none }
def flowReachRow : OpenClaim := { program := "ytnniohimbmnapaadoor", sum := "ef204ad83c4222ab90754524182c3f3fd369636fe0703ec712f66baed22e3f67", func := "scree/screelaw10.FlowReach", spec := "flowReach", unfollowed := true, recurses := true, named := ["scree/code.uses"], apart := false, laid := [("scree/code.uses", laid_scree_code_uses)] }
def FlowReachSaid : Prop := flowReachRow.holds Tryd.pinned (OpenSpec.ofChange flowReachSpec)

/-- ITS FALSE NEIGHBOUR: 'it returns false'. Refute it at one input. -/
def flowReachWrong : ChangeSpec := { name := "flowReach", fn := fun _ => fun
  | [d] => { results := [.lit (.bool false)], args := [d] }
  | _ => none }
def FlowReachWrongFalsely : Prop := flowReachRow.holds Tryd.pinned (OpenSpec.ofChange flowReachWrong)

/-- 'screelaw10.FlowLive': WHATEVER THE INPUT: true; the input reads as it did. -/
def flowLiveSpec : ChangeSpec := { name := "flowLive", fn := fun _ => fun
  | [d] => { results := [.lit (.bool true)], args := [d] }
  | _ => none }
def flowLiveRow : OpenClaim := { program := "ytnniohimbmnapaadoor", sum := "ef204ad83c4222ab90754524182c3f3fd369636fe0703ec712f66baed22e3f67", func := "scree/screelaw10.FlowLive", spec := "flowLive", unfollowed := true, recurses := true, named := ["scree/code.uses"], apart := false, laid := [("scree/code.uses", laid_scree_code_uses)] }
def FlowLiveSaid : Prop := flowLiveRow.holds Tryd.pinned (OpenSpec.ofChange flowLiveSpec)

/-- ITS FALSE NEIGHBOUR: 'it returns false'. Refute it at one input. -/
def flowLiveWrong : ChangeSpec := { name := "flowLive", fn := fun _ => fun
  | [d] => { results := [.lit (.bool false)], args := [d] }
  | _ => none }
def FlowLiveWrongFalsely : Prop := flowLiveRow.holds Tryd.pinned (OpenSpec.ofChange flowLiveWrong)

/-- 'screelaw10.FlowPaths': WHATEVER THE INPUT: true; the input reads as it did. -/
def flowPathsSpec : ChangeSpec := { name := "flowPaths", fn := fun _ => fun
  | [d1, d2, d3] => { results := [.lit (.bool true)], args := [d1, d2, d3] }
  | _ => none }
def flowPathsRow : OpenClaim := { program := "ytnniohimbmnapaadoor", sum := "ef204ad83c4222ab90754524182c3f3fd369636fe0703ec712f66baed22e3f67", func := "scree/screelaw10.FlowPaths", spec := "flowPaths", unfollowed := true, recurses := true, named := ["scree/code.uses"], apart := false, laid := [("scree/code.uses", laid_scree_code_uses)] }
def FlowPathsSaid : Prop := flowPathsRow.holds Tryd.pinned (OpenSpec.ofChange flowPathsSpec)

/-- ITS FALSE NEIGHBOUR: 'it returns false'. Refute it at one input. -/
def flowPathsWrong : ChangeSpec := { name := "flowPaths", fn := fun _ => fun
  | [d1, d2, d3] => { results := [.lit (.bool false)], args := [d1, d2, d3] }
  | _ => none }
def FlowPathsWrongFalsely : Prop := flowPathsRow.holds Tryd.pinned (OpenSpec.ofChange flowPathsWrong)

/-- 'screelaw10.FlowLess': WHATEVER THE INPUT: true; the input reads as it did. -/
def flowLessSpec : ChangeSpec := { name := "flowLess", fn := fun _ => fun
  | [d1, d2] => { results := [.lit (.bool true)], args := [d1, d2] }
  | _ => none }
def flowLessRow : OpenClaim := { program := "ytnniohimbmnapaadoor", sum := "ef204ad83c4222ab90754524182c3f3fd369636fe0703ec712f66baed22e3f67", func := "scree/screelaw10.FlowLess", spec := "flowLess", unfollowed := true, recurses := true, named := ["scree/code.uses"], apart := false, laid := [("scree/code.uses", laid_scree_code_uses)] }
def FlowLessSaid : Prop := flowLessRow.holds Tryd.pinned (OpenSpec.ofChange flowLessSpec)

/-- ITS FALSE NEIGHBOUR: 'it returns false'. Refute it at one input. -/
def flowLessWrong : ChangeSpec := { name := "flowLess", fn := fun _ => fun
  | [d1, d2] => { results := [.lit (.bool false)], args := [d1, d2] }
  | _ => none }
def FlowLessWrongFalsely : Prop := flowLessRow.holds Tryd.pinned (OpenSpec.ofChange flowLessWrong)

/-- 'screelaw10.FlowKeeps': WHATEVER THE INPUT: true; the input reads as it did. -/
def flowKeepsSpec : ChangeSpec := { name := "flowKeeps", fn := fun _ => fun
  | [d] => { results := [.lit (.bool true)], args := [d] }
  | _ => none }
def flowKeepsRow : OpenClaim := { program := "ytnniohimbmnapaadoor", sum := "ef204ad83c4222ab90754524182c3f3fd369636fe0703ec712f66baed22e3f67", func := "scree/screelaw10.FlowKeeps", spec := "flowKeeps", unfollowed := true, recurses := true, named := ["scree/code.uses"], apart := false, laid := [("scree/code.uses", laid_scree_code_uses)] }
def FlowKeepsSaid : Prop := flowKeepsRow.holds Tryd.pinned (OpenSpec.ofChange flowKeepsSpec)

/-- ITS FALSE NEIGHBOUR: 'it returns false'. Refute it at one input. -/
def flowKeepsWrong : ChangeSpec := { name := "flowKeeps", fn := fun _ => fun
  | [d] => { results := [.lit (.bool false)], args := [d] }
  | _ => none }
def FlowKeepsWrongFalsely : Prop := flowKeepsRow.holds Tryd.pinned (OpenSpec.ofChange flowKeepsWrong)

/-- 'screelaw12.RootsMaps': WHATEVER THE INPUT: true; the input reads as it did. -/
def rootsMapsSpec : ChangeSpec := { name := "rootsMaps", fn := fun _ => fun
  | [d] => { results := [.lit (.bool true)], args := [d] }
  | _ => none }
def rootsMapsRow : OpenClaim := { program := "ytnniohimbmnapaadoor", sum := "ef204ad83c4222ab90754524182c3f3fd369636fe0703ec712f66baed22e3f67", func := "scree/screelaw12.RootsMaps", spec := "rootsMaps", unfollowed := true, recurses := true, named := ["scree/code.uses"], apart := false, laid := [("scree/code.uses", laid_scree_code_uses)] }
def RootsMapsSaid : Prop := rootsMapsRow.holds Tryd.pinned (OpenSpec.ofChange rootsMapsSpec)

/-- ITS FALSE NEIGHBOUR: 'it returns false'. Refute it at one input. -/
def rootsMapsWrong : ChangeSpec := { name := "rootsMaps", fn := fun _ => fun
  | [d] => { results := [.lit (.bool false)], args := [d] }
  | _ => none }
def RootsMapsWrongFalsely : Prop := rootsMapsRow.holds Tryd.pinned (OpenSpec.ofChange rootsMapsWrong)

/-- 'screelaw12.RootsBits': WHATEVER THE INPUT: true; the input reads as it did. -/
def rootsBitsSpec : ChangeSpec := { name := "rootsBits", fn := fun _ => fun
  | [d1, d2] => { results := [.lit (.bool true)], args := [d1, d2] }
  | _ => none }
def rootsBitsRow : OpenClaim := { program := "ytnniohimbmnapaadoor", sum := "ef204ad83c4222ab90754524182c3f3fd369636fe0703ec712f66baed22e3f67", func := "scree/screelaw12.RootsBits", spec := "rootsBits", unfollowed := true, recurses := true, named := ["scree/code.uses"], apart := false, laid := [("scree/code.uses", laid_scree_code_uses)] }
def RootsBitsSaid : Prop := rootsBitsRow.holds Tryd.pinned (OpenSpec.ofChange rootsBitsSpec)

/-- ITS FALSE NEIGHBOUR: 'it returns false'. Refute it at one input. -/
def rootsBitsWrong : ChangeSpec := { name := "rootsBits", fn := fun _ => fun
  | [d1, d2] => { results := [.lit (.bool false)], args := [d1, d2] }
  | _ => none }
def RootsBitsWrongFalsely : Prop := rootsBitsRow.holds Tryd.pinned (OpenSpec.ofChange rootsBitsWrong)

/-- 'screelaw12.RootsEnough': WHATEVER THE INPUT: true; the input reads as it did. -/
def rootsEnoughSpec : ChangeSpec := { name := "rootsEnough", fn := fun _ => fun
  | [d1, d2, d3] => { results := [.lit (.bool true)], args := [d1, d2, d3] }
  | _ => none }
def rootsEnoughRow : OpenClaim := { program := "ytnniohimbmnapaadoor", sum := "ef204ad83c4222ab90754524182c3f3fd369636fe0703ec712f66baed22e3f67", func := "scree/screelaw12.RootsEnough", spec := "rootsEnough", unfollowed := true, recurses := true, named := ["scree/code.uses"], apart := false, laid := [("scree/code.uses", laid_scree_code_uses)] }
def RootsEnoughSaid : Prop := rootsEnoughRow.holds Tryd.pinned (OpenSpec.ofChange rootsEnoughSpec)

/-- ITS FALSE NEIGHBOUR: 'it returns false'. Refute it at one input. -/
def rootsEnoughWrong : ChangeSpec := { name := "rootsEnough", fn := fun _ => fun
  | [d1, d2, d3] => { results := [.lit (.bool false)], args := [d1, d2, d3] }
  | _ => none }
def RootsEnoughWrongFalsely : Prop := rootsEnoughRow.holds Tryd.pinned (OpenSpec.ofChange rootsEnoughWrong)

/-- 'screelaw12.RootsNoMore': WHATEVER THE INPUT: true; the input reads as it did. -/
def rootsNoMoreSpec : ChangeSpec := { name := "rootsNoMore", fn := fun _ => fun
  | [d1, d2] => { results := [.lit (.bool true)], args := [d1, d2] }
  | _ => none }
def rootsNoMoreRow : OpenClaim := { program := "ytnniohimbmnapaadoor", sum := "ef204ad83c4222ab90754524182c3f3fd369636fe0703ec712f66baed22e3f67", func := "scree/screelaw12.RootsNoMore", spec := "rootsNoMore", unfollowed := true, recurses := true, named := ["scree/code.uses"], apart := false, laid := [("scree/code.uses", laid_scree_code_uses)] }
def RootsNoMoreSaid : Prop := rootsNoMoreRow.holds Tryd.pinned (OpenSpec.ofChange rootsNoMoreSpec)

/-- ITS FALSE NEIGHBOUR: 'it returns false'. Refute it at one input. -/
def rootsNoMoreWrong : ChangeSpec := { name := "rootsNoMore", fn := fun _ => fun
  | [d1, d2] => { results := [.lit (.bool false)], args := [d1, d2] }
  | _ => none }
def RootsNoMoreWrongFalsely : Prop := rootsNoMoreRow.holds Tryd.pinned (OpenSpec.ofChange rootsNoMoreWrong)

/-- 'screelaw12.RootsKeeps': WHATEVER THE INPUT: true; the input reads as it did. -/
def rootsKeepsSpec : ChangeSpec := { name := "rootsKeeps", fn := fun _ => fun
  | [d] => { results := [.lit (.bool true)], args := [d] }
  | _ => none }
def rootsKeepsRow : OpenClaim := { program := "ytnniohimbmnapaadoor", sum := "ef204ad83c4222ab90754524182c3f3fd369636fe0703ec712f66baed22e3f67", func := "scree/screelaw12.RootsKeeps", spec := "rootsKeeps", unfollowed := true, recurses := true, named := ["scree/code.uses"], apart := false, laid := [("scree/code.uses", laid_scree_code_uses)] }
def RootsKeepsSaid : Prop := rootsKeepsRow.holds Tryd.pinned (OpenSpec.ofChange rootsKeepsSpec)

/-- ITS FALSE NEIGHBOUR: 'it returns false'. Refute it at one input. -/
def rootsKeepsWrong : ChangeSpec := { name := "rootsKeeps", fn := fun _ => fun
  | [d] => { results := [.lit (.bool false)], args := [d] }
  | _ => none }
def RootsKeepsWrongFalsely : Prop := rootsKeepsRow.holds Tryd.pinned (OpenSpec.ofChange rootsKeepsWrong)

/- THE SECOND FORM. 'bulk': how many values and letters a reading holds, each counted each time it is reached (what is shared counts as often as it is met; a slice's spare places count too). A statement '..UptoSaid' is the law's where the arguments, and the package variables that the reading takes, are together of bulk at most 1048576: NARROWER than '..Said'. Prove '..Said' where nothing that the law and all that it calls make is longer than what came in: it says more and counts as full. Else prove '..UptoSaid'. A law counts once. -/
mutual
def uptoBulk {H : Type} : DataW H → Nat
  | .lit (.string bytes) => bytes.length + 1
  | .lit _ => 1
  | .nil => 1
  | .ptr d => uptoBulk d + 1
  | .slice elems spare => uptoBulkAll elems + uptoBulkAll spare + 1
  | .agg parts => uptoBulkAll parts + 1
  | .iface _ d => uptoBulk d + 1
  | .map entries => uptoBulkEntries entries + 1
  | .held _ => 1
def uptoBulkAll {H : Type} : List (DataW H) → Nat
  | [] => 0
  | d :: r => uptoBulk d + uptoBulkAll r
def uptoBulkEntries {H : Type} : List (Lit × DataW H) → Nat
  | [] => 0
  | x :: r => uptoBulkEntry x + uptoBulkEntries r
def uptoBulkEntry {H : Type} : Lit × DataW H → Nat
  | (.string bytes, d) => bytes.length + uptoBulk d + 1
  | (_, d) => uptoBulk d + 1
 end
def uptoSmall : (H : Type) → List (DataW H) → Bool := fun _ ds => decide (uptoBulkAll ds ≤ 1048576)
def OpenSpec.upto (s : _root_.Go.ChangeSpec) : _root_.Go.OpenSpec := { _root_.Go.OpenSpec.ofChange s with cond := some uptoSmall }

/-- 'screelaw10.FlowWays', WHERE WHAT IT READS IS OF BULK AT MOST 1048576: true; the input reads as it did. -/
def flowWaysUptoRow : OpenClaim := { program := "ytnniohimbmnapaadoor", sum := "ef204ad83c4222ab90754524182c3f3fd369636fe0703ec712f66baed22e3f67", func := "scree/screelaw10.FlowWays", spec := "flowWays", unfollowed := true, recurses := true, named := ["scree/code.uses"], apart := false, laid := [("scree/code.uses", laid_scree_code_uses)], narrowed := true }
def FlowWaysUptoSaid : Prop := flowWaysUptoRow.holds Tryd.pinned (OpenSpec.upto flowWaysSpec)

/-- 'screelaw10.FlowReach', WHERE WHAT IT READS IS OF BULK AT MOST 1048576: true; the input reads as it did. -/
def flowReachUptoRow : OpenClaim := { program := "ytnniohimbmnapaadoor", sum := "ef204ad83c4222ab90754524182c3f3fd369636fe0703ec712f66baed22e3f67", func := "scree/screelaw10.FlowReach", spec := "flowReach", unfollowed := true, recurses := true, named := ["scree/code.uses"], apart := false, laid := [("scree/code.uses", laid_scree_code_uses)], narrowed := true }
def FlowReachUptoSaid : Prop := flowReachUptoRow.holds Tryd.pinned (OpenSpec.upto flowReachSpec)

/-- 'screelaw10.FlowLive', WHERE WHAT IT READS IS OF BULK AT MOST 1048576: true; the input reads as it did. -/
def flowLiveUptoRow : OpenClaim := { program := "ytnniohimbmnapaadoor", sum := "ef204ad83c4222ab90754524182c3f3fd369636fe0703ec712f66baed22e3f67", func := "scree/screelaw10.FlowLive", spec := "flowLive", unfollowed := true, recurses := true, named := ["scree/code.uses"], apart := false, laid := [("scree/code.uses", laid_scree_code_uses)], narrowed := true }
def FlowLiveUptoSaid : Prop := flowLiveUptoRow.holds Tryd.pinned (OpenSpec.upto flowLiveSpec)

/-- 'screelaw10.FlowPaths', WHERE WHAT IT READS IS OF BULK AT MOST 1048576: true; the input reads as it did. -/
def flowPathsUptoRow : OpenClaim := { program := "ytnniohimbmnapaadoor", sum := "ef204ad83c4222ab90754524182c3f3fd369636fe0703ec712f66baed22e3f67", func := "scree/screelaw10.FlowPaths", spec := "flowPaths", unfollowed := true, recurses := true, named := ["scree/code.uses"], apart := false, laid := [("scree/code.uses", laid_scree_code_uses)], narrowed := true }
def FlowPathsUptoSaid : Prop := flowPathsUptoRow.holds Tryd.pinned (OpenSpec.upto flowPathsSpec)

/-- 'screelaw10.FlowLess', WHERE WHAT IT READS IS OF BULK AT MOST 1048576: true; the input reads as it did. -/
def flowLessUptoRow : OpenClaim := { program := "ytnniohimbmnapaadoor", sum := "ef204ad83c4222ab90754524182c3f3fd369636fe0703ec712f66baed22e3f67", func := "scree/screelaw10.FlowLess", spec := "flowLess", unfollowed := true, recurses := true, named := ["scree/code.uses"], apart := false, laid := [("scree/code.uses", laid_scree_code_uses)], narrowed := true }
def FlowLessUptoSaid : Prop := flowLessUptoRow.holds Tryd.pinned (OpenSpec.upto flowLessSpec)

/-- 'screelaw10.FlowKeeps', WHERE WHAT IT READS IS OF BULK AT MOST 1048576: true; the input reads as it did. -/
def flowKeepsUptoRow : OpenClaim := { program := "ytnniohimbmnapaadoor", sum := "ef204ad83c4222ab90754524182c3f3fd369636fe0703ec712f66baed22e3f67", func := "scree/screelaw10.FlowKeeps", spec := "flowKeeps", unfollowed := true, recurses := true, named := ["scree/code.uses"], apart := false, laid := [("scree/code.uses", laid_scree_code_uses)], narrowed := true }
def FlowKeepsUptoSaid : Prop := flowKeepsUptoRow.holds Tryd.pinned (OpenSpec.upto flowKeepsSpec)

/-- 'screelaw12.RootsMaps', WHERE WHAT IT READS IS OF BULK AT MOST 1048576: true; the input reads as it did. -/
def rootsMapsUptoRow : OpenClaim := { program := "ytnniohimbmnapaadoor", sum := "ef204ad83c4222ab90754524182c3f3fd369636fe0703ec712f66baed22e3f67", func := "scree/screelaw12.RootsMaps", spec := "rootsMaps", unfollowed := true, recurses := true, named := ["scree/code.uses"], apart := false, laid := [("scree/code.uses", laid_scree_code_uses)], narrowed := true }
def RootsMapsUptoSaid : Prop := rootsMapsUptoRow.holds Tryd.pinned (OpenSpec.upto rootsMapsSpec)

/-- 'screelaw12.RootsBits', WHERE WHAT IT READS IS OF BULK AT MOST 1048576: true; the input reads as it did. -/
def rootsBitsUptoRow : OpenClaim := { program := "ytnniohimbmnapaadoor", sum := "ef204ad83c4222ab90754524182c3f3fd369636fe0703ec712f66baed22e3f67", func := "scree/screelaw12.RootsBits", spec := "rootsBits", unfollowed := true, recurses := true, named := ["scree/code.uses"], apart := false, laid := [("scree/code.uses", laid_scree_code_uses)], narrowed := true }
def RootsBitsUptoSaid : Prop := rootsBitsUptoRow.holds Tryd.pinned (OpenSpec.upto rootsBitsSpec)

/-- 'screelaw12.RootsEnough', WHERE WHAT IT READS IS OF BULK AT MOST 1048576: true; the input reads as it did. -/
def rootsEnoughUptoRow : OpenClaim := { program := "ytnniohimbmnapaadoor", sum := "ef204ad83c4222ab90754524182c3f3fd369636fe0703ec712f66baed22e3f67", func := "scree/screelaw12.RootsEnough", spec := "rootsEnough", unfollowed := true, recurses := true, named := ["scree/code.uses"], apart := false, laid := [("scree/code.uses", laid_scree_code_uses)], narrowed := true }
def RootsEnoughUptoSaid : Prop := rootsEnoughUptoRow.holds Tryd.pinned (OpenSpec.upto rootsEnoughSpec)

/-- 'screelaw12.RootsNoMore', WHERE WHAT IT READS IS OF BULK AT MOST 1048576: true; the input reads as it did. -/
def rootsNoMoreUptoRow : OpenClaim := { program := "ytnniohimbmnapaadoor", sum := "ef204ad83c4222ab90754524182c3f3fd369636fe0703ec712f66baed22e3f67", func := "scree/screelaw12.RootsNoMore", spec := "rootsNoMore", unfollowed := true, recurses := true, named := ["scree/code.uses"], apart := false, laid := [("scree/code.uses", laid_scree_code_uses)], narrowed := true }
def RootsNoMoreUptoSaid : Prop := rootsNoMoreUptoRow.holds Tryd.pinned (OpenSpec.upto rootsNoMoreSpec)

/-- 'screelaw12.RootsKeeps', WHERE WHAT IT READS IS OF BULK AT MOST 1048576: true; the input reads as it did. -/
def rootsKeepsUptoRow : OpenClaim := { program := "ytnniohimbmnapaadoor", sum := "ef204ad83c4222ab90754524182c3f3fd369636fe0703ec712f66baed22e3f67", func := "scree/screelaw12.RootsKeeps", spec := "rootsKeeps", unfollowed := true, recurses := true, named := ["scree/code.uses"], apart := false, laid := [("scree/code.uses", laid_scree_code_uses)], narrowed := true }
def RootsKeepsUptoSaid : Prop := rootsKeepsUptoRow.holds Tryd.pinned (OpenSpec.upto rootsKeepsSpec)

end Rows
end Go.Proofs.YtnniohimbmnapaaDoor
