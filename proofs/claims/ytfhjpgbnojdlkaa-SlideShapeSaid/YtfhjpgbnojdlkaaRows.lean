/-
  No cell of these rows narrows 'for every input' (looked for: loops, veiled, ifaces, maps, wideKeys, modest, calm, conditions, laid).
  DERIVED. THE GIVEN ROWS OF THIS SEAT. 8 by the template 'for every input the law returns true; each argument reads behind the call as it read before'; 0 by the template 'total and deterministic' (their statements: YtfhjpgbnojdlkaaTotals.lean).
  GIVEN WITH THE SEED: the statements are not yours to turn. If you find one false, say at which input.
  Laid BY PROGRAM, IN A SANDBOX (cutbox-rows.mjs): the forced cells as the released guide's own fill.sh prints them over the translation 41fc26062f92e0cb… (all of the seat's roots in one cut). By AI agents, Wed Nov 11 2026. No macro, syntax, notation, axiom, sorry.
-/
import Derived.Test.YtfhjpgbnojdlkaaChecked
import GoSem.Claim
import GoSem.ClaimJoined
import GoSem.ClaimMapViews
import Derived.JoinedTies
import Derived.KernelRfl
namespace Go.Proofs.Ytfhjpgbnojdlkaa
/- THE CELL 'sum', in the pinned program and in every row, IS THE sha256 OF THE DUMP (.gsa) THAT YtfhjpgbnojdlkaaProg.lean LOADS. Nothing in Lean hashes anything: it is a label: what it is worth is what the hold of that sum in a sandbox is worth. -/
noncomputable def Try.pinned : Pinned := { name := "ytfhjpgbnojdlkaa", sum := "41fc26062f92e0cbd82ddfc71074f26785231a533584e95aff4f5ac1721fc10a", checked := Try.checked }
namespace Rows
def none {H : Type} : Left H := { results := [], args := [] }

/-- 'screelaw14.SlideReaches': WHATEVER THE INPUT: true; the input reads as it did. -/
def slideReachesSpec : ChangeSpec := { name := "slideReaches", fn := fun _ => fun
  | [d1, d2] => { results := [.lit (.bool true)], args := [d1, d2] }
  | _ => none }
def slideReachesRow : OpenClaim := { program := "ytfhjpgbnojdlkaa", sum := "41fc26062f92e0cbd82ddfc71074f26785231a533584e95aff4f5ac1721fc10a", func := "scree/screelaw14.SlideReaches", spec := "slideReaches", unfollowed := true, recurses := true, apart := false }
def SlideReachesSaid : Prop := slideReachesRow.holds Try.pinned (OpenSpec.ofChange slideReachesSpec)

/-- ITS FALSE NEIGHBOUR: 'it returns false'. Refute it at one input. -/
def slideReachesWrong : ChangeSpec := { name := "slideReaches", fn := fun _ => fun
  | [d1, d2] => { results := [.lit (.bool false)], args := [d1, d2] }
  | _ => none }
def SlideReachesWrongFalsely : Prop := slideReachesRow.holds Try.pinned (OpenSpec.ofChange slideReachesWrong)

/-- 'screelaw14.SlideCollects': WHATEVER THE INPUT: true; the input reads as it did. -/
def slideCollectsSpec : ChangeSpec := { name := "slideCollects", fn := fun _ => fun
  | [d1, d2] => { results := [.lit (.bool true)], args := [d1, d2] }
  | _ => none }
def slideCollectsRow : OpenClaim := { program := "ytfhjpgbnojdlkaa", sum := "41fc26062f92e0cbd82ddfc71074f26785231a533584e95aff4f5ac1721fc10a", func := "scree/screelaw14.SlideCollects", spec := "slideCollects", unfollowed := true, recurses := true, apart := false }
def SlideCollectsSaid : Prop := slideCollectsRow.holds Try.pinned (OpenSpec.ofChange slideCollectsSpec)

/-- ITS FALSE NEIGHBOUR: 'it returns false'. Refute it at one input. -/
def slideCollectsWrong : ChangeSpec := { name := "slideCollects", fn := fun _ => fun
  | [d1, d2] => { results := [.lit (.bool false)], args := [d1, d2] }
  | _ => none }
def SlideCollectsWrongFalsely : Prop := slideCollectsRow.holds Try.pinned (OpenSpec.ofChange slideCollectsWrong)

/-- 'screelaw14.SlideShape': WHATEVER THE INPUT: true; the input reads as it did. -/
def slideShapeSpec : ChangeSpec := { name := "slideShape", fn := fun _ => fun
  | [d1, d2] => { results := [.lit (.bool true)], args := [d1, d2] }
  | _ => none }
def slideShapeRow : OpenClaim := { program := "ytfhjpgbnojdlkaa", sum := "41fc26062f92e0cbd82ddfc71074f26785231a533584e95aff4f5ac1721fc10a", func := "scree/screelaw14.SlideShape", spec := "slideShape", unfollowed := true, recurses := true, apart := false }
def SlideShapeSaid : Prop := slideShapeRow.holds Try.pinned (OpenSpec.ofChange slideShapeSpec)

/-- ITS FALSE NEIGHBOUR: 'it returns false'. Refute it at one input. -/
def slideShapeWrong : ChangeSpec := { name := "slideShape", fn := fun _ => fun
  | [d1, d2] => { results := [.lit (.bool false)], args := [d1, d2] }
  | _ => none }
def SlideShapeWrongFalsely : Prop := slideShapeRow.holds Try.pinned (OpenSpec.ofChange slideShapeWrong)

/-- 'screelaw14.SlideOrder': WHATEVER THE INPUT: true; the input reads as it did. -/
def slideOrderSpec : ChangeSpec := { name := "slideOrder", fn := fun _ => fun
  | [d1, d2] => { results := [.lit (.bool true)], args := [d1, d2] }
  | _ => none }
def slideOrderRow : OpenClaim := { program := "ytfhjpgbnojdlkaa", sum := "41fc26062f92e0cbd82ddfc71074f26785231a533584e95aff4f5ac1721fc10a", func := "scree/screelaw14.SlideOrder", spec := "slideOrder", unfollowed := true, recurses := true, apart := false }
def SlideOrderSaid : Prop := slideOrderRow.holds Try.pinned (OpenSpec.ofChange slideOrderSpec)

/-- ITS FALSE NEIGHBOUR: 'it returns false'. Refute it at one input. -/
def slideOrderWrong : ChangeSpec := { name := "slideOrder", fn := fun _ => fun
  | [d1, d2] => { results := [.lit (.bool false)], args := [d1, d2] }
  | _ => none }
def SlideOrderWrongFalsely : Prop := slideOrderRow.holds Try.pinned (OpenSpec.ofChange slideOrderWrong)

/-- 'screelaw14.SlideTwice': WHATEVER THE INPUT: true; the input reads as it did. -/
def slideTwiceSpec : ChangeSpec := { name := "slideTwice", fn := fun _ => fun
  | [d1, d2, d3] => { results := [.lit (.bool true)], args := [d1, d2, d3] }
  | _ => none }
def slideTwiceRow : OpenClaim := { program := "ytfhjpgbnojdlkaa", sum := "41fc26062f92e0cbd82ddfc71074f26785231a533584e95aff4f5ac1721fc10a", func := "scree/screelaw14.SlideTwice", spec := "slideTwice", unfollowed := true, recurses := true, apart := false }
def SlideTwiceSaid : Prop := slideTwiceRow.holds Try.pinned (OpenSpec.ofChange slideTwiceSpec)

/-- ITS FALSE NEIGHBOUR: 'it returns false'. Refute it at one input. -/
def slideTwiceWrong : ChangeSpec := { name := "slideTwice", fn := fun _ => fun
  | [d1, d2, d3] => { results := [.lit (.bool false)], args := [d1, d2, d3] }
  | _ => none }
def SlideTwiceWrongFalsely : Prop := slideTwiceRow.holds Try.pinned (OpenSpec.ofChange slideTwiceWrong)

/-- 'screelaw14.SlideKeeps': WHATEVER THE INPUT: true; the input reads as it did. -/
def slideKeepsSpec : ChangeSpec := { name := "slideKeeps", fn := fun _ => fun
  | [d1, d2] => { results := [.lit (.bool true)], args := [d1, d2] }
  | _ => none }
def slideKeepsRow : OpenClaim := { program := "ytfhjpgbnojdlkaa", sum := "41fc26062f92e0cbd82ddfc71074f26785231a533584e95aff4f5ac1721fc10a", func := "scree/screelaw14.SlideKeeps", spec := "slideKeeps", unfollowed := true, recurses := true, apart := false }
def SlideKeepsSaid : Prop := slideKeepsRow.holds Try.pinned (OpenSpec.ofChange slideKeepsSpec)

/-- ITS FALSE NEIGHBOUR: 'it returns false'. Refute it at one input. -/
def slideKeepsWrong : ChangeSpec := { name := "slideKeeps", fn := fun _ => fun
  | [d1, d2] => { results := [.lit (.bool false)], args := [d1, d2] }
  | _ => none }
def SlideKeepsWrongFalsely : Prop := slideKeepsRow.holds Try.pinned (OpenSpec.ofChange slideKeepsWrong)

/-- 'screelaw20.FrameWords': WHATEVER THE INPUT: true; the input reads as it did. -/
def frameWordsSpec : ChangeSpec := { name := "frameWords", fn := fun _ => fun
  | [d1, d2, d3] => { results := [.lit (.bool true)], args := [d1, d2, d3] }
  | _ => none }
def frameWordsRow : OpenClaim := { program := "ytfhjpgbnojdlkaa", sum := "41fc26062f92e0cbd82ddfc71074f26785231a533584e95aff4f5ac1721fc10a", func := "scree/screelaw20.FrameWords", spec := "frameWords", unfollowed := true, recurses := true, apart := false }
def FrameWordsSaid : Prop := frameWordsRow.holds Try.pinned (OpenSpec.ofChange frameWordsSpec)

/-- ITS FALSE NEIGHBOUR: 'it returns false'. Refute it at one input. -/
def frameWordsWrong : ChangeSpec := { name := "frameWords", fn := fun _ => fun
  | [d1, d2, d3] => { results := [.lit (.bool false)], args := [d1, d2, d3] }
  | _ => none }
def FrameWordsWrongFalsely : Prop := frameWordsRow.holds Try.pinned (OpenSpec.ofChange frameWordsWrong)

/-- 'screelaw20.FrameStays': WHATEVER THE INPUT: true; the input reads as it did. -/
def frameStaysSpec : ChangeSpec := { name := "frameStays", fn := fun _ => fun
  | [d1, d2, d3] => { results := [.lit (.bool true)], args := [d1, d2, d3] }
  | _ => none }
def frameStaysRow : OpenClaim := { program := "ytfhjpgbnojdlkaa", sum := "41fc26062f92e0cbd82ddfc71074f26785231a533584e95aff4f5ac1721fc10a", func := "scree/screelaw20.FrameStays", spec := "frameStays", unfollowed := true, recurses := true, apart := false }
def FrameStaysSaid : Prop := frameStaysRow.holds Try.pinned (OpenSpec.ofChange frameStaysSpec)

/-- ITS FALSE NEIGHBOUR: 'it returns false'. Refute it at one input. -/
def frameStaysWrong : ChangeSpec := { name := "frameStays", fn := fun _ => fun
  | [d1, d2, d3] => { results := [.lit (.bool false)], args := [d1, d2, d3] }
  | _ => none }
def FrameStaysWrongFalsely : Prop := frameStaysRow.holds Try.pinned (OpenSpec.ofChange frameStaysWrong)

/- THE SECOND FORM. 'bulk': how many values and letters a reading holds, each counted each time it is reached (what is shared counts as often as it is met; a slice's spare places count too). A statement '..UptoSaid' is the law's where the arguments, and the package variables that the reading takes, are together of bulk at most 1048576: NARROWER than '..Said'. Prove '..Said' where nothing that the law and all that it calls make is longer than what came in: it says more and counts as full. Else prove '..UptoSaid'. A law counts once. -/
mutual
def uptoBulk {H : Type} : DataW H → Nat
  | .lit (.string bytes) => bytes.length + 1
  | .lit _ => 1
  | .nil => 1
  | .ptr d => uptoBulk d + 1
  | .slice elems spare => uptoBulkAll elems + uptoBulkAll spare + 1
  | .agg parts => uptoBulkAll parts + 1
  | .iface _ d => uptoBulk d + 1
  | .map entries => uptoBulkEntries entries + 1
  | .held _ => 1
def uptoBulkAll {H : Type} : List (DataW H) → Nat
  | [] => 0
  | d :: r => uptoBulk d + uptoBulkAll r
def uptoBulkEntries {H : Type} : List (Lit × DataW H) → Nat
  | [] => 0
  | x :: r => uptoBulkEntry x + uptoBulkEntries r
def uptoBulkEntry {H : Type} : Lit × DataW H → Nat
  | (.string bytes, d) => bytes.length + uptoBulk d + 1
  | (_, d) => uptoBulk d + 1
 end
def uptoSmall : (H : Type) → List (DataW H) → Bool := fun _ ds => decide (uptoBulkAll ds ≤ 1048576)
def OpenSpec.upto (s : _root_.Go.ChangeSpec) : _root_.Go.OpenSpec := { _root_.Go.OpenSpec.ofChange s with cond := some uptoSmall }

/-- 'screelaw14.SlideReaches', WHERE WHAT IT READS IS OF BULK AT MOST 1048576: true; the input reads as it did. -/
def slideReachesUptoRow : OpenClaim := { program := "ytfhjpgbnojdlkaa", sum := "41fc26062f92e0cbd82ddfc71074f26785231a533584e95aff4f5ac1721fc10a", func := "scree/screelaw14.SlideReaches", spec := "slideReaches", unfollowed := true, recurses := true, apart := false, narrowed := true }
def SlideReachesUptoSaid : Prop := slideReachesUptoRow.holds Try.pinned (OpenSpec.upto slideReachesSpec)

/-- 'screelaw14.SlideCollects', WHERE WHAT IT READS IS OF BULK AT MOST 1048576: true; the input reads as it did. -/
def slideCollectsUptoRow : OpenClaim := { program := "ytfhjpgbnojdlkaa", sum := "41fc26062f92e0cbd82ddfc71074f26785231a533584e95aff4f5ac1721fc10a", func := "scree/screelaw14.SlideCollects", spec := "slideCollects", unfollowed := true, recurses := true, apart := false, narrowed := true }
def SlideCollectsUptoSaid : Prop := slideCollectsUptoRow.holds Try.pinned (OpenSpec.upto slideCollectsSpec)

/-- 'screelaw14.SlideShape', WHERE WHAT IT READS IS OF BULK AT MOST 1048576: true; the input reads as it did. -/
def slideShapeUptoRow : OpenClaim := { program := "ytfhjpgbnojdlkaa", sum := "41fc26062f92e0cbd82ddfc71074f26785231a533584e95aff4f5ac1721fc10a", func := "scree/screelaw14.SlideShape", spec := "slideShape", unfollowed := true, recurses := true, apart := false, narrowed := true }
def SlideShapeUptoSaid : Prop := slideShapeUptoRow.holds Try.pinned (OpenSpec.upto slideShapeSpec)

/-- 'screelaw14.SlideOrder', WHERE WHAT IT READS IS OF BULK AT MOST 1048576: true; the input reads as it did. -/
def slideOrderUptoRow : OpenClaim := { program := "ytfhjpgbnojdlkaa", sum := "41fc26062f92e0cbd82ddfc71074f26785231a533584e95aff4f5ac1721fc10a", func := "scree/screelaw14.SlideOrder", spec := "slideOrder", unfollowed := true, recurses := true, apart := false, narrowed := true }
def SlideOrderUptoSaid : Prop := slideOrderUptoRow.holds Try.pinned (OpenSpec.upto slideOrderSpec)

/-- 'screelaw14.SlideTwice', WHERE WHAT IT READS IS OF BULK AT MOST 1048576: true; the input reads as it did. -/
def slideTwiceUptoRow : OpenClaim := { program := "ytfhjpgbnojdlkaa", sum := "41fc26062f92e0cbd82ddfc71074f26785231a533584e95aff4f5ac1721fc10a", func := "scree/screelaw14.SlideTwice", spec := "slideTwice", unfollowed := true, recurses := true, apart := false, narrowed := true }
def SlideTwiceUptoSaid : Prop := slideTwiceUptoRow.holds Try.pinned (OpenSpec.upto slideTwiceSpec)

/-- 'screelaw14.SlideKeeps', WHERE WHAT IT READS IS OF BULK AT MOST 1048576: true; the input reads as it did. -/
def slideKeepsUptoRow : OpenClaim := { program := "ytfhjpgbnojdlkaa", sum := "41fc26062f92e0cbd82ddfc71074f26785231a533584e95aff4f5ac1721fc10a", func := "scree/screelaw14.SlideKeeps", spec := "slideKeeps", unfollowed := true, recurses := true, apart := false, narrowed := true }
def SlideKeepsUptoSaid : Prop := slideKeepsUptoRow.holds Try.pinned (OpenSpec.upto slideKeepsSpec)

/-- 'screelaw20.FrameWords', WHERE WHAT IT READS IS OF BULK AT MOST 1048576: true; the input reads as it did. -/
def frameWordsUptoRow : OpenClaim := { program := "ytfhjpgbnojdlkaa", sum := "41fc26062f92e0cbd82ddfc71074f26785231a533584e95aff4f5ac1721fc10a", func := "scree/screelaw20.FrameWords", spec := "frameWords", unfollowed := true, recurses := true, apart := false, narrowed := true }
def FrameWordsUptoSaid : Prop := frameWordsUptoRow.holds Try.pinned (OpenSpec.upto frameWordsSpec)

/-- 'screelaw20.FrameStays', WHERE WHAT IT READS IS OF BULK AT MOST 1048576: true; the input reads as it did. -/
def frameStaysUptoRow : OpenClaim := { program := "ytfhjpgbnojdlkaa", sum := "41fc26062f92e0cbd82ddfc71074f26785231a533584e95aff4f5ac1721fc10a", func := "scree/screelaw20.FrameStays", spec := "frameStays", unfollowed := true, recurses := true, apart := false, narrowed := true }
def FrameStaysUptoSaid : Prop := frameStaysUptoRow.holds Try.pinned (OpenSpec.upto frameStaysSpec)

end Rows
end Go.Proofs.Ytfhjpgbnojdlkaa
