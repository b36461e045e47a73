/- Layer 2: whole.cmpSizes: the sizes of two rows of limbs without noughts at their end, compared. -/
import Derived.Test.YthcijdlkaoppnaaGreatDoorPWGood
import Derived.Test.YthcijdlkaoppnaaGreatDoorPDig
namespace Go.Proofs.YthcijdlkaoppnaaGreatDoor
open Go.ChangeShapes Go.WideShapes Go.ChangeAt Go.RowKit
set_option linter.unusedVariables false
set_option linter.unusedSimpArgs false
abbrev B18 : Int := 1000000000000000000
def CmpPost (W : World) (c : Int) (e : Ending) (w' : World) : Prop := e = .returned (.int .i64 c) ∧ Below W.heap.size W w'
theorem CmpPost.mk {W w' : World} {b c : Int} (h : c = b) (hb : Below W.heap.size W w') : CmpPost W b (.returned (.int .i64 c)) w' := ⟨by rw [h], hb⟩
end Go.Proofs.YthcijdlkaoppnaaGreatDoor
