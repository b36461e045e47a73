/- Layer 2: whole.Sub. -/
import Derived.Test.YthcijdlkaoppnaaGreatDoorPWAdd
import Derived.Test.YthcijdlkaoppnaaGreatDoorPWNeg
namespace Go.Proofs.YthcijdlkaoppnaaGreatDoor
open Go.ChangeShapes Go.WideShapes Go.ChangeAt Go.RowKit
set_option linter.unusedVariables false
set_option linter.unusedSimpArgs false
end Go.Proofs.YthcijdlkaoppnaaGreatDoor
