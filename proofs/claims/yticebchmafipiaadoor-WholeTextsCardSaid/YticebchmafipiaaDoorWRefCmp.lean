/- Layer 2, the document's answer: Turn, Plus, Cmp, Fits. -/
import Derived.Test.YticebchmafipiaaDoorWRefTo
namespace Go.Proofs.YticebchmafipiaaDoor
open Go.ChangeShapes Go.WideShapes Go.ChangeAt Go.RowKit
set_option linter.unusedVariables false
set_option linter.unusedSimpArgs false
end Go.Proofs.YticebchmafipiaaDoor
