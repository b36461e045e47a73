/- Layer 2: the law WholeSums, walked, at every input. -/
import Derived.Test.YtapeomcnjjfihaaDoorLawSumsGood
namespace Go.Proofs.YtapeomcnjjfihaaDoor
open Go.ChangeShapes Go.WideShapes Go.ChangeAt Go.RowKit
theorem lawSums (n1 : Bool) (u1 : Value) (xs : List Int) (n2 : Bool) (u2 : Value) (ys : List Int) (w : World) (hr1 : Rd w u1 xs) (hf1 : Fit xs) (hr2 : Rd w u2 ys) (hf2 : Fit ys) :
    Calls Tryd.prog 5 #[.agg #[.bool n1, u1], .agg #[.bool n2, u2]] w (BoolPost w true) := by
  cases hg1 : goodB n1 xs with
  | false => exact sums_bad1 n1 u1 xs n2 u2 ys w hr1 hr2 hf1 hf2 hg1
  | true =>
    cases hg2 : goodB n2 ys with
    | false => exact sums_bad2 n1 u1 xs n2 u2 ys w hr1 hr2 hf1 hf2 hg1 hg2
    | true => exact sums_good n1 u1 xs n2 u2 ys w hr1 hr2 hf1 hf2 hg1 hg2
end Go.Proofs.YtapeomcnjjfihaaDoor
