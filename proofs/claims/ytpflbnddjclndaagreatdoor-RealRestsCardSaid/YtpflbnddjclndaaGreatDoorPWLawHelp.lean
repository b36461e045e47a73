/- Layer 2, the document's answer: screeref02.Good. Layer 2: the helpers of the laws: form, fits, is. Layer 2: the helper 'is' of the laws. -/
import Derived.Test.YtpflbnddjclndaaGreatDoorPGWa
import Derived.Test.YtpflbnddjclndaaGreatDoorPDig
import Derived.Test.YtpflbnddjclndaaGreatDoorPGWe
import Derived.Test.YtpflbnddjclndaaGreatDoorPGWf
namespace Go.Proofs.YtpflbnddjclndaaGreatDoor
section
open Go.ChangeShapes Go.WideShapes Go.ChangeAt Go.RowKit
set_option linter.unusedVariables false
set_option linter.unusedSimpArgs false
end
section
open Go.ChangeShapes Go.WideShapes Go.ChangeAt Go.RowKit
set_option linter.unusedVariables false
set_option linter.unusedSimpArgs false
end
section
open Go.ChangeShapes Go.WideShapes Go.ChangeAt Go.RowKit
set_option linter.unusedVariables false
set_option linter.unusedSimpArgs false
theorem big_len {n m : Bool} {vs ds : List Int} {z : Int} (h : Sgn B18 n vs z) (g : Sgn 10 m ds z) (hl : ds.length ≤ 100000) : vs.length ≤ 100000 := by
  have h1 : (z.natAbs : Int) < 10 ^ ds.length := (g.len (by decide) ds.length).1 (Nat.le_refl _)
  have h2 : ∀ n : Nat, (10 : Int) ^ n ≤ B18 ^ n := by
    intro n
    induction n with
    | zero => simp
    | succ n ih =>
      have h3 : (0 : Int) ≤ 10 ^ n := Int.pow_nonneg (by decide)
      rw [Int.pow_succ, Int.pow_succ]
      exact Int.mul_le_mul ih (by decide) (by decide) (Int.le_trans h3 ih)
  exact Nat.le_trans ((h.len (by decide) ds.length).2 (Int.lt_of_lt_of_le h1 (h2 _))) hl
end
end Go.Proofs.YtpflbnddjclndaaGreatDoor
