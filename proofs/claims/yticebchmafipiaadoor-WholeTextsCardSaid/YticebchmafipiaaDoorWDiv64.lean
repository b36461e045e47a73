/- Layer 2: math/bits.Div64, as far as whole.divLimb needs it: its contract's words, and the way of a high word of 0. -/
import Derived.Test.YticebchmafipiaaDoorWSubSizes
import Derived.BigQuiet
namespace Go.Proofs.YticebchmafipiaaDoor
open Go.ChangeShapes Go.WideShapes Go.ChangeAt Go.RowKit
set_option linter.unusedVariables false
set_option linter.unusedSimpArgs false
def D64Post (W : World) (hi lo y : Int) (e : Ending) (w' : World) : Prop :=
  ∃ q r : Int, e = .returned (.tuple #[.int .u64 q, .int .u64 r]) ∧ hi * 18446744073709551616 + lo = q * y + r ∧ 0 ≤ q ∧ 0 ≤ r ∧ r < y ∧ Below W.heap.size W w'
theorem div64_small (lo y : Int) (hl : 0 ≤ lo ∧ lo ≤ 18446744073709551615) (hy : 0 < y ∧ y ≤ 18446744073709551615) (w : World) :
    Calls Tryd.prog 72 #[.int .u64 0, .int .u64 lo, .int .u64 y] w (D64Post w 0 lo y) := by
  have h0 : (y == 0) = false := by simp; omega
  have h0' : ¬ y = 0 := by omega
  have h1 : ¬ y ≤ 0 := by omega
  go_enter Tryd.func72, Tryd.ntmps72
  go_wp2
  go_region
  go_wp2
  go_ret2
  exact ⟨lo / y, lo % y, rfl, by rw [Int.mul_comm (lo / y)]; have := Int.mul_ediv_add_emod lo y; omega, Int.ediv_nonneg hl.1 (by omega), Int.emod_nonneg _ h0', Int.emod_lt_of_pos _ hy.1, (Below.refl _ _).drew⟩
end Go.Proofs.YticebchmafipiaaDoor
