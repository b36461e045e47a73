/- Sums, differences, products, quotients of floats, run: an answer, of which the one pattern of NaN is made. -/
import Derived.Test.YtbhaigbgembcaaaGreatDoorPGRlA
import Derived.Laws.NewFold
import Derived.RowKit
import Derived.WalkKit
import Derived.Deep.Draws
namespace Go.Proofs.YtbhaigbgembcaaaGreatDoor
open Go Ieee Go.RowKit
set_option linter.unusedVariables false
set_option linter.unusedSimpArgs false
theorem nan_bits (t : Nat) : nanB (t % 2 * 2 ^ 63 + 9218868437227405312 + 1 + t / 2 % (2 ^ 52 - 1)) = true := by
  unfold nanB
  have h1 : fIN = 9218868437227405312 := rfl
  have h2 : fSG = 9223372036854775808 := rfl
  rw [decide_eq_true_eq, h1, h2]
  have h3 : t / 2 % (2 ^ 52 - 1) < 4503599627370495 := Nat.mod_lt _ (by decide)
  generalize t / 2 % (2 ^ 52 - 1) = z at h3 ⊢
  have h4 : t % 2 = 0 ∨ t % 2 = 1 := by omega
  rcases h4 with h4 | h4 <;> rw [h4] <;> omega
theorem nan_lt (t : Nat) : t % 2 * 2 ^ 63 + 9218868437227405312 + 1 + t / 2 % (2 ^ 52 - 1) < 18446744073709551616 := by
  have h3 : t / 2 % (2 ^ 52 - 1) < 4503599627370495 := Nat.mod_lt _ (by decide)
  generalize t / 2 % (2 ^ 52 - 1) = z at h3 ⊢
  have h4 : t % 2 = 0 ∨ t % 2 = 1 := by omega
  rcases h4 with h4 | h4 <;> rw [h4] <;> omega
/-- The answer of an operation: some bits, of which patB makes what outB says. -/
theorem run_fop {P : Program} (w : World) (op : BinOp) (t : TypeId) (x y : Nat) (hop : op = .add ∨ op = .sub ∨ op = .mul ∨ op = .quo) :
    ∃ r q, (binOp op t (.float .f64 x) (.float .f64 y)).run P w = .ok (.float .f64 r) (w.drewN q) ∧ patB r = outB (floatBits op .f64 x y) ∧ r < 18446744073709551616 := by
  cases h : floatBits op .f64 x y with
  | some r =>
    refine ⟨r, 0, run_float_arith w op t .f64 x y r h, rfl, ?_⟩
    have := floatBits_wf h
    simpa [Lit.wf] using this
  | none =>
    refine ⟨_, 1, ?_, ?_, nan_lt (w.tape w.drawn (.nanBits .f64 x y))⟩
    · unfold floatBits at h
      rcases hop with rfl | rfl | rfl | rfl
      all_goals simp only at h
      all_goals simp [binOp, Op.floatArith, h, run_choose_drew, Question.forced, Question.cut]
      all_goals rfl
    · unfold patB outB
      rw [nan_bits, if_pos rfl]
end Go.Proofs.YtbhaigbgembcaaaGreatDoor
