/- The sign bit and the bits below it. -/
import Derived.Test.YtdkbhliafilghaaGreatDoorRlPu2
import Derived.Laws.BitsAllLaws
namespace Go.Proofs.YtdkbhliafilghaaGreatDoor
open Go Ieee
set_option linter.unusedVariables false
set_option linter.unusedSimpArgs false
theorem xor_top {b : Nat} (h : b < 18446744073709551616) : b ^^^ 9223372036854775808 = flipB b := by
  have e1 : (b ^^^ 9223372036854775808) % 2 ^ 63 = b % 2 ^ 63 := by
    rw [Nat.xor_mod_two_pow]; simp
  have e2 : (b ^^^ 9223372036854775808) / 2 ^ 63 = (b / 2 ^ 63) ^^^ 1 := by
    rw [Nat.xor_div_two_pow]
  have h1 : fSG = 9223372036854775808 := rfl
  have h2 : b / 2 ^ 63 = 0 ∨ b / 2 ^ 63 = 1 := by omega
  unfold flipB
  rw [h1]
  rcases h2 with h2 | h2
  · rw [h2] at e2
    have e3 : (0 ^^^ 1 : Nat) = 1 := rfl
    rw [e3] at e2
    rw [if_pos (by omega)]
    omega
  · rw [h2] at e2
    have e3 : (1 ^^^ 1 : Nat) = 0 := rfl
    rw [e3] at e2
    rw [if_neg (by omega)]
    omega
theorem and_low63 (b : Nat) : b &&& 9223372036854775807 = b % fSG := by
  have := Nat.and_two_pow_sub_one_eq_mod b 63
  exact this
end Go.Proofs.YtdkbhliafilghaaGreatDoor
