/- Hashes, plainly: Horner's rule modulo a prime; a power of two doubled step by step. The parts of a float's pattern: the bits. Floats cut towards 0, by their parts. -/
import Derived.Test.YtpebnofjcodikaaGreatDoorPDig
import Derived.Test.YtpebnofjcodikaaGreatDoorPGRlA
import Derived.Laws.BitsAllLaws
import Derived.WalkKit
namespace Go.Proofs.YtpebnofjcodikaaGreatDoor
section
set_option linter.unusedVariables false
def hP : Int := 2147483647
/-- The hash of limbs from the k-th on. -/
def hh (b : Int) (ws : List Int) (k : Nat) : Int := val b (ws.drop k) % 2147483647
/-- Doubled j times. -/
def db (m j : Nat) : Nat := m % 2147483647 * 2 ^ j % 2147483647
end
section
open Go Ieee
set_option linter.unusedVariables false
set_option linter.unusedSimpArgs false
def expB (b : Nat) : Nat := b / 4503599627370496 % 2048
def frcB (b : Nat) : Nat := b % 4503599627370496
def manB (b : Nat) : Nat := if expB b = 0 then frcB b else frcB b + 4503599627370496
def exqB (b : Nat) : Int := if expB b = 0 then -1074 else (expB b : Int) - 1075
theorem exp_lt (b : Nat) : expB b < 2048 := Nat.mod_lt _ (by decide)
theorem frc_lt (b : Nat) : frcB b < 4503599627370496 := Nat.mod_lt _ (by decide)
theorem man_lt (b : Nat) : manB b < 9007199254740992 := by
  unfold manB
  have h := frc_lt b
  split <;> omega
theorem exq_lo (b : Nat) : -1074 ≤ exqB b ∧ exqB b ≤ 972 := by
  unfold exqB
  have h := exp_lt b
  split <;> omega
/-- The power of two: the exponent modulo 31. -/
def pwB (b : Nat) : Nat := (exqB b % 31).toNat
/-- The hash's size. -/
def hsB (b : Nat) : Nat := db (manB b) (pwB b)
end
section
open Go Ieee
set_option linter.unusedVariables false
set_option linter.unusedSimpArgs false
theorem mag_parts (x : Nat) : magV (x % fSG) = manB x * 2 ^ (exqB x + 1074).toNat := by
  have e1 : fSG = 9223372036854775808 := rfl
  have h1 : x % fSG / 4503599627370496 = expB x := by unfold expB; rw [e1]; omega
  have h2 : x % fSG % 4503599627370496 = frcB x := by unfold frcB; rw [e1]; omega
  unfold magV manB exqB
  by_cases h : expB x = 0
  · rw [if_pos (by omega), if_pos h, if_pos h]
    have h3 : x % fSG = frcB x := by omega
    rw [h3]; simp
  · rw [if_neg (by omega), if_neg h, if_neg h, h1, h2, show ((expB x : Int) - 1075 + 1074).toNat = expB x - 1 by omega, Nat.add_comm]
theorem up_exp {e : Int} (h : 0 ≤ e) : (e + 1074).toNat = e.toNat + eK := by have hK := eK_eq; omega
/-- Cut, by the parts. -/
theorem tr_up (x : Nat) (h : 0 ≤ exqB x) : trV x = manB x * 2 ^ (exqB x).toNat := by
  unfold trV
  rw [mag_parts, up_exp h, Nat.pow_add, ← Nat.mul_assoc, mdp]
theorem tr_down (x : Nat) (h : exqB x < 0) : trV x = manB x / 2 ^ (-exqB x).toNat := by
  have hl := exq_lo x
  unfold trV
  have h1 : 2 ^ eK = 2 ^ (-exqB x).toNat * 2 ^ (exqB x + 1074).toNat := by rw [← Nat.pow_add]; congr 1; have hK := eK_eq; omega
  rw [mag_parts, h1, Nat.mul_div_mul_right _ _ (Nat.two_pow_pos _)]
/-- Halved j times: what is left, and whether something was lost. -/
theorem half_step (M j : Nat) : M / 2 ^ (j + 1) = M / 2 ^ j / 2 ∧ (decide (M % 2 ^ (j + 1) ≠ 0) = (decide (M % 2 ^ j ≠ 0) || decide (M / 2 ^ j % 2 = 1))) := by
  refine ⟨by rw [Nat.pow_succ, Nat.div_div_eq_div_mul], ?_⟩
  rw [Nat.mod_pow_succ]
  have hp : 0 < 2 ^ j := Nat.two_pow_pos j
  have h2 : M / 2 ^ j % 2 = 0 ∨ M / 2 ^ j % 2 = 1 := by omega
  generalize M % 2 ^ j = r
  generalize 2 ^ j = g at *
  rcases h2 with h2 | h2 <;> rw [h2]
  · simp
  · have : r + g * 1 ≠ 0 := by omega
    simp
    omega
end
end Go.Proofs.YtpebnofjcodikaaGreatDoor
