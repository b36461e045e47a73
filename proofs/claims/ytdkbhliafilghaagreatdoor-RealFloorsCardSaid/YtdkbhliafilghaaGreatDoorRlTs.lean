/- Floats cut towards 0, by their parts. -/
import Derived.Test.YtdkbhliafilghaaGreatDoorRlTr
import Derived.Test.YtdkbhliafilghaaGreatDoorRlI
namespace Go.Proofs.YtdkbhliafilghaaGreatDoor
open Go Ieee
set_option linter.unusedVariables false
set_option linter.unusedSimpArgs false
theorem exq_nat (x : Nat) : ((exqB x + 1074).toNat : Int) = exqB x + 1074 := by have := exq_lo x; omega
theorem mag_parts (x : Nat) : magV (x % fSG) = manB x * 2 ^ (exqB x + 1074).toNat := by
  have e1 : fSG = 9223372036854775808 := rfl
  have h1 : x % fSG / 4503599627370496 = expB x := by unfold expB; rw [e1]; omega
  have h2 : x % fSG % 4503599627370496 = frcB x := by unfold frcB; rw [e1]; omega
  unfold magV manB exqB
  by_cases h : expB x = 0
  · rw [if_pos (by omega), if_pos h, if_pos h]
    have h3 : x % fSG = frcB x := by omega
    rw [h3]; simp
  · rw [if_neg (by omega), if_neg h, if_neg h, h1, h2, show ((expB x : Int) - 1075 + 1074).toNat = expB x - 1 by omega, Nat.add_comm]
theorem up_exp {e : Int} (h : 0 ≤ e) : (e + 1074).toNat = e.toNat + eK := by have hK := eK_eq; omega
/-- Cut, by the parts. -/
theorem tr_up (x : Nat) (h : 0 ≤ exqB x) : trV x = manB x * 2 ^ (exqB x).toNat := by
  unfold trV
  rw [mag_parts, up_exp h, Nat.pow_add, ← Nat.mul_assoc, mdp]
theorem tr_down (x : Nat) (h : exqB x < 0) : trV x = manB x / 2 ^ (-exqB x).toNat := by
  have hl := exq_lo x
  unfold trV
  have h1 : 2 ^ eK = 2 ^ (-exqB x).toNat * 2 ^ (exqB x + 1074).toNat := by rw [← Nat.pow_add]; congr 1; have hK := eK_eq; omega
  rw [mag_parts, h1, Nat.mul_div_mul_right _ _ (Nat.two_pow_pos _)]
theorem lost_up (x : Nat) (h : 0 ≤ exqB x) : lostB x = false := by
  unfold lostB
  rw [decide_eq_false_iff_not, tr_up x h, mag_parts, up_exp h, Nat.pow_add, ← Nat.mul_assoc]
  exact fun hh => hh rfl
theorem lost_down (x : Nat) (h : exqB x < 0) : lostB x = decide (manB x % 2 ^ (-exqB x).toNat ≠ 0) := by
  have hl := exq_lo x
  unfold lostB
  have h1 : 2 ^ eK = 2 ^ (-exqB x).toNat * 2 ^ (exqB x + 1074).toNat := by rw [← Nat.pow_add]; congr 1; have hK := eK_eq; omega
  rw [tr_down x h, mag_parts, h1, ← Nat.mul_assoc]
  have hp : 0 < 2 ^ (exqB x + 1074).toNat := Nat.two_pow_pos _
  generalize 2 ^ (exqB x + 1074).toNat = q at hp
  have hd := Nat.div_add_mod (manB x) (2 ^ (-exqB x).toNat)
  rw [Nat.mul_comm] at hd
  generalize 2 ^ (-exqB x).toNat = g at hd ⊢
  rw [decide_eq_decide]
  refine not_congr ?_
  constructor
  · intro he
    have := Nat.eq_of_mul_eq_mul_right hp he
    omega
  · intro he
    rw [he] at hd
    have : manB x = manB x / g * g := by omega
    rw [← this]
/-- Halved j times: what is left, and whether something was lost. -/
theorem half_step (M j : Nat) : M / 2 ^ (j + 1) = M / 2 ^ j / 2 ∧ (decide (M % 2 ^ (j + 1) ≠ 0) = (decide (M % 2 ^ j ≠ 0) || decide (M / 2 ^ j % 2 = 1))) := by
  refine ⟨by rw [Nat.pow_succ, Nat.div_div_eq_div_mul], ?_⟩
  rw [Nat.mod_pow_succ]
  have hp : 0 < 2 ^ j := Nat.two_pow_pos j
  have h2 : M / 2 ^ j % 2 = 0 ∨ M / 2 ^ j % 2 = 1 := by omega
  generalize M % 2 ^ j = r
  generalize 2 ^ j = g at *
  rcases h2 with h2 | h2 <;> rw [h2]
  · simp
  · have : r + g * 1 ≠ 0 := by omega
    simp
    omega
/-- Halved to nought before the end: the same as at the end. -/
theorem half_end (M j k : Nat) (h : j ≤ k) (h0 : M / 2 ^ j = 0) : M / 2 ^ k = 0 ∧ M % 2 ^ j = M % 2 ^ k := by
  have h1 : M < 2 ^ j := by
    rcases Nat.div_eq_zero_iff.1 h0 with h | h
    · have := Nat.two_pow_pos j; omega
    · exact h
  have h2 : 2 ^ j ≤ 2 ^ k := Nat.pow_le_pow_right (by decide) h
  exact ⟨Nat.div_eq_of_lt (by omega), by rw [Nat.mod_eq_of_lt h1, Nat.mod_eq_of_lt (by omega)]⟩
end Go.Proofs.YtdkbhliafilghaaGreatDoor
