/- math.Trunc; a float converted to an int; below 2^53. math.IsInf upwards, downwards, at any number. A float cut towards 0, as an integer: its size, its parts. -/
import Derived.Test.YtpebnofjcodikaaGreatDoorPGRlB
import Derived.Test.YtpebnofjcodikaaGreatDoorPGRlG
import Derived.Test.YtpebnofjcodikaaGreatDoorPGWb
namespace Go.Proofs.YtpebnofjcodikaaGreatDoor
section
open Go Go.ChangeShapes Go.WideShapes Go.RowKit
set_option linter.unusedVariables false
set_option linter.unusedSimpArgs false
end
section
open Go Go.ChangeShapes Go.WideShapes Go.RowKit
set_option linter.unusedVariables false
set_option linter.unusedSimpArgs false
theorem run_neg (b : Nat) (hb : b < 18446744073709551616) (hn : nanB b = false) (w : World) : (Op.unary UnOp.neg (.float .f64 b)).run Tryz.prog w = .ok (.float .f64 (flipB b)) w := by
  simp [Op.unary, go_sem]
  have h : Op.negFloat FloatKind.f64 b = b ^^^ 9223372036854775808 := by rfl
  rw [h, xor_top hb]
end
section
open Go Ieee
set_option linter.unusedVariables false
set_option linter.unusedSimpArgs false
/-- A number cut towards 0. -/
def trZ (b : Nat) : Int := if negB b = true then -((trV b : Nat) : Int) else ((trV b : Nat) : Int)
theorem pow2_le {k K d : Nat} (h : k ≤ K) (hK : K ≤ 3 * d) (hd : d ≠ 0) : (2 : Nat) ^ k < 10 ^ d := by
  have h1 : (2 : Nat) ^ k ≤ 2 ^ (3 * d) := Nat.pow_le_pow_right (by decide) (by omega)
  have h3 : (2 : Nat) ^ (3 * d) = (2 ^ 3) ^ d := Nat.pow_mul 2 3 d
  have h4 : ((2 : Nat) ^ 3) ^ d < 10 ^ d := Nat.pow_lt_pow_left (by decide) hd
  omega
theorem tr_ltK (b K : Nat) (hK : 1025 ≤ K) : trV b < 2 ^ K := by
  by_cases h : 0 ≤ exqB b
  · rw [tr_up b h]
    have h1 := man_lt b
    have h2 := (exq_lo b).2
    have h3 : 2 ^ (exqB b).toNat ≤ 2 ^ (K - 53) := Nat.pow_le_pow_right (by decide) (by omega)
    have h4 : manB b * 2 ^ (exqB b).toNat ≤ manB b * 2 ^ (K - 53) := Nat.mul_le_mul_left _ h3
    have h5 : manB b * 2 ^ (K - 53) < 9007199254740992 * 2 ^ (K - 53) := Nat.mul_lt_mul_of_pos_right h1 (Nat.two_pow_pos _)
    have h6 : 9007199254740992 * 2 ^ (K - 53) = 2 ^ K := by
      have e : K = 53 + (K - 53) := by omega
      conv => rhs; rw [e, Nat.pow_add]
    omega
  · rw [tr_down b (by omega)]
    have h1 := man_lt b
    have h2 : manB b / 2 ^ (-exqB b).toNat ≤ manB b := Nat.div_le_self _ _
    have h3 : (9007199254740992 : Nat) = 2 ^ 53 := by rfl
    have h4 : (2 : Nat) ^ 53 ≤ 2 ^ K := Nat.pow_le_pow_right (by decide) (by omega)
    omega
theorem abs_lt_pow {n d : Nat} (h : n < 10 ^ d) : (((n : Int).natAbs : Nat) : Int) < (10 : Int) ^ d := by
  rw [Int.natAbs_natCast, show ((10 : Int) ^ d) = ((10 ^ d : Nat) : Int) by push_cast; rfl]
  exact Int.ofNat_lt.2 h
theorem nat_small {n k : Nat} (h : n < 2 ^ k) (hk : k ≤ 1100) : Small (n : Int) := by
  obtain ⟨d, hd⟩ : ∃ d, d = 540 := ⟨_, rfl⟩
  have h1 := abs_lt_pow (Nat.lt_trans h (pow2_le (Nat.le_refl k) (show k ≤ 3 * d by omega) (by omega)))
  rw [hd] at h1
  exact ⟨h1⟩
theorem tr_small (b : Nat) : Small ((trV b : Nat) : Int) := nat_small (tr_ltK b 1025 (Nat.le_refl _)) (by decide)
end
end Go.Proofs.YtpebnofjcodikaaGreatDoor
