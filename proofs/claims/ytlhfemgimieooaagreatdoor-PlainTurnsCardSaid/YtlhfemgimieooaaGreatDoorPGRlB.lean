/- Hashes, plainly: Horner's rule modulo a prime; a power of two doubled step by step. -/
import Derived.Test.YtlhfemgimieooaaGreatDoorPDig
import Derived.Test.YtlhfemgimieooaaGreatDoorPGRlA
import Derived.Laws.BitsAllLaws
import Derived.WalkKit
set_option linter.unusedVariables false
set_option linter.unusedSimpArgs false
namespace Go.Proofs.YtlhfemgimieooaaGreatDoor
open Go Ieee
section
def hP : Int := 2147483647
def hh (b : Int) (ws : List Int) (k : Nat) : Int := val b (ws.drop k) % 2147483647
def db (m j : Nat) : Nat := m % 2147483647 * 2 ^ j % 2147483647
end
section
def expB (b : Nat) : Nat := b / 4503599627370496 % 2048
def frcB (b : Nat) : Nat := b % 4503599627370496
def manB (b : Nat) : Nat := if expB b = 0 then frcB b else frcB b + 4503599627370496
def exqB (b : Nat) : Int := if expB b = 0 then -1074 else (expB b : Int) - 1075
theorem exp_lt (b : Nat) : expB b < 2048 := Nat.mod_lt _ (by decide)
theorem frc_lt (b : Nat) : frcB b < 4503599627370496 := Nat.mod_lt _ (by decide)
theorem man_lt (b : Nat) : manB b < 9007199254740992 := by
 unfold manB
 have h := frc_lt b
 split <;> omega
theorem exq_lo (b : Nat) : -1074 ≤ exqB b ∧ exqB b ≤ 972 := by
 unfold exqB
 have h := exp_lt b
 split <;> omega
theorem and_exp (b : Nat) (hb : b < 18446744073709551616) : bits .and .u64 ((b : Int) / 4503599627370496) 2047 = ((expB b : Nat) : Int) := by
 have h := u64_and_nat (b / 4503599627370496) 2047 (by omega) (by omega)
 rw [show (b / 4503599627370496) &&& 2047 = (b / 4503599627370496) % 2048 from Nat.and_two_pow_sub_one_eq_mod _ 11] at h
 exact h
theorem and_frc (b : Nat) (hb : b < 18446744073709551616) : bits .and .u64 (b : Int) 4503599627370495 = ((frcB b : Nat) : Int) := by
 have h := u64_and_nat b 4503599627370495 hb (by omega)
 rw [show b &&& 4503599627370495 = b % 4503599627370496 from Nat.and_two_pow_sub_one_eq_mod _ 52] at h
 exact h
theorem or_top {m : Nat} (h : m < 4503599627370496) : m ||| 4503599627370496 = m + 4503599627370496 := by
 have h1 := Nat.two_pow_add_eq_or_of_lt (i := 52) (b := m) (by simpa using h) 1
 rw [Nat.or_comm, Nat.add_comm m]
 simpa using h1.symm
theorem or_i64 {m : Nat} (h : m < 4503599627370496) : bits .or .i64 (m : Int) 4503599627370496 = ((m + 4503599627370496 : Nat) : Int) := by
 have e1 : (BitVec.ofInt 64 (m : Int)).toNat = m := ofInt_u64 m (by omega)
 have e2 : (BitVec.ofInt 64 4503599627370496).toNat = 4503599627370496 := by decide
 show IntKind.i64.wrap ((BitVec.ofInt 64 (m : Int) ||| BitVec.ofInt 64 4503599627370496).toNat : Int) = _
 rw [BitVec.toNat_or, e1, e2, or_top h, IntWalk.i64_in _ (by omega)]
def pwB (b : Nat) : Nat := (exqB b % 31).toNat
def hsB (b : Nat) : Nat := db (manB b) (pwB b)
end
section
theorem mag_parts (x : Nat) : magV (x % fSG) = manB x * 2 ^ (exqB x + 1074).toNat := by
 have e1 : fSG = 9223372036854775808 := rfl
 have h1 : x % fSG / 4503599627370496 = expB x := by unfold expB; rw [e1]; omega
 have h2 : x % fSG % 4503599627370496 = frcB x := by unfold frcB; rw [e1]; omega
 unfold magV manB exqB
 by_cases h : expB x = 0
 · rw [if_pos (by omega), if_pos h, if_pos h]
   have h3 : x % fSG = frcB x := by omega
   rw [h3]; simp
 · rw [if_neg (by omega), if_neg h, if_neg h, h1, h2, show ((expB x : Int) - 1075 + 1074).toNat = expB x - 1 by omega, Nat.add_comm]
theorem up_exp {e : Int} (h : 0 ≤ e) : (e + 1074).toNat = e.toNat + eK := by have hK := eK_eq; omega
theorem tr_up (x : Nat) (h : 0 ≤ exqB x) : trV x = manB x * 2 ^ (exqB x).toNat := by
 unfold trV
 rw [mag_parts, up_exp h, Nat.pow_add, ← Nat.mul_assoc, mdp]
theorem tr_down (x : Nat) (h : exqB x < 0) : trV x = manB x / 2 ^ (-exqB x).toNat := by
 have hl := exq_lo x
 unfold trV
 have h1 : 2 ^ eK = 2 ^ (-exqB x).toNat * 2 ^ (exqB x + 1074).toNat := by rw [← Nat.pow_add]; congr 1; have hK := eK_eq; omega
 rw [mag_parts, h1, Nat.mul_div_mul_right _ _ (Nat.two_pow_pos _)]
theorem lost_up (x : Nat) (h : 0 ≤ exqB x) : lostB x = false := by
 unfold lostB
 rw [decide_eq_false_iff_not, tr_up x h, mag_parts, up_exp h, Nat.pow_add, ← Nat.mul_assoc]
 exact fun hh => hh rfl
theorem lost_down (x : Nat) (h : exqB x < 0) : lostB x = decide (manB x % 2 ^ (-exqB x).toNat ≠ 0) := by
 have hl := exq_lo x
 unfold lostB
 have h1 : 2 ^ eK = 2 ^ (-exqB x).toNat * 2 ^ (exqB x + 1074).toNat := by rw [← Nat.pow_add]; congr 1; have hK := eK_eq; omega
 rw [tr_down x h, mag_parts, h1, ← Nat.mul_assoc]
 have hp : 0 < 2 ^ (exqB x + 1074).toNat := Nat.two_pow_pos _
 generalize 2 ^ (exqB x + 1074).toNat = q at hp
 have hd := Nat.div_add_mod (manB x) (2 ^ (-exqB x).toNat)
 rw [Nat.mul_comm] at hd
 generalize 2 ^ (-exqB x).toNat = g at hd ⊢
 rw [decide_eq_decide]
 refine not_congr ?_
 constructor
 · intro he
   have := Nat.eq_of_mul_eq_mul_right hp he
   omega
 · intro he
   rw [he] at hd
   have : manB x = manB x / g * g := by omega
   rw [← this]
theorem half_step (M j : Nat) : M / 2 ^ (j + 1) = M / 2 ^ j / 2 ∧ (decide (M % 2 ^ (j + 1) ≠ 0) = (decide (M % 2 ^ j ≠ 0) || decide (M / 2 ^ j % 2 = 1))) := by
 refine ⟨by rw [Nat.pow_succ, Nat.div_div_eq_div_mul], ?_⟩
 rw [Nat.mod_pow_succ]
 have hp : 0 < 2 ^ j := Nat.two_pow_pos j
 have h2 : M / 2 ^ j % 2 = 0 ∨ M / 2 ^ j % 2 = 1 := by omega
 generalize M % 2 ^ j = r
 generalize 2 ^ j = g at *
 rcases h2 with h2 | h2 <;> rw [h2]
 · simp
 · have : r + g * 1 ≠ 0 := by omega
   simp
   omega
theorem half_end (M j k : Nat) (h : j ≤ k) (h0 : M / 2 ^ j = 0) : M / 2 ^ k = 0 ∧ M % 2 ^ j = M % 2 ^ k := by
 have h1 : M < 2 ^ j := by
   rcases Nat.div_eq_zero_iff.1 h0 with h | h
   · have := Nat.two_pow_pos j; omega
   · exact h
 have h2 : 2 ^ j ≤ 2 ^ k := Nat.pow_le_pow_right (by decide) h
 exact ⟨Nat.div_eq_of_lt (by omega), by rw [Nat.mod_eq_of_lt h1, Nat.mod_eq_of_lt (by omega)]⟩
end
end Go.Proofs.YtlhfemgimieooaaGreatDoor
