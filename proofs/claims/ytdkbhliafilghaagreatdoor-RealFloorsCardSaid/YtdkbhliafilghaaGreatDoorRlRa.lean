/- The document's rest of two floats, plainly. -/
import Derived.Test.YtdkbhliafilghaaGreatDoorRlTs
import Derived.Test.YtdkbhliafilghaaGreatDoorRlMp
namespace Go.Proofs.YtdkbhliafilghaaGreatDoor
open Go Ieee
set_option linter.unusedVariables false
set_option linter.unusedSimpArgs false
theorem big_ok {r : Nat} (h : r < 9007199254740992) : r * 2 ^ eK ≤ maxV := by
  have hK := eK_eq
  have h1 := word_mag (eK + 1) 4503599627370496 (by omega) (by omega)
  have h2 : magV ((eK + 1) * 4503599627370496 + 4503599627370496) ≤ maxV := mag_le (by omega)
  rw [h1, Nat.pow_succ] at h2
  have h3 : r * 2 ^ eK ≤ 9007199254740992 * 2 ^ eK := Nat.mul_le_mul_right _ (by omega)
  generalize (2 : Nat) ^ eK = p at *
  omega
/-- Behind the two numbers' steps are made one. -/
structure RT (rr M N : Nat) (E F : Int) : Prop where
  n0 : 0 < N
  nl : N < 9007199254740992
  ml : M < 9007199254740992
  fe : F ≤ E
  lo : -1074 ≤ F
  hi : E ≤ 972
  rI : rr < fIN
  eq : magV rr = (M * 2 ^ (E - F).toNat % N) * 2 ^ (F + 1074).toNat
theorem man_pos {b : Nat} (h : 0 < magV (b % fSG)) : 0 < manB b := by
  rw [mag_parts] at h
  exact Nat.pos_of_ne_zero fun hc => by rw [hc, Nat.zero_mul] at h; omega
theorem rt_ge {a b rr : Nat} (hb : 0 < magV (b % fSG)) (hr : rr < fIN) (hm : magV rr = magV (a % fSG) % magV (b % fSG)) (h : exqB b ≤ exqB a) : RT rr (manB a) (manB b) (exqB a) (exqB b) := by
  have h1 := exq_lo a
  have h2 := exq_lo b
  refine ⟨man_pos hb, man_lt b, man_lt a, h, h2.1, h1.2, hr, ?_⟩
  rw [hm, mag_parts, mag_parts]
  have e1 : manB a * 2 ^ (exqB a + 1074).toNat = manB a * 2 ^ (exqB a - exqB b).toNat * 2 ^ (exqB b + 1074).toNat := by
    rw [Nat.mul_assoc, ← Nat.pow_add]; congr 2; omega
  rw [e1, Nat.mul_mod_mul_right]
theorem mag_b {a b : Nat} (h : exqB a < exqB b) : magV (b % fSG) = manB b * 2 ^ (exqB b - exqB a).toNat * 2 ^ (exqB a + 1074).toNat := by
  have h1 := exq_lo a
  rw [mag_parts, Nat.mul_assoc, ← Nat.pow_add]; congr 2; omega
theorem rt_lt {a b rr : Nat} (hb : 0 < magV (b % fSG)) (hr : rr < fIN) (hm : magV rr = magV (a % fSG) % magV (b % fSG)) (h : exqB a < exqB b) (hn : manB b ≤ manB a / 2 ^ (exqB b - exqB a).toNat) : RT rr (manB a) (manB b * 2 ^ (exqB b - exqB a).toNat) (exqB a) (exqB a) := by
  have h1 := exq_lo a
  have h2 := man_lt a
  have h3 : manB b * 2 ^ (exqB b - exqB a).toNat ≤ manB a := by rw [Nat.le_div_iff_mul_le (Nat.two_pow_pos _)] at hn; exact hn
  refine ⟨Nat.mul_pos (man_pos hb) (Nat.two_pow_pos _), by omega, h2, Int.le_refl _, h1.1, h1.2, hr, ?_⟩
  rw [hm, mag_b h, mag_parts, Nat.mul_mod_mul_right, Int.sub_self]
  simp
theorem rt_ret {a b rr : Nat} (hb : 0 < magV (b % fSG)) (hr : rr < fIN) (hm : magV rr = magV (a % fSG) % magV (b % fSG)) (h : exqB a < exqB b) (hn : 53 < exqB b - exqB a ∨ manB a / 2 ^ (exqB b - exqB a).toNat < manB b) : rr = a % fSG := by
  refine mag_inj ?_
  rw [hm]
  refine Nat.mod_eq_of_lt ?_
  rw [mag_b h, mag_parts]
  refine Nat.mul_lt_mul_of_pos_right ?_ (Nat.two_pow_pos _)
  have hb1 := man_pos hb
  have hm2 := man_lt a
  rcases hn with hn | hn
  · have h1 : (2 : Nat) ^ 53 ≤ 2 ^ (exqB b - exqB a).toNat := Nat.pow_le_pow_right (by decide) (by omega)
    rw [show (2 : Nat) ^ 53 = 9007199254740992 by rfl] at h1
    have h2 : 1 * 2 ^ (exqB b - exqB a).toNat ≤ manB b * 2 ^ (exqB b - exqB a).toNat := Nat.mul_le_mul_right _ hb1
    omega
  · rw [Nat.div_lt_iff_lt_mul (Nat.two_pow_pos _)] at hn
    exact hn
/-- The remainder, doubled j times. -/
theorem rt_dbl {M N j : Nat} : 2 * (M * 2 ^ j % N) % N = M * 2 ^ (j + 1) % N := by
  rw [Nat.pow_succ, ← Nat.mul_assoc, Nat.mul_comm _ 2, Nat.mul_mod, Nat.mod_mod, ← Nat.mul_mod]
/-- The float of the remainder, scaled upwards j times. -/
theorem sc_up {rr r F j : Nat} (hr : r < 9007199254740992) (hI : rr < fIN) (h : magV rr = r * 2 ^ (F + eK)) (hj : j ≤ F) : ∃ x, x < fIN ∧ magV x = r * 2 ^ (j + eK) := by
  refine rp_of hr ?_
  have h1 : r * 2 ^ (j + eK) ≤ r * 2 ^ (F + eK) := Nat.mul_le_mul_left _ (Nat.pow_le_pow_right (by decide) (by omega))
  rw [← h] at h1
  exact Nat.le_trans h1 (rp_le ⟨rr, hI, rfl⟩)
theorem sc_dn {r j : Nat} (hr : r < 9007199254740992) (hj : j ≤ eK) : ∃ x, x < fIN ∧ magV x = r * 2 ^ (eK - j) := by
  refine rp_of hr (Nat.le_trans ?_ (big_ok hr))
  exact Nat.mul_le_mul_left _ (Nat.pow_le_pow_right (by decide) (by omega))
/-- A small whole number as a float. -/
theorem nearest_small (r : Nat) (hr : r < 9007199254740992) : ∃ x, x < fIN ∧ magV x = r * 2 ^ eK ∧ double.nearest false r 0 = x := by
  obtain ⟨x, h1, h2⟩ := sc_dn (j := 0) hr (by omega)
  refine ⟨x, h1, h2, ?_⟩
  by_cases h0 : r = 0
  · subst h0
    have : x = 0 := mag_inj (by rw [h2, mag_zero]; simp)
    subst this
    rfl
  · have hK := eK_eq
    rw [near_exact false r eK 0 x 0 (by omega) (by omega) (by rw [h2]; simp) h1]
    rfl
end Go.Proofs.YtdkbhliafilghaaGreatDoor
