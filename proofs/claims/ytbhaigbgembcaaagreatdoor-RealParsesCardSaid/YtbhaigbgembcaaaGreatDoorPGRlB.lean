/- Hashes, plainly: Horner's rule modulo a prime; a power of two doubled step by step. The parts of a float's pattern: the bits. -/
import Derived.Test.YtbhaigbgembcaaaGreatDoorPDig
import Derived.Test.YtbhaigbgembcaaaGreatDoorPGRlA
import Derived.Laws.BitsAllLaws
import Derived.WalkKit
namespace Go.Proofs.YtbhaigbgembcaaaGreatDoor
section
set_option linter.unusedVariables false
theorem val_dropH (b : Int) (ws : List Int) {k : Nat} (hk : k < ws.length) : val b (ws.drop k) = ws.getD k 0 + b * val b (ws.drop (k + 1)) := by
  rw [List.drop_eq_getElem_cons hk]
  simp [val, List.getD_eq_getElem?_getD, List.getElem?_eq_getElem hk]
def hP : Int := 2147483647
theorem horner (B L V d : Int) (h : B % 2147483647 = L) : (V % 2147483647 * L + d % 2147483647) % 2147483647 = (d + B * V) % 2147483647 := by
  subst h
  rw [Int.add_emod, Int.emod_emod_of_dvd _ (Int.dvd_refl _), ← Int.mul_emod, Int.mul_comm V B, ← Int.add_emod, Int.add_comm]
/-- The hash of limbs from the k-th on. -/
def hh (b : Int) (ws : List Int) (k : Nat) : Int := val b (ws.drop k) % 2147483647
theorem hh_end (b : Int) (ws : List Int) {k : Nat} (hk : ws.length ≤ k) : hh b ws k = 0 := by unfold hh; rw [List.drop_of_length_le hk]; rfl
theorem hh_step (b L : Int) (h : b % 2147483647 = L) (ws : List Int) {k : Nat} (hk : k < ws.length) : hh b ws k = (hh b ws (k + 1) * L + ws.getD k 0 % 2147483647) % 2147483647 := by
  unfold hh
  rw [horner b L _ _ h, ← val_dropH b ws hk]
theorem hh_lo (b : Int) (ws : List Int) (k : Nat) : 0 ≤ hh b ws k ∧ hh b ws k < 2147483647 := by unfold hh; omega
theorem hh_step10 (ws : List Int) {k : Nat} (hk : k < ws.length) : hh 10 ws k = (10 * hh 10 ws (k + 1) + ws.getD k 0) % 2147483647 := by
  have h := hh_step 10 10 (by decide) ws hk
  rw [h, Int.mul_comm, Int.add_emod, Int.emod_emod_of_dvd _ (Int.dvd_refl _), ← Int.add_emod]
/-- Doubled j times. -/
def db (m j : Nat) : Nat := m % 2147483647 * 2 ^ j % 2147483647
theorem db_zero (m : Nat) : db m 0 = m % 2147483647 := by unfold db; simp
theorem db_step (m j : Nat) : db m (j + 1) = db m j * 2 % 2147483647 := by
  unfold db
  rw [Nat.pow_succ, ← Nat.mul_assoc]
  exact (Nat.mod_mul_mod _ _ _).symm
theorem db_lt (m j : Nat) : db m j < 2147483647 := Nat.mod_lt _ (by decide)
end
section
open Go Ieee
set_option linter.unusedVariables false
set_option linter.unusedSimpArgs false
def expB (b : Nat) : Nat := b / 4503599627370496 % 2048
def frcB (b : Nat) : Nat := b % 4503599627370496
def manB (b : Nat) : Nat := if expB b = 0 then frcB b else frcB b + 4503599627370496
def exqB (b : Nat) : Int := if expB b = 0 then -1074 else (expB b : Int) - 1075
theorem exp_lt (b : Nat) : expB b < 2048 := Nat.mod_lt _ (by decide)
theorem frc_lt (b : Nat) : frcB b < 4503599627370496 := Nat.mod_lt _ (by decide)
theorem man_lt (b : Nat) : manB b < 9007199254740992 := by
  unfold manB
  have h := frc_lt b
  split <;> omega
theorem exq_lo (b : Nat) : -1074 ≤ exqB b ∧ exqB b ≤ 972 := by
  unfold exqB
  have h := exp_lt b
  split <;> omega
theorem and_exp (b : Nat) (hb : b < 18446744073709551616) : bits .and .u64 ((b : Int) / 4503599627370496) 2047 = ((expB b : Nat) : Int) := by
  have h := u64_and_nat (b / 4503599627370496) 2047 (by omega) (by omega)
  rw [show (b / 4503599627370496) &&& 2047 = (b / 4503599627370496) % 2048 from Nat.and_two_pow_sub_one_eq_mod _ 11] at h
  exact h
theorem and_frc (b : Nat) (hb : b < 18446744073709551616) : bits .and .u64 (b : Int) 4503599627370495 = ((frcB b : Nat) : Int) := by
  have h := u64_and_nat b 4503599627370495 hb (by omega)
  rw [show b &&& 4503599627370495 = b % 4503599627370496 from Nat.and_two_pow_sub_one_eq_mod _ 52] at h
  exact h
theorem or_top {m : Nat} (h : m < 4503599627370496) : m ||| 4503599627370496 = m + 4503599627370496 := by
  have h1 := Nat.two_pow_add_eq_or_of_lt (i := 52) (b := m) (by simpa using h) 1
  rw [Nat.or_comm, Nat.add_comm m]
  simpa using h1.symm
theorem or_i64 {m : Nat} (h : m < 4503599627370496) : bits .or .i64 (m : Int) 4503599627370496 = ((m + 4503599627370496 : Nat) : Int) := by
  have e1 : (BitVec.ofInt 64 (m : Int)).toNat = m := ofInt_u64 m (by omega)
  have e2 : (BitVec.ofInt 64 4503599627370496).toNat = 4503599627370496 := by decide
  show IntKind.i64.wrap ((BitVec.ofInt 64 (m : Int) ||| BitVec.ofInt 64 4503599627370496).toNat : Int) = _
  rw [BitVec.toNat_or, e1, e2, or_top h, IntWalk.i64_in _ (by omega)]
/-- The power of two: the exponent modulo 31. -/
def pwB (b : Nat) : Nat := (exqB b % 31).toNat
theorem pw_lt (b : Nat) : pwB b < 31 := by unfold pwB; omega
/-- The hash's size. -/
def hsB (b : Nat) : Nat := db (manB b) (pwB b)
theorem tmod31 (e : Int) : (Int.tmod e 31 + 31).tmod 31 = e % 31 := by
  have h1 := Int.tmod_def e 31
  have h2 : e.tmod 31 = if 0 ≤ e then e % 31 else -((-e) % 31) := by
    split
    · exact Int.tmod_eq_emod_of_nonneg ‹_›
    · have h3 : e = -(-e) := by omega
      rw [h3, Int.neg_tmod, Int.tmod_eq_emod_of_nonneg (by omega)]
      simp
  rw [h2]
  split
  · rw [Int.tmod_eq_emod_of_nonneg (by omega)]; omega
  · rw [Int.tmod_eq_emod_of_nonneg (by omega)]; omega
end
end Go.Proofs.YtbhaigbgembcaaaGreatDoor
