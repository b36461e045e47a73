/- Hashes, plainly: Horner's rule modulo a prime; a power of two doubled step by step. -/
import Derived.Test.YtdkbhliafilghaaGreatDoorDig
namespace Go.Proofs.YtdkbhliafilghaaGreatDoor
set_option linter.unusedVariables false
theorem val_dropH (b : Int) (ws : List Int) {k : Nat} (hk : k < ws.length) : val b (ws.drop k) = ws.getD k 0 + b * val b (ws.drop (k + 1)) := by
  rw [List.drop_eq_getElem_cons hk]
  simp [val, List.getD_eq_getElem?_getD, List.getElem?_eq_getElem hk]
def hP : Int := 2147483647
theorem horner (B L V d : Int) (h : B % 2147483647 = L) : (V % 2147483647 * L + d % 2147483647) % 2147483647 = (d + B * V) % 2147483647 := by
  subst h
  rw [Int.add_emod, Int.emod_emod_of_dvd _ (Int.dvd_refl _), ← Int.mul_emod, Int.mul_comm V B, ← Int.add_emod, Int.add_comm]
/-- The hash of limbs from the k-th on. -/
def hh (b : Int) (ws : List Int) (k : Nat) : Int := val b (ws.drop k) % 2147483647
theorem hh_end (b : Int) (ws : List Int) {k : Nat} (hk : ws.length ≤ k) : hh b ws k = 0 := by unfold hh; rw [List.drop_of_length_le hk]; rfl
theorem hh_step (b L : Int) (h : b % 2147483647 = L) (ws : List Int) {k : Nat} (hk : k < ws.length) : hh b ws k = (hh b ws (k + 1) * L + ws.getD k 0 % 2147483647) % 2147483647 := by
  unfold hh
  rw [horner b L _ _ h, ← val_dropH b ws hk]
theorem hh_lo (b : Int) (ws : List Int) (k : Nat) : 0 ≤ hh b ws k ∧ hh b ws k < 2147483647 := by unfold hh; omega
theorem hh_step10 (ws : List Int) {k : Nat} (hk : k < ws.length) : hh 10 ws k = (10 * hh 10 ws (k + 1) + ws.getD k 0) % 2147483647 := by
  have h := hh_step 10 10 (by decide) ws hk
  rw [h, Int.mul_comm, Int.add_emod, Int.emod_emod_of_dvd _ (Int.dvd_refl _), ← Int.add_emod]
/-- Doubled j times. -/
def db (m j : Nat) : Nat := m % 2147483647 * 2 ^ j % 2147483647
theorem db_zero (m : Nat) : db m 0 = m % 2147483647 := by unfold db; simp
theorem db_step (m j : Nat) : db m (j + 1) = db m j * 2 % 2147483647 := by
  unfold db
  rw [Nat.pow_succ, ← Nat.mul_assoc]
  exact (Nat.mod_mul_mod _ _ _).symm
theorem db_lt (m j : Nat) : db m j < 2147483647 := Nat.mod_lt _ (by decide)
end Go.Proofs.YtdkbhliafilghaaGreatDoor
