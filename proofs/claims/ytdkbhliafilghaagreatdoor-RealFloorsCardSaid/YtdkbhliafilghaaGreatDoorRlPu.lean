/- Floats of 64 bits, plainly: NaN, order, sums, by their patterns. -/
import Derived.Laws.FloatArith
namespace Go.Proofs.YtdkbhliafilghaaGreatDoor
open Go Ieee
set_option linter.unusedVariables false
set_option linter.unusedSimpArgs false
def fSG : Nat := 9223372036854775808
def fIN : Nat := 9218868437227405312
def nanB (b : Nat) : Bool := decide (fIN < b % fSG)
def negB (b : Nat) : Bool := b / fSG % 2 == 1
/-- A finite pattern's size, in units of the least one. -/
def magV (r : Nat) : Nat := if r < 4503599627370496 then r else (4503599627370496 + r % 4503599627370496) * 2 ^ (r / 4503599627370496 - 1)
theorem sw_d : double.signWeight = fSG := by rfl
theorem in_d : double.infRung = fIN := by rfl
theorem bi_d : double.binade = 4503599627370496 := by rfl
theorem lp_d : double.leastPlace = -1074 := by rfl
/-- What a pattern stands for. -/
theorem read_d (x : Nat) : (nanB x = true ∧ ∃ t, double.read x = .nan (negB x) t) ∨ (nanB x = false ∧ x % fSG = fIN ∧ double.read x = .infinity (negB x)) ∨
    (nanB x = false ∧ x % fSG < fIN ∧ ∃ m e : Nat, double.read x = .number (negB x) m ((e : Int) - 1074) ∧ m * 2 ^ e = magV (x % fSG)) := by
  unfold Format.read
  rw [sw_d, in_d, bi_d, lp_d]
  change (nanB x = true ∧ ∃ t, (if x % fSG < 4503599627370496 then Datum.number (negB x) (x % fSG) (-1074) else if x % fSG < fIN then Datum.number (negB x) (4503599627370496 + x % fSG % 4503599627370496) (-1074 + ((x % fSG / 4503599627370496 - 1 : Nat) : Int)) else if x % fSG = fIN then Datum.infinity (negB x) else Datum.nan (negB x) (x % fSG - fIN)) = .nan (negB x) t) ∨ (nanB x = false ∧ x % fSG = fIN ∧ (if x % fSG < 4503599627370496 then Datum.number (negB x) (x % fSG) (-1074) else if x % fSG < fIN then Datum.number (negB x) (4503599627370496 + x % fSG % 4503599627370496) (-1074 + ((x % fSG / 4503599627370496 - 1 : Nat) : Int)) else if x % fSG = fIN then Datum.infinity (negB x) else Datum.nan (negB x) (x % fSG - fIN)) = .infinity (negB x)) ∨ (nanB x = false ∧ x % fSG < fIN ∧ ∃ m e : Nat, (if x % fSG < 4503599627370496 then Datum.number (negB x) (x % fSG) (-1074) else if x % fSG < fIN then Datum.number (negB x) (4503599627370496 + x % fSG % 4503599627370496) (-1074 + ((x % fSG / 4503599627370496 - 1 : Nat) : Int)) else if x % fSG = fIN then Datum.infinity (negB x) else Datum.nan (negB x) (x % fSG - fIN)) = .number (negB x) m ((e : Int) - 1074) ∧ m * 2 ^ e = magV (x % fSG))
  have h1 : fIN = 9218868437227405312 := rfl
  by_cases h : x % fSG < 4503599627370496
  · rw [if_pos h]
    refine .inr (.inr ⟨by unfold nanB; simp; omega, by omega, x % fSG, 0, ?_, ?_⟩)
    · rfl
    · unfold magV; rw [if_pos h]; simp
  · rw [if_neg h]
    by_cases h2 : x % fSG < fIN
    · rw [if_pos h2]
      refine .inr (.inr ⟨by unfold nanB; simp; omega, h2, 4503599627370496 + x % fSG % 4503599627370496, x % fSG / 4503599627370496 - 1, ?_, ?_⟩)
      · rw [Datum.number.injEq]
        exact ⟨rfl, rfl, by omega⟩
      · unfold magV; rw [if_neg h]
    · rw [if_neg h2]
      by_cases h3 : x % fSG = fIN
      · rw [if_pos h3]
        exact .inr (.inl ⟨by unfold nanB; simp; omega, h3, rfl⟩)
      · rw [if_neg h3]
        exact .inl ⟨by unfold nanB; simp; omega, _, rfl⟩
theorem mag_step (r : Nat) : magV r < magV (r + 1) := by
  unfold magV
  by_cases h : r + 1 < 4503599627370496
  · rw [if_pos h, if_pos (by omega)]; omega
  · rw [if_neg h]
    by_cases h1 : r < 4503599627370496
    · rw [if_pos h1]
      have : r + 1 = 4503599627370496 := by omega
      rw [this]; simp; omega
    · rw [if_neg h1]
      by_cases h2 : r % 4503599627370496 = 4503599627370495
      · have e1 : (r + 1) % 4503599627370496 = 0 := by omega
        have e2 : (r + 1) / 4503599627370496 - 1 = (r / 4503599627370496 - 1) + 1 := by omega
        rw [e1, e2, h2, Nat.pow_succ]
        have : 0 < 2 ^ (r / 4503599627370496 - 1) := Nat.two_pow_pos _
        generalize 2 ^ (r / 4503599627370496 - 1) = p at *
        omega
      · have e1 : (r + 1) % 4503599627370496 = r % 4503599627370496 + 1 := by omega
        have e2 : (r + 1) / 4503599627370496 - 1 = r / 4503599627370496 - 1 := by omega
        rw [e1, e2]
        exact Nat.mul_lt_mul_of_pos_right (by omega) (Nat.two_pow_pos _)
theorem mag_lt {r s : Nat} (h : r < s) : magV r < magV s := by
  induction s with
  | zero => omega
  | succ s ih =>
    rcases Nat.lt_or_ge r s with h1 | h1
    · exact Nat.lt_trans (ih h1) (mag_step s)
    · have : r = s := by omega
      subst this; exact mag_step r
theorem mag_zero : magV 0 = 0 := rfl
/-- A pattern's place among the numbers. -/
def placeZ (b : Nat) : Int := if negB b = true then -((b % fSG : Nat) : Int) else ((b % fSG : Nat) : Int)
/-- A finite pattern's number, in units of the least one. -/
def valZ (b : Nat) : Int := if negB b = true then -((magV (b % fSG) : Nat) : Int) else ((magV (b % fSG) : Nat) : Int)
theorem fval_lt {a b : Nat} : placeZ a < placeZ b ↔ valZ a < valZ b := by
  have key : ∀ {r s : Nat}, (r < s ↔ magV r < magV s) := fun {r s} => ⟨mag_lt, fun h => by
    rcases Nat.lt_or_ge r s with h1 | h1
    · exact h1
    · rcases Nat.lt_or_eq_of_le h1 with h2 | h2
      · have := mag_lt h2; omega
      · rw [h2] at h; omega⟩
  have k0 : ∀ r, (0 < r ↔ 0 < magV r) := fun r => by have := @key 0 r; rwa [mag_zero] at this
  unfold placeZ valZ
  cases negB a <;> cases negB b <;> simp only [if_true, if_false, Bool.false_eq_true]
  · have := @key (a % fSG) (b % fSG); omega
  · have h1 := k0 (a % fSG); have h2 := k0 (b % fSG); omega
  · have h1 := k0 (a % fSG); have h2 := k0 (b % fSG); omega
  · have := @key (b % fSG) (a % fSG); omega
theorem signed_scale (s : Bool) (m i k : Nat) : signed s m (i + k) = signed s m i * ((2 ^ k : Nat) : Int) := by
  unfold signed
  rw [Nat.shiftLeft_eq, Nat.shiftLeft_eq, Nat.pow_add, ← Nat.mul_assoc]
  cases s <;> simp [Int.neg_mul]
theorem cmp_scale (a b : Int) (k : Nat) : compare (a * ((2 ^ k : Nat) : Int)) (b * ((2 ^ k : Nat) : Int)) = compare a b := by
  have hp : (0 : Int) < ((2 ^ k : Nat) : Int) := by exact_mod_cast Nat.two_pow_pos k
  have h1 : (a * ((2 ^ k : Nat) : Int) < b * ((2 ^ k : Nat) : Int)) ↔ a < b := Int.mul_lt_mul_right hp
  have h2 : (a * ((2 ^ k : Nat) : Int) = b * ((2 ^ k : Nat) : Int)) ↔ a = b := Int.mul_eq_mul_right_iff (by omega)
  simp only [compare, compareOfLessAndEq, h1, h2]
theorem signed_val (x m e : Nat) (h : m * 2 ^ e = magV (x % fSG)) : signed (negB x) m e = valZ x := by
  unfold signed valZ
  rw [Nat.shiftLeft_eq, h]
/-- How two numbers stand to each other. -/
theorem order_d {x y : Nat} (hx : nanB x = false) (hy : nanB y = false) : double.order x y = some (compare (placeZ x) (placeZ y)) := by
  have hI : fIN = 9218868437227405312 := rfl
  unfold Format.order
  rcases read_d x with ⟨h, _⟩ | ⟨_, h1, h2⟩ | ⟨_, h1, m, e, h2, h3⟩
  · rw [h] at hx; cases hx
  · rcases read_d y with ⟨h, _⟩ | ⟨_, k1, k2⟩ | ⟨_, k1, n, f, k2, k3⟩
    · rw [h] at hy; cases hy
    · rw [h2, k2]
      unfold placeZ
      rw [h1, k1]
      cases negB x <;> cases negB y <;> rfl
    · rw [h2, k2]
      unfold Datum.order placeZ
      rw [h1]
      cases negB x <;> cases negB y <;> simp only [if_true, if_false, Bool.false_eq_true, compare, compareOfLessAndEq] <;> refine congrArg some ?_
      all_goals first | (rw [if_neg (by omega), if_neg (by omega)]; done) | (rw [if_pos (by omega)]; done)
  · rcases read_d y with ⟨h, _⟩ | ⟨_, k1, k2⟩ | ⟨_, k1, n, f, k2, k3⟩
    · rw [h] at hy; cases hy
    · rw [h2, k2]
      unfold Datum.order placeZ
      rw [k1]
      cases negB x <;> cases negB y <;> simp only [if_true, if_false, Bool.false_eq_true, compare, compareOfLessAndEq] <;> refine congrArg some ?_
      all_goals first | (rw [if_neg (by omega), if_neg (by omega)]; done) | (rw [if_pos (by omega)]; done)
    · rw [h2, k2]
      unfold Datum.order
      refine congrArg some ?_
      have e1 : ((e : Int) - 1074 - min ((e : Int) - 1074) ((f : Int) - 1074)).toNat = e - min e f := by omega
      have e2 : ((f : Int) - 1074 - min ((e : Int) - 1074) ((f : Int) - 1074)).toNat = f - min e f := by omega
      rw [e1, e2, ← cmp_scale _ _ (min e f), ← signed_scale, ← signed_scale, show e - min e f + min e f = e by omega, show f - min e f + min e f = f by omega, signed_val x m e h3, signed_val y n f k3]
      have a1 := @fval_lt x y
      have a2 := @fval_lt y x
      simp only [compare, compareOfLessAndEq]
      by_cases c1 : placeZ x < placeZ y
      · rw [if_pos c1, if_pos (a1.1 c1)]
      · rw [if_neg c1, if_neg (fun h => c1 (a1.2 h))]
        by_cases c2 : placeZ x = placeZ y
        · rw [if_pos c2, if_pos (by omega)]
        · rw [if_neg c2, if_neg (by omega)]
theorem order_nan {x y : Nat} (h : nanB x = true ∨ nanB y = true) : double.order x y = none := by
  unfold Format.order
  rcases h with h | h
  · rcases read_d x with ⟨_, t, h2⟩ | ⟨h1, _⟩ | ⟨h1, _⟩
    · rw [h2]; rfl
    · rw [h] at h1; cases h1
    · rw [h] at h1; cases h1
  · rcases read_d y with ⟨_, t, h2⟩ | ⟨h1, _⟩ | ⟨h1, _⟩
    · rw [h2]; cases double.read x <;> rfl
    · rw [h] at h1; cases h1
    · rw [h] at h1; cases h1
/-- A number is unlike itself just if it is NaN. -/
theorem self_neq (x : Nat) : (double.order x x != some .eq) = nanB x := by
  cases h : nanB x
  · rw [order_d h h]; simp [compare, compareOfLessAndEq]
  · rw [order_nan (.inl h)]; rfl
end Go.Proofs.YtdkbhliafilghaaGreatDoor
