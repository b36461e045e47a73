/- Floats of 64 bits, plainly: NaN, order, sums, by their patterns. Floats cut towards 0, plainly. Sums and products of floats, plainly. The sign bit and the bits below it. -/
import Derived.Laws.FloatArith
import Derived.Laws.BitsAllLaws
namespace Go.Proofs.YtpebnofjcodikaaGreatDoor
section
open Go Ieee
set_option linter.unusedVariables false
set_option linter.unusedSimpArgs false
def fSG : Nat := 9223372036854775808
def fIN : Nat := 9218868437227405312
def nanB (b : Nat) : Bool := decide (fIN < b % fSG)
def negB (b : Nat) : Bool := b / fSG % 2 == 1
/-- A finite pattern's size, in units of the least one. -/
def magV (r : Nat) : Nat := if r < 4503599627370496 then r else (4503599627370496 + r % 4503599627370496) * 2 ^ (r / 4503599627370496 - 1)
theorem sw_d : double.signWeight = fSG := by rfl
theorem in_d : double.infRung = fIN := by rfl
theorem bi_d : double.binade = 4503599627370496 := by rfl
theorem lp_d : double.leastPlace = -1074 := by rfl
/-- What a pattern stands for. -/
theorem read_d (x : Nat) : (nanB x = true ∧ ∃ t, double.read x = .nan (negB x) t) ∨ (nanB x = false ∧ x % fSG = fIN ∧ double.read x = .infinity (negB x)) ∨
    (nanB x = false ∧ x % fSG < fIN ∧ ∃ m e : Nat, double.read x = .number (negB x) m ((e : Int) - 1074) ∧ m * 2 ^ e = magV (x % fSG)) := by
  unfold Format.read
  rw [sw_d, in_d, bi_d, lp_d]
  change (nanB x = true ∧ ∃ t, (if x % fSG < 4503599627370496 then Datum.number (negB x) (x % fSG) (-1074) else if x % fSG < fIN then Datum.number (negB x) (4503599627370496 + x % fSG % 4503599627370496) (-1074 + ((x % fSG / 4503599627370496 - 1 : Nat) : Int)) else if x % fSG = fIN then Datum.infinity (negB x) else Datum.nan (negB x) (x % fSG - fIN)) = .nan (negB x) t) ∨ (nanB x = false ∧ x % fSG = fIN ∧ (if x % fSG < 4503599627370496 then Datum.number (negB x) (x % fSG) (-1074) else if x % fSG < fIN then Datum.number (negB x) (4503599627370496 + x % fSG % 4503599627370496) (-1074 + ((x % fSG / 4503599627370496 - 1 : Nat) : Int)) else if x % fSG = fIN then Datum.infinity (negB x) else Datum.nan (negB x) (x % fSG - fIN)) = .infinity (negB x)) ∨ (nanB x = false ∧ x % fSG < fIN ∧ ∃ m e : Nat, (if x % fSG < 4503599627370496 then Datum.number (negB x) (x % fSG) (-1074) else if x % fSG < fIN then Datum.number (negB x) (4503599627370496 + x % fSG % 4503599627370496) (-1074 + ((x % fSG / 4503599627370496 - 1 : Nat) : Int)) else if x % fSG = fIN then Datum.infinity (negB x) else Datum.nan (negB x) (x % fSG - fIN)) = .number (negB x) m ((e : Int) - 1074) ∧ m * 2 ^ e = magV (x % fSG))
  have h1 : fIN = 9218868437227405312 := rfl
  by_cases h : x % fSG < 4503599627370496
  · rw [if_pos h]
    refine .inr (.inr ⟨by unfold nanB; simp; omega, by omega, x % fSG, 0, ?_, ?_⟩)
    · rfl
    · unfold magV; rw [if_pos h]; simp
  · rw [if_neg h]
    by_cases h2 : x % fSG < fIN
    · rw [if_pos h2]
      refine .inr (.inr ⟨by unfold nanB; simp; omega, h2, 4503599627370496 + x % fSG % 4503599627370496, x % fSG / 4503599627370496 - 1, ?_, ?_⟩)
      · rw [Datum.number.injEq]
        exact ⟨rfl, rfl, by omega⟩
      · unfold magV; rw [if_neg h]
    · rw [if_neg h2]
      by_cases h3 : x % fSG = fIN
      · rw [if_pos h3]
        exact .inr (.inl ⟨by unfold nanB; simp; omega, h3, rfl⟩)
      · rw [if_neg h3]
        exact .inl ⟨by unfold nanB; simp; omega, _, rfl⟩
theorem mag_step (r : Nat) : magV r < magV (r + 1) := by
  unfold magV
  by_cases h : r + 1 < 4503599627370496
  · rw [if_pos h, if_pos (by omega)]; omega
  · rw [if_neg h]
    by_cases h1 : r < 4503599627370496
    · rw [if_pos h1]
      have : r + 1 = 4503599627370496 := by omega
      rw [this]; simp; omega
    · rw [if_neg h1]
      by_cases h2 : r % 4503599627370496 = 4503599627370495
      · have e1 : (r + 1) % 4503599627370496 = 0 := by omega
        have e2 : (r + 1) / 4503599627370496 - 1 = (r / 4503599627370496 - 1) + 1 := by omega
        rw [e1, e2, h2, Nat.pow_succ]
        have : 0 < 2 ^ (r / 4503599627370496 - 1) := Nat.two_pow_pos _
        generalize 2 ^ (r / 4503599627370496 - 1) = p at *
        omega
      · have e1 : (r + 1) % 4503599627370496 = r % 4503599627370496 + 1 := by omega
        have e2 : (r + 1) / 4503599627370496 - 1 = r / 4503599627370496 - 1 := by omega
        rw [e1, e2]
        exact Nat.mul_lt_mul_of_pos_right (by omega) (Nat.two_pow_pos _)
theorem mag_lt {r s : Nat} (h : r < s) : magV r < magV s := by
  induction s with
  | zero => omega
  | succ s ih =>
    rcases Nat.lt_or_ge r s with h1 | h1
    · exact Nat.lt_trans (ih h1) (mag_step s)
    · have : r = s := by omega
      subst this; exact mag_step r
theorem mag_zero : magV 0 = 0 := rfl
/-- A pattern's place among the numbers. -/
def placeZ (b : Nat) : Int := if negB b = true then -((b % fSG : Nat) : Int) else ((b % fSG : Nat) : Int)
/-- A finite pattern's number, in units of the least one. -/
def valZ (b : Nat) : Int := if negB b = true then -((magV (b % fSG) : Nat) : Int) else ((magV (b % fSG) : Nat) : Int)
theorem fval_lt {a b : Nat} : placeZ a < placeZ b ↔ valZ a < valZ b := by
  have key : ∀ {r s : Nat}, (r < s ↔ magV r < magV s) := fun {r s} => ⟨mag_lt, fun h => by
    rcases Nat.lt_or_ge r s with h1 | h1
    · exact h1
    · rcases Nat.lt_or_eq_of_le h1 with h2 | h2
      · have := mag_lt h2; omega
      · rw [h2] at h; omega⟩
  have k0 : ∀ r, (0 < r ↔ 0 < magV r) := fun r => by have := @key 0 r; rwa [mag_zero] at this
  unfold placeZ valZ
  cases negB a <;> cases negB b <;> simp only [if_true, if_false, Bool.false_eq_true]
  · have := @key (a % fSG) (b % fSG); omega
  · have h1 := k0 (a % fSG); have h2 := k0 (b % fSG); omega
  · have h1 := k0 (a % fSG); have h2 := k0 (b % fSG); omega
  · have := @key (b % fSG) (a % fSG); omega
theorem signed_scale (s : Bool) (m i k : Nat) : signed s m (i + k) = signed s m i * ((2 ^ k : Nat) : Int) := by
  unfold signed
  rw [Nat.shiftLeft_eq, Nat.shiftLeft_eq, Nat.pow_add, ← Nat.mul_assoc]
  cases s <;> simp [Int.neg_mul]
theorem cmp_scale (a b : Int) (k : Nat) : compare (a * ((2 ^ k : Nat) : Int)) (b * ((2 ^ k : Nat) : Int)) = compare a b := by
  have hp : (0 : Int) < ((2 ^ k : Nat) : Int) := by exact_mod_cast Nat.two_pow_pos k
  have h1 : (a * ((2 ^ k : Nat) : Int) < b * ((2 ^ k : Nat) : Int)) ↔ a < b := Int.mul_lt_mul_right hp
  have h2 : (a * ((2 ^ k : Nat) : Int) = b * ((2 ^ k : Nat) : Int)) ↔ a = b := Int.mul_eq_mul_right_iff (by omega)
  simp only [compare, compareOfLessAndEq, h1, h2]
theorem signed_val (x m e : Nat) (h : m * 2 ^ e = magV (x % fSG)) : signed (negB x) m e = valZ x := by
  unfold signed valZ
  rw [Nat.shiftLeft_eq, h]
/-- How two numbers stand to each other. -/
theorem order_d {x y : Nat} (hx : nanB x = false) (hy : nanB y = false) : double.order x y = some (compare (placeZ x) (placeZ y)) := by
  have hI : fIN = 9218868437227405312 := rfl
  unfold Format.order
  rcases read_d x with ⟨h, _⟩ | ⟨_, h1, h2⟩ | ⟨_, h1, m, e, h2, h3⟩
  · rw [h] at hx; cases hx
  · rcases read_d y with ⟨h, _⟩ | ⟨_, k1, k2⟩ | ⟨_, k1, n, f, k2, k3⟩
    · rw [h] at hy; cases hy
    · rw [h2, k2]
      unfold placeZ
      rw [h1, k1]
      cases negB x <;> cases negB y <;> rfl
    · rw [h2, k2]
      unfold Datum.order placeZ
      rw [h1]
      cases negB x <;> cases negB y <;> simp only [if_true, if_false, Bool.false_eq_true, compare, compareOfLessAndEq] <;> refine congrArg some ?_
      all_goals first | (rw [if_neg (by omega), if_neg (by omega)]; done) | (rw [if_pos (by omega)]; done)
  · rcases read_d y with ⟨h, _⟩ | ⟨_, k1, k2⟩ | ⟨_, k1, n, f, k2, k3⟩
    · rw [h] at hy; cases hy
    · rw [h2, k2]
      unfold Datum.order placeZ
      rw [k1]
      cases negB x <;> cases negB y <;> simp only [if_true, if_false, Bool.false_eq_true, compare, compareOfLessAndEq] <;> refine congrArg some ?_
      all_goals first | (rw [if_neg (by omega), if_neg (by omega)]; done) | (rw [if_pos (by omega)]; done)
    · rw [h2, k2]
      unfold Datum.order
      refine congrArg some ?_
      have e1 : ((e : Int) - 1074 - min ((e : Int) - 1074) ((f : Int) - 1074)).toNat = e - min e f := by omega
      have e2 : ((f : Int) - 1074 - min ((e : Int) - 1074) ((f : Int) - 1074)).toNat = f - min e f := by omega
      rw [e1, e2, ← cmp_scale _ _ (min e f), ← signed_scale, ← signed_scale, show e - min e f + min e f = e by omega, show f - min e f + min e f = f by omega, signed_val x m e h3, signed_val y n f k3]
      have a1 := @fval_lt x y
      have a2 := @fval_lt y x
      simp only [compare, compareOfLessAndEq]
      by_cases c1 : placeZ x < placeZ y
      · rw [if_pos c1, if_pos (a1.1 c1)]
      · rw [if_neg c1, if_neg (fun h => c1 (a1.2 h))]
        by_cases c2 : placeZ x = placeZ y
        · rw [if_pos c2, if_pos (by omega)]
        · rw [if_neg c2, if_neg (by omega)]
theorem order_nan {x y : Nat} (h : nanB x = true ∨ nanB y = true) : double.order x y = none := by
  unfold Format.order
  rcases h with h | h
  · rcases read_d x with ⟨_, t, h2⟩ | ⟨h1, _⟩ | ⟨h1, _⟩
    · rw [h2]; rfl
    · rw [h] at h1; cases h1
    · rw [h] at h1; cases h1
  · rcases read_d y with ⟨_, t, h2⟩ | ⟨h1, _⟩ | ⟨h1, _⟩
    · rw [h2]; cases double.read x <;> rfl
    · rw [h] at h1; cases h1
    · rw [h] at h1; cases h1
/-- A number is unlike itself just if it is NaN. -/
theorem self_neq (x : Nat) : (double.order x x != some .eq) = nanB x := by
  cases h : nanB x
  · rw [order_d h h]; simp [compare, compareOfLessAndEq]
  · rw [order_nan (.inl h)]; rfl
end
section
open Go Ieee
set_option linter.unusedVariables false
set_option linter.unusedSimpArgs false
theorem mdp (a k : Nat) : a * 2 ^ k / 2 ^ k = a := Nat.mul_div_cancel _ (Nat.two_pow_pos k)
/-- The least exponent's size, opaque. -/
@[irreducible] def eK : Nat := 1074
theorem eK_eq : eK = 1074 := by unfold eK; rfl
/-- A finite number's size, cut towards 0. -/
def trV (x : Nat) : Nat := magV (x % fSG) / 2 ^ eK
/-- A row of digits whose end is nought, shortened. -/
theorem cut_exact (s : Bool) (n d : Nat) (h0 : 0 < n) (hd : 2 ^ d ∣ n) : Toward.even.cut s n d = n / 2 ^ d := by
  have h1 : 2 ^ d ≤ n := Nat.le_of_dvd h0 hd
  have h2 : d ≤ n.log2 := (Nat.le_log2 (by omega)).2 h1
  have h3 : n % 2 ^ d = 0 := Nat.mod_eq_zero_of_dvd hd
  have h4 : 0 < 2 ^ d := Nat.two_pow_pos d
  unfold Toward.cut
  rw [Nat.min_eq_left (by omega), Nat.shiftLeft_eq, Nat.one_mul]
  simp only [h3, Nat.mul_zero]
  generalize 2 ^ d = g at h4
  have e1 : (decide (g < 0) || (g == 0 && n / g % 2 == 1)) = false := by
    rw [show (g == 0) = false by simpa using (by omega : g ≠ 0)]; simp
  rw [e1]; rfl
theorem word_mag (k q : Nat) (h1 : 4503599627370496 ≤ q) (h2 : q < 9007199254740992) : magV (k * 4503599627370496 + q) = q * 2 ^ k := by
  unfold magV
  rw [if_neg (by omega)]
  have e1 : (k * 4503599627370496 + q) % 4503599627370496 = q - 4503599627370496 := by omega
  have e2 : (k * 4503599627370496 + q) / 4503599627370496 - 1 = k := by omega
  rw [e1, e2, show 4503599627370496 + (q - 4503599627370496) = q by omega]
theorem fb_d : double.fractionBits = 52 := by rfl
/-- A whole number that a float is, written as one. -/
theorem nearest_int (s : Bool) (g : Nat) (h0 : 0 < g) (hd : 52 < g.log2 → 2 ^ (g.log2 - 52) ∣ g) : ∃ r, double.nearest s g 0 = double.word s (min r fIN) ∧ magV r = g * 2 ^ eK := by
  have hlo : 2 ^ g.log2 ≤ g := Nat.log2_self_le (by omega)
  have hhi : g < 2 ^ (g.log2 + 1) := Nat.lt_log2_self
  unfold Format.nearest
  rw [if_neg (by omega), fb_d, lp_d, bi_d, in_d]
  obtain ⟨l, hl⟩ : ∃ l, g.log2 = l := ⟨_, rfl⟩
  rw [hl] at hlo hhi hd ⊢
  have em : max ((0 : Int) + (l : Int) - ((52 : Nat) : Int)) (-1074) = (l : Int) - 52 := by omega
  simp only [em]
  have hk : (((l : Int) - 52) - -1074).toNat = l + 1022 := by omega
  rw [hk]
  refine ⟨_, rfl, ?_⟩
  by_cases h : l ≤ 52
  · rw [show (0 - ((l : Int) - 52)).toNat = 52 - l by omega, show (((l : Int) - 52) - 0).toNat = 0 by omega, cut_exact s _ 0 (by rw [Nat.shiftLeft_eq]; exact Nat.mul_pos h0 (Nat.two_pow_pos _)) ⟨_, (Nat.one_mul _).symm⟩, Nat.pow_zero, Nat.div_one, Nat.shiftLeft_eq]
    have e1 : 2 ^ l * 2 ^ (52 - l) = 4503599627370496 := by rw [← Nat.pow_add, show l + (52 - l) = 52 by omega]
    have e2 : 2 ^ (l + 1) * 2 ^ (52 - l) = 9007199254740992 := by rw [← Nat.pow_add, show l + 1 + (52 - l) = 53 by omega]
    have g1 : 2 ^ l * 2 ^ (52 - l) ≤ g * 2 ^ (52 - l) := Nat.mul_le_mul_right _ hlo
    have g2 : g * 2 ^ (52 - l) < 2 ^ (l + 1) * 2 ^ (52 - l) := Nat.mul_lt_mul_of_pos_right hhi (Nat.two_pow_pos _)
    rw [e1] at g1
    rw [e2] at g2
    rw [word_mag _ _ g1 g2, Nat.mul_assoc, ← Nat.pow_add, show 52 - l + (l + 1022) = eK by (have hK := eK_eq; omega)]
  · have hdv := hd (by omega)
    rw [show (0 - ((l : Int) - 52)).toNat = 0 by omega, show (((l : Int) - 52) - 0).toNat = l - 52 by omega, Nat.shiftLeft_zero, cut_exact s _ _ h0 hdv]
    obtain ⟨q, hq⟩ := hdv
    have hp : 0 < 2 ^ (l - 52) := Nat.two_pow_pos _
    have e0 : g / 2 ^ (l - 52) = q := by rw [hq, Nat.mul_div_cancel_left _ hp]
    have e1 : 2 ^ l = 2 ^ (l - 52) * 4503599627370496 := by rw [show (4503599627370496 : Nat) = 2 ^ 52 by rfl, ← Nat.pow_add, show l - 52 + 52 = l by omega]
    have e2 : 2 ^ (l + 1) = 2 ^ (l - 52) * 9007199254740992 := by rw [show (9007199254740992 : Nat) = 2 ^ 53 by rfl, ← Nat.pow_add, show l - 52 + 53 = l + 1 by omega]
    rw [e1, hq] at hlo
    rw [e2, hq] at hhi
    have g1 : 4503599627370496 ≤ q := Nat.le_of_mul_le_mul_left hlo hp
    have g2 : q < 9007199254740992 := Nat.lt_of_mul_lt_mul_left hhi
    rw [e0, word_mag _ _ g1 g2, hq, show l + 1022 = l - 52 + eK by (have hK := eK_eq; omega), Nat.pow_add, ← Nat.mul_assoc, Nat.mul_comm q]
theorem word_d (s : Bool) (r : Nat) (h : r < fIN) : double.word s r % fSG = r ∧ negB (double.word s r) = s ∧ double.word s r < 18446744073709551616 ∧ nanB (double.word s r) = false := by
  have e1 : fSG = 9223372036854775808 := rfl
  have e2 : fIN = 9218868437227405312 := rfl
  have e3 : double.word s r = (if s = true then fSG else 0) + r := by
    unfold Format.word
    rw [sw_d]
    cases s <;> simp
  unfold nanB negB
  rw [e2] at h
  cases s
  · have e4 : double.word false r = r := by rw [e3]; simp
    rw [e4, e1, e2]
    exact ⟨by omega, by simp; omega, by omega, by simp; omega⟩
  · have e4 : double.word true r = 9223372036854775808 + r := by rw [e3, if_pos rfl, e1]
    rw [e4, e1, e2]
    exact ⟨by omega, by simp; omega, by omega, by simp; omega⟩
end
section
open Go Ieee
set_option linter.unusedVariables false
set_option linter.unusedSimpArgs false
def fNaN : Nat := 9221120237041090560
def patB (b : Nat) : Nat := if nanB b = true then fNaN else b
def outB (o : Option Nat) : Nat := match o with | some r => patB r | none => fNaN
def flipB (b : Nat) : Nat := if b < fSG then b + fSG else b - fSG
def addB (x y : Nat) : Nat := outB (double.add x y)
def subB (x y : Nat) : Nat := outB (double.sub x y)
def mulB (x y : Nat) : Nat := outB (double.mul x y)
def negV (x : Nat) : Nat := patB (flipB x)
theorem flip_mod {b : Nat} (h : b < 18446744073709551616) : flipB b % fSG = b % fSG ∧ negB (flipB b) = !negB b := by
  have h1 : fSG = 9223372036854775808 := rfl
  unfold flipB negB
  by_cases h2 : b < fSG
  · rw [if_pos h2]
    have e1 : b / fSG = 0 := by rw [h1] at *; omega
    have e2 : (b + fSG) / fSG = 1 := by rw [h1] at *; omega
    rw [e1, e2]
    refine ⟨by rw [h1] at *; omega, rfl⟩
  · rw [if_neg h2]
    have e1 : b / fSG = 1 := by rw [h1] at *; omega
    have e2 : (b - fSG) / fSG = 0 := by rw [h1] at *; omega
    rw [e1, e2]
    refine ⟨by rw [h1] at *; omega, rfl⟩
theorem flip_flip {b : Nat} (h : b < 18446744073709551616) : flipB (flipB b) = b := by
  have h1 : fSG = 9223372036854775808 := rfl
  unfold flipB
  by_cases h2 : b < fSG
  · rw [if_pos h2, if_neg (by omega)]; omega
  · rw [if_neg h2, if_pos (by omega)]; omega
theorem nan_flip {b : Nat} (h : b < 18446744073709551616) : nanB (flipB b) = nanB b := by unfold nanB; rw [(flip_mod h).1]
theorem sum_comm (a b : Datum) : a.sum b = b.sum a := by
  cases a with
  | nan s t => cases b <;> rfl
  | infinity s =>
    cases b with
    | nan t u => rfl
    | infinity t => cases s <;> cases t <;> rfl
    | number t n j => rfl
  | number s m i =>
    cases b with
    | nan t u => rfl
    | infinity t => rfl
    | number t n j =>
      show some (Datum.number (if signed s m (i - min i j).toNat + signed t n (j - min i j).toNat = 0 then s && t else decide (signed s m (i - min i j).toNat + signed t n (j - min i j).toNat < 0)) (signed s m (i - min i j).toNat + signed t n (j - min i j).toNat).natAbs (min i j)) = some (Datum.number (if signed t n (j - min j i).toNat + signed s m (i - min j i).toNat = 0 then t && s else decide (signed t n (j - min j i).toNat + signed s m (i - min j i).toNat < 0)) (signed t n (j - min j i).toNat + signed s m (i - min j i).toNat).natAbs (min j i))
      rw [Int.min_comm j i, Int.add_comm (signed t n _) (signed s m _), Bool.and_comm t s]
theorem product_comm (a b : Datum) : a.product b = b.product a := by
  cases a with
  | nan s t => cases b <;> rfl
  | infinity s =>
    cases b with
    | nan t u => rfl
    | infinity t => cases s <;> cases t <;> rfl
    | number t n j => cases s <;> cases t <;> rfl
  | number s m i =>
    cases b with
    | nan t u => rfl
    | infinity t => cases s <;> cases t <;> rfl
    | number t n j =>
      show some (Datum.number (s ^^ t) (m * n) (i + j)) = some (Datum.number (t ^^ s) (n * m) (j + i))
      rw [Bool.xor_comm, Nat.mul_comm, Int.add_comm]
theorem add_comm (x y : Nat) : addB x y = addB y x := by unfold addB Format.add; rw [sum_comm]
theorem mul_comm (x y : Nat) : mulB x y = mulB y x := by unfold mulB Format.mul; rw [product_comm]
theorem signed_opp (s : Bool) (m k : Nat) : signed s m k + signed (!s) m k = 0 := by unfold signed; cases s <;> simp <;> omega
/-- A number less itself. -/
theorem sub_self {x : Nat} (h : nanB x = false) : subB x x = if x % fSG = fIN then fNaN else 0 := by
  unfold subB Format.sub
  rcases read_d x with ⟨h1, _⟩ | ⟨_, h1, h2⟩ | ⟨_, h1, m, e, h2, h3⟩
  · rw [h] at h1; cases h1
  · rw [h2, if_pos h1]
    cases negB x <;> rfl
  · rw [h2, if_neg (by omega)]
    show outB (((Datum.number (negB x) m ((e : Int) - 1074)).sum (Datum.number (!negB x) m ((e : Int) - 1074))).map double.write) = 0
    show outB (some (double.write (Datum.number (if signed (negB x) m (((e : Int) - 1074) - min ((e : Int) - 1074) ((e : Int) - 1074)).toNat + signed (!negB x) m (((e : Int) - 1074) - min ((e : Int) - 1074) ((e : Int) - 1074)).toNat = 0 then negB x && !negB x else _) (signed (negB x) m (((e : Int) - 1074) - min ((e : Int) - 1074) ((e : Int) - 1074)).toNat + signed (!negB x) m (((e : Int) - 1074) - min ((e : Int) - 1074) ((e : Int) - 1074)).toNat).natAbs _))) = 0
    rw [signed_opp, if_pos rfl]
    cases negB x <;> rfl
/-- -x behind -x. -/
theorem neg_neg {x : Nat} (h : nanB x = false) (hx : x < 18446744073709551616) : negV (negV x) = x := by
  have h1 := nan_flip hx
  unfold negV
  have e1 : patB (flipB x) = flipB x := by unfold patB; rw [h1, h, if_neg (by simp)]
  rw [e1, flip_flip hx]
  unfold patB; rw [h, if_neg (by simp)]
/-- The order, as -1, 0, 1. -/
def cmpZ (x y : Nat) : Int := if placeZ x < placeZ y then -1 else if placeZ y < placeZ x then 1 else 0
/-- The three comparisons. -/
theorem lt_d {x y : Nat} (hx : nanB x = false) (hy : nanB y = false) : (double.order x y == some .lt) = decide (placeZ x < placeZ y) := by
  rw [order_d hx hy]
  simp only [compare, compareOfLessAndEq]
  by_cases h1 : placeZ x < placeZ y
  · rw [if_pos h1]; simp [h1]
  · rw [if_neg h1]
    by_cases h2 : placeZ x = placeZ y
    · rw [if_pos h2]; simp [h1]
    · rw [if_neg h2]; simp [h1]
theorem gt_d {x y : Nat} (hx : nanB x = false) (hy : nanB y = false) : (double.order x y == some .gt) = decide (placeZ y < placeZ x) := by
  rw [order_d hx hy]
  simp only [compare, compareOfLessAndEq]
  by_cases h1 : placeZ x < placeZ y
  · rw [if_pos h1]; simp; omega
  · rw [if_neg h1]
    by_cases h2 : placeZ x = placeZ y
    · rw [if_pos h2]; simp; omega
    · rw [if_neg h2]; simp; omega
theorem eq_d {x y : Nat} (hx : nanB x = false) (hy : nanB y = false) : (double.order x y == some .eq) = decide (placeZ x = placeZ y) := by
  rw [order_d hx hy]
  simp only [compare, compareOfLessAndEq]
  by_cases h1 : placeZ x < placeZ y
  · rw [if_pos h1]; simp; omega
  · rw [if_neg h1]
    by_cases h2 : placeZ x = placeZ y
    · rw [if_pos h2]; simp [h2]
    · rw [if_neg h2]; simp [h2]
theorem cmp_nan {x y : Nat} (h : nanB x = true ∨ nanB y = true) (o : Ordering) : (double.order x y == some o) = false := by
  rw [order_nan h]; rfl
end
section
open Go Ieee
set_option linter.unusedVariables false
set_option linter.unusedSimpArgs false
theorem xor_top {b : Nat} (h : b < 18446744073709551616) : b ^^^ 9223372036854775808 = flipB b := by
  have e1 : (b ^^^ 9223372036854775808) % 2 ^ 63 = b % 2 ^ 63 := by
    rw [Nat.xor_mod_two_pow]; simp
  have e2 : (b ^^^ 9223372036854775808) / 2 ^ 63 = (b / 2 ^ 63) ^^^ 1 := by
    rw [Nat.xor_div_two_pow]
  have h1 : fSG = 9223372036854775808 := rfl
  have h2 : b / 2 ^ 63 = 0 ∨ b / 2 ^ 63 = 1 := by omega
  unfold flipB
  rw [h1]
  rcases h2 with h2 | h2
  · rw [h2] at e2
    have e3 : (0 ^^^ 1 : Nat) = 1 := rfl
    rw [e3] at e2
    rw [if_pos (by omega)]
    omega
  · rw [h2] at e2
    have e3 : (1 ^^^ 1 : Nat) = 0 := rfl
    rw [e3] at e2
    rw [if_neg (by omega)]
    omega
theorem and_low63 (b : Nat) : b &&& 9223372036854775807 = b % fSG := by
  have := Nat.and_two_pow_sub_one_eq_mod b 63
  exact this
end
end Go.Proofs.YtpebnofjcodikaaGreatDoor
