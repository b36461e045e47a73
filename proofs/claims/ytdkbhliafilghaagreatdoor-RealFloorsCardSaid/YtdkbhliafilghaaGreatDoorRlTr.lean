/- Floats cut towards 0, plainly. -/
import Derived.Test.YtdkbhliafilghaaGreatDoorRlPu
namespace Go.Proofs.YtdkbhliafilghaaGreatDoor
open Go Ieee
set_option linter.unusedVariables false
set_option linter.unusedSimpArgs false
theorem cut_zero (s : Bool) (n d : Nat) : Toward.zero.cut s n d = n / 2 ^ d := by
  unfold Toward.cut
  simp only [Bool.toNat_false, Nat.add_zero]
  rw [Nat.shiftLeft_eq, Nat.one_mul]
  by_cases h : d ≤ n.log2 + 2
  · rw [Nat.min_eq_left h]
  · rw [Nat.min_eq_right (by omega)]
    have h1 : n < 2 ^ (n.log2 + 1) := Nat.lt_log2_self
    have h2 : 2 ^ (n.log2 + 1) ≤ 2 ^ (n.log2 + 2) := Nat.pow_le_pow_right (by decide) (by omega)
    have h3 : 2 ^ (n.log2 + 2) ≤ 2 ^ d := Nat.pow_le_pow_right (by decide) (by omega)
    rw [Nat.div_eq_of_lt (by omega), Nat.div_eq_of_lt (by omega)]
theorem mdp (a k : Nat) : a * 2 ^ k / 2 ^ k = a := Nat.mul_div_cancel _ (Nat.two_pow_pos k)
theorem split_pow {e k : Nat} (h : k ≤ e) : 2 ^ e = 2 ^ (e - k) * 2 ^ k := by rw [← Nat.pow_add]; congr 1; omega
theorem mag_zero_mul (k : Nat) : magV 0 = 0 * 2 ^ k := by rw [Nat.zero_mul]; rfl
/-- The least exponent's size, opaque. -/
@[irreducible] def eK : Nat := 1074
theorem eK_eq : eK = 1074 := by unfold eK; rfl
/-- A finite number's size, cut towards 0. -/
def trV (x : Nat) : Nat := magV (x % fSG) / 2 ^ eK
theorem shift_cut (m e : Nat) : (m <<< ((e : Int) - 1074).toNat) / 2 ^ (-((e : Int) - 1074)).toNat = m * 2 ^ e / 2 ^ eK := by
  rw [Nat.shiftLeft_eq]
  by_cases h : 1074 ≤ e
  · rw [show (-((e : Int) - 1074)).toNat = 0 by omega, Nat.pow_zero, Nat.div_one, show ((e : Int) - 1074).toNat = e - 1074 by omega]
    have hK := eK_eq
    rw [show e - 1074 = e - eK by omega, split_pow (show eK ≤ e by omega), ← Nat.mul_assoc, mdp]
  · rw [show ((e : Int) - 1074).toNat = 0 by omega, Nat.pow_zero, Nat.mul_one, show (-((e : Int) - 1074)).toNat = 1074 - e by omega]
    have h1 : 2 ^ eK = 2 ^ (1074 - e) * 2 ^ e := by rw [← Nat.pow_add]; congr 1; have hK := eK_eq; omega
    rw [h1, Nat.mul_div_mul_right _ _ (Nat.two_pow_pos e)]
/-- What a number is, cut. -/
theorem integral_d (x : Nat) (hx : nanB x = false) (hi : x % fSG ≠ fIN) : (double.read x).integral .zero = .number (negB x) (trV x) 0 := by
  rcases read_d x with ⟨h, _⟩ | ⟨_, h, _⟩ | ⟨_, _, m, e, h, h3⟩
  · rw [h] at hx; cases hx
  · exact absurd h hi
  · rw [h]
    change Datum.number (negB x) (Toward.zero.cut (negB x) (m <<< ((e : Int) - 1074).toNat) (-((e : Int) - 1074)).toNat) 0 = _
    rw [cut_zero, shift_cut, h3]
    rfl
theorem toInt_d (x : Nat) (hx : nanB x = false) (hi : x % fSG ≠ fIN) : (double.read x).toInt .zero = some (if negB x = true then -((trV x : Nat) : Int) else ((trV x : Nat) : Int)) := by
  unfold Datum.toInt
  rw [integral_d x hx hi]
  simp only [signed]
  cases negB x <;> simp
/-- A row of digits whose end is nought, shortened. -/
theorem cut_exact (s : Bool) (n d : Nat) (h0 : 0 < n) (hd : 2 ^ d ∣ n) : Toward.even.cut s n d = n / 2 ^ d := by
  have h1 : 2 ^ d ≤ n := Nat.le_of_dvd h0 hd
  have h2 : d ≤ n.log2 := (Nat.le_log2 (by omega)).2 h1
  have h3 : n % 2 ^ d = 0 := Nat.mod_eq_zero_of_dvd hd
  have h4 : 0 < 2 ^ d := Nat.two_pow_pos d
  unfold Toward.cut
  rw [Nat.min_eq_left (by omega), Nat.shiftLeft_eq, Nat.one_mul]
  simp only [h3, Nat.mul_zero]
  generalize 2 ^ d = g at h4
  have e1 : (decide (g < 0) || (g == 0 && n / g % 2 == 1)) = false := by
    rw [show (g == 0) = false by simpa using (by omega : g ≠ 0)]; simp
  rw [e1]; rfl
theorem word_mag (k q : Nat) (h1 : 4503599627370496 ≤ q) (h2 : q < 9007199254740992) : magV (k * 4503599627370496 + q) = q * 2 ^ k := by
  unfold magV
  rw [if_neg (by omega)]
  have e1 : (k * 4503599627370496 + q) % 4503599627370496 = q - 4503599627370496 := by omega
  have e2 : (k * 4503599627370496 + q) / 4503599627370496 - 1 = k := by omega
  rw [e1, e2, show 4503599627370496 + (q - 4503599627370496) = q by omega]
theorem fb_d : double.fractionBits = 52 := by rfl
/-- A whole number that a float is, written as one. -/
theorem nearest_int (s : Bool) (g : Nat) (h0 : 0 < g) (hd : 52 < g.log2 → 2 ^ (g.log2 - 52) ∣ g) : ∃ r, double.nearest s g 0 = double.word s (min r fIN) ∧ magV r = g * 2 ^ eK := by
  have hlo : 2 ^ g.log2 ≤ g := Nat.log2_self_le (by omega)
  have hhi : g < 2 ^ (g.log2 + 1) := Nat.lt_log2_self
  unfold Format.nearest
  rw [if_neg (by omega), fb_d, lp_d, bi_d, in_d]
  obtain ⟨l, hl⟩ : ∃ l, g.log2 = l := ⟨_, rfl⟩
  rw [hl] at hlo hhi hd ⊢
  have em : max ((0 : Int) + (l : Int) - ((52 : Nat) : Int)) (-1074) = (l : Int) - 52 := by omega
  simp only [em]
  have hk : (((l : Int) - 52) - -1074).toNat = l + 1022 := by omega
  rw [hk]
  refine ⟨_, rfl, ?_⟩
  by_cases h : l ≤ 52
  · rw [show (0 - ((l : Int) - 52)).toNat = 52 - l by omega, show (((l : Int) - 52) - 0).toNat = 0 by omega, cut_exact s _ 0 (by rw [Nat.shiftLeft_eq]; exact Nat.mul_pos h0 (Nat.two_pow_pos _)) ⟨_, (Nat.one_mul _).symm⟩, Nat.pow_zero, Nat.div_one, Nat.shiftLeft_eq]
    have e1 : 2 ^ l * 2 ^ (52 - l) = 4503599627370496 := by rw [← Nat.pow_add, show l + (52 - l) = 52 by omega]
    have e2 : 2 ^ (l + 1) * 2 ^ (52 - l) = 9007199254740992 := by rw [← Nat.pow_add, show l + 1 + (52 - l) = 53 by omega]
    have g1 : 2 ^ l * 2 ^ (52 - l) ≤ g * 2 ^ (52 - l) := Nat.mul_le_mul_right _ hlo
    have g2 : g * 2 ^ (52 - l) < 2 ^ (l + 1) * 2 ^ (52 - l) := Nat.mul_lt_mul_of_pos_right hhi (Nat.two_pow_pos _)
    rw [e1] at g1
    rw [e2] at g2
    rw [word_mag _ _ g1 g2, Nat.mul_assoc, ← Nat.pow_add, show 52 - l + (l + 1022) = eK by (have hK := eK_eq; omega)]
  · have hdv := hd (by omega)
    rw [show (0 - ((l : Int) - 52)).toNat = 0 by omega, show (((l : Int) - 52) - 0).toNat = l - 52 by omega, Nat.shiftLeft_zero, cut_exact s _ _ h0 hdv]
    obtain ⟨q, hq⟩ := hdv
    have hp : 0 < 2 ^ (l - 52) := Nat.two_pow_pos _
    have e0 : g / 2 ^ (l - 52) = q := by rw [hq, Nat.mul_div_cancel_left _ hp]
    have e1 : 2 ^ l = 2 ^ (l - 52) * 4503599627370496 := by rw [show (4503599627370496 : Nat) = 2 ^ 52 by rfl, ← Nat.pow_add, show l - 52 + 52 = l by omega]
    have e2 : 2 ^ (l + 1) = 2 ^ (l - 52) * 9007199254740992 := by rw [show (9007199254740992 : Nat) = 2 ^ 53 by rfl, ← Nat.pow_add, show l - 52 + 53 = l + 1 by omega]
    rw [e1, hq] at hlo
    rw [e2, hq] at hhi
    have g1 : 4503599627370496 ≤ q := Nat.le_of_mul_le_mul_left hlo hp
    have g2 : q < 9007199254740992 := Nat.lt_of_mul_lt_mul_left hhi
    rw [e0, word_mag _ _ g1 g2, hq, show l + 1022 = l - 52 + eK by (have hK := eK_eq; omega), Nat.pow_add, ← Nat.mul_assoc, Nat.mul_comm q]
theorem mag_form (r : Nat) : ∃ m e, magV r = m * 2 ^ e ∧ m < 9007199254740992 := by
  unfold magV
  by_cases h : r < 4503599627370496
  · rw [if_pos h]; exact ⟨r, 0, by simp, by omega⟩
  · rw [if_neg h]; exact ⟨_, _, rfl, by omega⟩
theorem tr_div (x : Nat) : 52 < (trV x).log2 → 2 ^ ((trV x).log2 - 52) ∣ trV x := by
  intro hl
  obtain ⟨m, e, h, hm⟩ := mag_form (x % fSG)
  have h0 : trV x ≠ 0 := fun h => by rw [h] at hl; simp at hl
  have hlo : 2 ^ (trV x).log2 ≤ trV x := Nat.log2_self_le h0
  by_cases he : 1074 ≤ e
  · have e1 : trV x = m * 2 ^ (e - 1074) := by
      unfold trV
      rw [h]
      have hK := eK_eq
      rw [show e - 1074 = e - eK by omega, split_pow (show eK ≤ e by omega), ← Nat.mul_assoc, mdp]
    have h2 : (trV x).log2 - 52 ≤ e - 1074 := by
      refine Nat.le_of_not_lt fun hc => ?_
      have h3 : 2 ^ (e - 1074 + 53) ≤ 2 ^ (trV x).log2 := Nat.pow_le_pow_right (by decide) (by omega)
      rw [Nat.pow_add] at h3
      have h4 : m * 2 ^ (e - 1074) < 9007199254740992 * 2 ^ (e - 1074) := Nat.mul_lt_mul_of_pos_right hm (Nat.two_pow_pos _)
      rw [← e1] at h4
      rw [show (2 ^ 53 : Nat) = 9007199254740992 by rfl, Nat.mul_comm] at h3
      omega
    obtain ⟨c, hc⟩ := Nat.pow_dvd_pow 2 h2
    refine ⟨c * m, ?_⟩
    rw [← Nat.mul_assoc, ← hc, Nat.mul_comm, ← e1]
  · exfalso
    have e1 : trV x ≤ m := by
      unfold trV
      rw [h]
      have h1 : 2 ^ e ≤ 2 ^ eK := Nat.pow_le_pow_right (by decide) (by have hK := eK_eq; omega)
      calc m * 2 ^ e / 2 ^ eK ≤ m * 2 ^ eK / 2 ^ eK := Nat.div_le_div_right (Nat.mul_le_mul_left _ h1)
        _ = m := mdp _ _
    have h3 : 2 ^ 53 ≤ 2 ^ (trV x).log2 := Nat.pow_le_pow_right (by decide) (by omega)
    rw [show (2 ^ 53 : Nat) = 9007199254740992 by rfl] at h3
    omega
/-- The float of a number cut towards 0. -/
def tcB (x : Nat) : Nat := double.write (.number (negB x) (trV x) 0)
theorem tc_d (x : Nat) (hx : nanB x = false) (hi : x % fSG ≠ fIN) : ∃ r, tcB x = double.word (negB x) r ∧ r < fIN ∧ magV r = trV x * 2 ^ eK := by
  have hfin : x % fSG < fIN := by
    unfold nanB at hx
    rw [decide_eq_false_iff_not] at hx
    omega
  by_cases h0 : trV x = 0
  · refine ⟨0, ?_, by decide, by rw [h0]; exact mag_zero_mul _⟩
    unfold tcB Format.write
    simp only [h0]
    rfl
  · obtain ⟨r, h1, h2⟩ := nearest_int (negB x) (trV x) (by omega) (tr_div x)
    have h3 : magV r ≤ magV (x % fSG) := by
      rw [h2]
      unfold trV
      exact Nat.div_mul_le_self _ _
    have h4 : r ≤ x % fSG := by
      refine Nat.le_of_not_lt fun hc => ?_
      have := mag_lt hc
      omega
    refine ⟨r, ?_, by omega, h2⟩
    unfold tcB
    change double.nearest (negB x) (trV x) 0 = _
    rw [h1, Nat.min_eq_left (by omega)]
theorem word_d (s : Bool) (r : Nat) (h : r < fIN) : double.word s r % fSG = r ∧ negB (double.word s r) = s ∧ double.word s r < 18446744073709551616 ∧ nanB (double.word s r) = false := by
  have e1 : fSG = 9223372036854775808 := rfl
  have e2 : fIN = 9218868437227405312 := rfl
  have e3 : double.word s r = (if s = true then fSG else 0) + r := by
    unfold Format.word
    rw [sw_d]
    cases s <;> simp
  unfold nanB negB
  rw [e2] at h
  cases s
  · have e4 : double.word false r = r := by rw [e3]; simp
    rw [e4, e1, e2]
    exact ⟨by omega, by simp; omega, by omega, by simp; omega⟩
  · have e4 : double.word true r = 9223372036854775808 + r := by rw [e3, if_pos rfl, e1]
    rw [e4, e1, e2]
    exact ⟨by omega, by simp; omega, by omega, by simp; omega⟩
/-- The float of a number cut: its sign, its size. -/
theorem tc_all (x : Nat) (hx : nanB x = false) (hi : x % fSG ≠ fIN) : nanB (tcB x) = false ∧ negB (tcB x) = negB x ∧ tcB x < 18446744073709551616 ∧ tcB x % fSG < fIN ∧ magV (tcB x % fSG) = trV x * 2 ^ eK := by
  obtain ⟨r, h1, h2, h3⟩ := tc_d x hx hi
  obtain ⟨w1, w2, w3, w4⟩ := word_d (negB x) r h2
  rw [← h1] at w1 w2 w3 w4
  exact ⟨w4, w2, w3, by rw [w1]; exact h2, by rw [w1]; exact h3⟩
/-- Is something cut off? -/
def lostB (x : Nat) : Bool := decide (magV (x % fSG) ≠ trV x * 2 ^ eK)
/-- How a number stands to itself cut. -/
theorem place_tc (x : Nat) (hx : nanB x = false) (hi : x % fSG ≠ fIN) : (lostB x = false → placeZ x = placeZ (tcB x)) ∧ (lostB x = true → if negB x = true then placeZ x < placeZ (tcB x) else placeZ (tcB x) < placeZ x) := by
  obtain ⟨h1, h2, h3, h4, h5⟩ := tc_all x hx hi
  have a1 := @fval_lt x (tcB x)
  have a2 := @fval_lt (tcB x) x
  have hle : trV x * 2 ^ eK ≤ magV (x % fSG) := by unfold trV; exact Nat.div_mul_le_self _ _
  have v1 : valZ (tcB x) = if negB x = true then -((trV x * 2 ^ eK : Nat) : Int) else ((trV x * 2 ^ eK : Nat) : Int) := by unfold valZ; rw [h2, h5]
  have v2 : valZ x = if negB x = true then -((magV (x % fSG) : Nat) : Int) else ((magV (x % fSG) : Nat) : Int) := rfl
  rw [v1, v2] at a1 a2
  unfold lostB
  generalize magV (x % fSG) = M at *
  generalize trV x * 2 ^ eK = T at *
  constructor
  · intro hl
    have hl' : M = T := by simpa using hl
    cases hn : negB x
    all_goals
      rw [hn] at a1 a2
      simp only [Bool.false_eq_true, if_false, if_true] at a1 a2
      omega
  · intro hl
    have hl' : M ≠ T := by simpa using hl
    cases hn : negB x
    all_goals
      rw [hn] at a1 a2
      simp only [Bool.false_eq_true, if_false, if_true] at a1 a2 ⊢
      omega
end Go.Proofs.YtdkbhliafilghaaGreatDoor
