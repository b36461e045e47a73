/- Floats whose exact answer is a float: written without loss. -/
import Derived.Test.YtdkbhliafilghaaGreatDoorRlTr
import Derived.Test.YtdkbhliafilghaaGreatDoorRlPu2
namespace Go.Proofs.YtdkbhliafilghaaGreatDoor
open Go Ieee
set_option linter.unusedVariables false
set_option linter.unusedSimpArgs false
theorem mag_inj {r s : Nat} (h : magV r = magV s) : r = s := by
  rcases Nat.lt_trichotomy r s with h1 | h1 | h1
  · have := mag_lt h1; omega
  · exact h1
  · have := mag_lt h1; omega
theorem mag_low {q : Nat} (h : q < 9007199254740992) : magV q = q := by
  by_cases h1 : q < 4503599627370496
  · unfold magV; rw [if_pos h1]
  · have := word_mag 0 q (by omega) h
    simpa using this
theorem pow_le_inv {a b : Nat} (h : 2 ^ a < 2 ^ b) : a < b := by
  refine Nat.lt_of_not_le fun hc => ?_
  have := Nat.pow_le_pow_right (n := 2) (by decide) hc
  omega
theorem dvd_of_pow {g m a c l j : Nat} (hm : m < 2 ^ 53) (hg : 2 ^ l ≤ g) (h : g * 2 ^ a = m * 2 ^ c) (hj : l = 52 + j) : 2 ^ j ∣ g := by
  have h1 : 2 ^ (l + a) ≤ m * 2 ^ c := by rw [← h, Nat.pow_add]; exact Nat.mul_le_mul_right _ hg
  have h2 : m * 2 ^ c < 2 ^ (53 + c) := by rw [Nat.pow_add]; exact Nat.mul_lt_mul_of_pos_right hm (Nat.two_pow_pos _)
  have h3 : l + a < 53 + c := pow_le_inv (Nat.lt_of_le_of_lt h1 h2)
  have h4 : c = (c - (j + a)) + (j + a) := by omega
  have h5 : g * 2 ^ a = (m * 2 ^ (c - (j + a)) * 2 ^ j) * 2 ^ a := by
    rw [h, Nat.mul_assoc, Nat.mul_assoc, ← Nat.pow_add, ← Nat.pow_add]
    congr 2
  have h6 := Nat.eq_of_mul_eq_mul_right (Nat.two_pow_pos a) h5
  exact ⟨_, by rw [h6, Nat.mul_comm]⟩
/-- A number that a float is, is written as that float. -/
theorem near_exact (s : Bool) (g a b r : Nat) (p : Int) (hp : p = (a : Int) - (b : Int) - 1074) (h0 : 0 < g) (h : g * 2 ^ a = magV r * 2 ^ b) (hr : r < fIN) : double.nearest s g p = double.word s r := by
  have hlo : 2 ^ g.log2 ≤ g := Nat.log2_self_le (by omega)
  have hhi : g < 2 ^ (g.log2 + 1) := Nat.lt_log2_self
  unfold Format.nearest
  rw [if_neg (by omega), fb_d, lp_d, bi_d, in_d]
  obtain ⟨l, hl⟩ : ∃ l, g.log2 = l := ⟨_, rfl⟩
  rw [hl] at hlo hhi ⊢
  obtain ⟨m, e, hm, hm53⟩ := mag_form r
  rw [show (9007199254740992 : Nat) = 2 ^ 53 by rfl] at hm53
  obtain ⟨t, ht⟩ : ∃ t : Int, max (p + (l : Int) - ((52 : Nat) : Int)) (-1074) = t := ⟨_, rfl⟩
  simp only [ht]
  have ht2 : -1074 ≤ t := by omega
  obtain ⟨k, hk⟩ : ∃ k : Nat, t = (k : Int) - 1074 := ⟨(t + 1074).toNat, by omega⟩
  have key : ∃ q, Toward.even.cut s (g <<< (p - t).toNat) (t - p).toNat = q ∧ q * 2 ^ k = magV r ∧ q < 9007199254740992 ∧ (0 < k → 4503599627370496 ≤ q) := by
    by_cases hpt : t ≤ p
    · rw [show (t - p).toNat = 0 by omega, cut_exact s _ 0 (by rw [Nat.shiftLeft_eq]; exact Nat.mul_pos h0 (Nat.two_pow_pos _)) ⟨_, (Nat.one_mul _).symm⟩, Nat.pow_zero, Nat.div_one, Nat.shiftLeft_eq]
      refine ⟨_, rfl, ?_, ?_, ?_⟩
      · have hx : (p - t).toNat + k + b = a := by omega
        have h2 : (g * 2 ^ (p - t).toNat * 2 ^ k) * 2 ^ b = magV r * 2 ^ b := by
          rw [Nat.mul_assoc, Nat.mul_assoc, ← Nat.pow_add, ← Nat.pow_add, show (p - t).toNat + (k + b) = a by omega, h]
        exact Nat.eq_of_mul_eq_mul_right (Nat.two_pow_pos b) h2
      · have h3 : g * 2 ^ (p - t).toNat < 2 ^ (l + 1) * 2 ^ (p - t).toNat := Nat.mul_lt_mul_of_pos_right hhi (Nat.two_pow_pos _)
        rw [← Nat.pow_add] at h3
        have h4 : (2 : Nat) ^ (l + 1 + (p - t).toNat) ≤ 2 ^ 53 := Nat.pow_le_pow_right (by decide) (by omega)
        rw [show (2 : Nat) ^ 53 = 9007199254740992 by rfl] at h4
        omega
      · intro hk0
        have h3 : 2 ^ l * 2 ^ (p - t).toNat ≤ g * 2 ^ (p - t).toNat := Nat.mul_le_mul_right _ hlo
        rw [← Nat.pow_add, show l + (p - t).toNat = 52 by omega, show (2 : Nat) ^ 52 = 4503599627370496 by rfl] at h3
        exact h3
    · rw [show (p - t).toNat = 0 by omega, Nat.shiftLeft_zero]
      obtain ⟨d, hd⟩ : ∃ d, (t - p).toNat = d := ⟨_, rfl⟩
      rw [hd]
      have hab : d + a = b + k := by omega
      have hdv : 2 ^ d ∣ g := by
        by_cases hk0 : k = 0
        · subst hk0
          have h2 : g * 2 ^ a = (magV r * 2 ^ d) * 2 ^ a := by rw [h, Nat.mul_assoc, ← Nat.pow_add, show d + a = b by omega]
          exact ⟨_, by rw [Nat.eq_of_mul_eq_mul_right (Nat.two_pow_pos a) h2, Nat.mul_comm]⟩
        · refine dvd_of_pow (m := m) (a := a) (c := e + b) hm53 hlo ?_ (by omega)
          rw [h, hm, Nat.mul_assoc, ← Nat.pow_add]
      rw [cut_exact s _ _ h0 hdv]
      obtain ⟨q, hq⟩ := hdv
      have hpd : 0 < 2 ^ d := Nat.two_pow_pos _
      have e0 : g / 2 ^ d = q := by rw [hq, Nat.mul_div_cancel_left _ hpd]
      refine ⟨q, e0, ?_, ?_, ?_⟩
      · have h2 : (q * 2 ^ k) * 2 ^ b = magV r * 2 ^ b := by
          rw [← h, hq, Nat.mul_assoc, ← Nat.pow_add, Nat.mul_comm (2 ^ d) q, Nat.mul_assoc, ← Nat.pow_add, hab, Nat.add_comm b k]
        exact Nat.eq_of_mul_eq_mul_right (Nat.two_pow_pos b) h2
      · have h3 : 2 ^ d * q < 2 ^ d * 9007199254740992 := by
          rw [← hq]
          refine Nat.lt_of_lt_of_le hhi ?_
          rw [show (9007199254740992 : Nat) = 2 ^ 53 by rfl, ← Nat.pow_add]
          exact Nat.pow_le_pow_right (by decide) (by omega)
        exact Nat.lt_of_mul_lt_mul_left h3
      · intro hk0
        have h3 : 2 ^ d * 4503599627370496 ≤ 2 ^ d * q := by
          rw [← hq]
          refine Nat.le_trans ?_ hlo
          rw [show (4503599627370496 : Nat) = 2 ^ 52 by rfl, ← Nat.pow_add]
          exact Nat.pow_le_pow_right (by decide) (by omega)
        exact Nat.le_of_mul_le_mul_left h3 hpd
  obtain ⟨q, hc, hq, hq1, hq2⟩ := key
  rw [hc]
  have hkt : (t - -1074).toNat = k := by omega
  rw [hkt]
  have hword : k * 4503599627370496 + q = r := by
    refine mag_inj ?_
    by_cases hk0 : k = 0
    · subst hk0
      rw [Nat.zero_mul, Nat.zero_add, mag_low hq1, ← hq]; simp
    · rw [word_mag _ _ (hq2 (by omega)) hq1, hq]
  rw [hword, Nat.min_eq_left (Nat.le_of_lt hr)]
/-- Is it a float's size? -/
def RP (n : Nat) : Prop := ∃ r, r < fIN ∧ magV r = n
def maxV : Nat := magV 9218868437227405311
theorem mag_le {r s : Nat} (h : r ≤ s) : magV r ≤ magV s := by
  rcases Nat.lt_or_eq_of_le h with h | h
  · exact Nat.le_of_lt (mag_lt h)
  · rw [h]; exact Nat.le_refl _
theorem rp_of {m e : Nat} (hm : m < 9007199254740992) (hx : m * 2 ^ e ≤ maxV) : RP (m * 2 ^ e) := by
  have hI : fIN = 9218868437227405312 := rfl
  have key : ∃ r, magV r = m * 2 ^ e := by
    by_cases h0 : m = 0
    · exact ⟨0, by rw [h0, Nat.zero_mul]; rfl⟩
    · have hlo : 2 ^ m.log2 ≤ m := Nat.log2_self_le h0
      have hhi : m < 2 ^ (m.log2 + 1) := Nat.lt_log2_self
      have hl : m.log2 < 53 := pow_le_inv (Nat.lt_of_le_of_lt hlo hm)
      obtain ⟨l, hl'⟩ : ∃ l, m.log2 = l := ⟨_, rfl⟩
      rw [hl'] at hlo hhi hl
      by_cases hs : e + l ≤ 52
      · have h1 : m * 2 ^ e < 2 ^ (l + 1) * 2 ^ e := Nat.mul_lt_mul_of_pos_right hhi (Nat.two_pow_pos _)
        rw [← Nat.pow_add] at h1
        have h2 : (2 : Nat) ^ (l + 1 + e) ≤ 2 ^ 53 := Nat.pow_le_pow_right (by decide) (by omega)
        rw [show (2 : Nat) ^ 53 = 9007199254740992 by rfl] at h2
        exact ⟨m * 2 ^ e, mag_low (by omega)⟩
      · have h1 : m * 2 ^ (52 - l) < 2 ^ (l + 1) * 2 ^ (52 - l) := Nat.mul_lt_mul_of_pos_right hhi (Nat.two_pow_pos _)
        rw [← Nat.pow_add, show l + 1 + (52 - l) = 53 by omega, show (2 : Nat) ^ 53 = 9007199254740992 by rfl] at h1
        have h2 : 2 ^ l * 2 ^ (52 - l) ≤ m * 2 ^ (52 - l) := Nat.mul_le_mul_right _ hlo
        rw [← Nat.pow_add, show l + (52 - l) = 52 by omega, show (2 : Nat) ^ 52 = 4503599627370496 by rfl] at h2
        refine ⟨(e - (52 - l)) * 4503599627370496 + m * 2 ^ (52 - l), ?_⟩
        rw [word_mag _ _ h2 h1, Nat.mul_assoc, ← Nat.pow_add]
        congr 2; omega
  obtain ⟨r, hr⟩ := key
  refine ⟨r, ?_, hr⟩
  refine Nat.lt_of_not_le fun hc => ?_
  have h1 : magV 9218868437227405311 < magV r := mag_lt (by omega)
  unfold maxV at hx
  omega
theorem rp_le {n : Nat} (h : RP n) : n ≤ maxV := by
  obtain ⟨r, h1, h2⟩ := h
  have hI : fIN = 9218868437227405312 := rfl
  rw [← h2]
  exact mag_le (by omega)
/-- The difference of two floats that are near each other. -/
theorem rp_sub {x y : Nat} (hx : RP x) (hy : RP y) (h1 : y ≤ x) (h2 : x - y ≤ y) : RP (x - y) := by
  have hxm := rp_le hx
  obtain ⟨r, _, hr⟩ := hx
  obtain ⟨s, _, hs⟩ := hy
  obtain ⟨m, e, hm, hm1⟩ := mag_form r
  obtain ⟨n, f, hn, hn1⟩ := mag_form s
  rw [hr] at hm
  rw [hs] at hn
  rcases Nat.le_total e f with hef | hef
  · -- the step is 2 ^ e
    have e1 : y = n * 2 ^ (f - e) * 2 ^ e := by rw [hn, Nat.mul_assoc, ← Nat.pow_add]; congr 2; omega
    have e2 : x - y = (m - n * 2 ^ (f - e)) * 2 ^ e := by rw [hm, e1, Nat.sub_mul]
    rw [e2]
    refine rp_of (by omega) (by rw [← e2]; omega)
  · have e1 : x = m * 2 ^ (e - f) * 2 ^ f := by rw [hm, Nat.mul_assoc, ← Nat.pow_add]; congr 2; omega
    have e2 : x - y = (m * 2 ^ (e - f) - n) * 2 ^ f := by rw [hn, e1, Nat.sub_mul]
    rw [e2]
    refine rp_of ?_ (by rw [← e2]; omega)
    rw [e2, hn] at h2
    have := Nat.le_of_mul_le_mul_right h2 (Nat.two_pow_pos f)
    omega
theorem rp_pow {y k : Nat} (hy : RP y) (h : y * 2 ^ k ≤ maxV) : RP (y * 2 ^ k) := by
  obtain ⟨s, _, hs⟩ := hy
  obtain ⟨n, f, hn, hn1⟩ := mag_form s
  rw [hs] at hn
  have e1 : y * 2 ^ k = n * 2 ^ (f + k) := by rw [hn, Nat.mul_assoc, ← Nat.pow_add]
  rw [e1]
  exact rp_of hn1 (by rw [← e1]; exact h)
/-- The pattern of a sign and a size. -/
def pos (b : Nat) : Prop := b < fIN
theorem pos_facts {b : Nat} (h : b < fIN) : b % fSG = b ∧ negB b = false ∧ nanB b = false ∧ b < 18446744073709551616 := by
  have e1 : fSG = 9223372036854775808 := rfl
  have e2 : fIN = 9218868437227405312 := rfl
  have h3 := (word_d false b h)
  have h4 : double.word false b = b := rfl
  rw [h4] at h3
  exact ⟨h3.1, h3.2.1, h3.2.2.2, h3.2.2.1⟩
theorem read_pos {b : Nat} (h : b < fIN) : ∃ m e : Nat, double.read b = .number false m ((e : Int) - 1074) ∧ m * 2 ^ e = magV b := by
  obtain ⟨p1, p2, p3, p4⟩ := pos_facts h
  rcases read_d b with ⟨h1, _⟩ | ⟨_, h1, _⟩ | ⟨_, _, m, e, h1, h2⟩
  · rw [p3] at h1; cases h1
  · rw [p1] at h1; omega
  · rw [p1] at h2; rw [p2] at h1; exact ⟨m, e, h1, h2⟩
/-- A difference that is a float. -/
theorem sub_exact {x y z : Nat} (hx : x < fIN) (hy : y < fIN) (hz : z < fIN) (h : magV y + magV z = magV x) : double.sub x y = some z := by
  obtain ⟨m, e, h1, h2⟩ := read_pos hx
  obtain ⟨n, f, k1, k2⟩ := read_pos hy
  unfold Format.sub
  rw [h1, k1]
  show some (double.write (Datum.number (if signed false m (((e : Int) - 1074) - min ((e : Int) - 1074) ((f : Int) - 1074)).toNat + signed (!false) n (((f : Int) - 1074) - min ((e : Int) - 1074) ((f : Int) - 1074)).toNat = 0 then false && !false else decide (signed false m (((e : Int) - 1074) - min ((e : Int) - 1074) ((f : Int) - 1074)).toNat + signed (!false) n (((f : Int) - 1074) - min ((e : Int) - 1074) ((f : Int) - 1074)).toNat < 0)) (signed false m (((e : Int) - 1074) - min ((e : Int) - 1074) ((f : Int) - 1074)).toNat + signed (!false) n (((f : Int) - 1074) - min ((e : Int) - 1074) ((f : Int) - 1074)).toNat).natAbs (min ((e : Int) - 1074) ((f : Int) - 1074)))) = some z
  obtain ⟨c, hc, hce, hcf⟩ : ∃ c : Nat, min ((e : Int) - 1074) ((f : Int) - 1074) = (c : Int) - 1074 ∧ c ≤ e ∧ c ≤ f := ⟨min e f, by omega, Nat.min_le_left _ _, Nat.min_le_right _ _⟩
  rw [hc, show (((e : Int) - 1074) - ((c : Int) - 1074)).toNat = e - c by omega, show (((f : Int) - 1074) - ((c : Int) - 1074)).toNat = f - c by omega]
  have ex : m * 2 ^ (e - c) * 2 ^ c = magV x := by rw [Nat.mul_assoc, ← Nat.pow_add, show e - c + c = e by omega, h2]
  have ey : n * 2 ^ (f - c) * 2 ^ c = magV y := by rw [Nat.mul_assoc, ← Nat.pow_add, show f - c + c = f by omega, k2]
  unfold signed
  simp only [Bool.false_eq_true, if_false, Bool.not_false, if_true, Nat.shiftLeft_eq, Bool.false_and]
  obtain ⟨A, hA⟩ : ∃ A, m * 2 ^ (e - c) = A := ⟨_, rfl⟩
  obtain ⟨B, hB⟩ : ∃ B, n * 2 ^ (f - c) = B := ⟨_, rfl⟩
  rw [hA] at ex ⊢
  rw [hB] at ey ⊢
  have hBA : B ≤ A := by
    have : B * 2 ^ c ≤ A * 2 ^ c := by omega
    exact Nat.le_of_mul_le_mul_right this (Nat.two_pow_pos c)
  have hD : (A - B) * 2 ^ c = magV z := by rw [Nat.sub_mul]; omega
  by_cases h0 : A = B
  · have hz0 : magV z = 0 := by rw [← hD, h0]; simp
    have hz1 : z = 0 := mag_inj (by rw [hz0]; rfl)
    have hs : ((A : Nat) : Int) + -((B : Nat) : Int) = 0 := by omega
    simp only [hs, if_true]
    rw [hz1]
    rfl
  · have hs : ¬ (((A : Nat) : Int) + -((B : Nat) : Int) = 0) := by omega
    have hs2 : ¬ (((A : Nat) : Int) + -((B : Nat) : Int) < 0) := by omega
    simp only [hs, if_false, hs2, decide_false]
    have ha : (((A : Nat) : Int) + -((B : Nat) : Int)).natAbs = A - B := by omega
    rw [ha]
    refine congrArg some ?_
    change double.nearest false (A - B) _ = z
    rw [near_exact false (A - B) c 0 z _ (by omega) (by omega) (by rw [hD]; simp) hz]
    rfl
/-- A product by a power of two that is a float. -/
theorem mul_exact {x y z m2 : Nat} {p2 : Int} {a b : Nat} (hx : x < fIN) (h0 : 0 < x) (hy : double.read y = .number false m2 p2) (hp : p2 = (a : Int) - (b : Int)) (hz : z < fIN) (hm : 0 < m2) (h : magV x * m2 * 2 ^ a = magV z * 2 ^ b) : double.mul x y = some z := by
  obtain ⟨m, e, h1, h2⟩ := read_pos hx
  unfold Format.mul
  rw [h1, hy]
  show some (double.nearest (false ^^ false) (m * m2) (((e : Int) - 1074) + p2)) = some z
  refine congrArg some ?_
  have hm0 : 0 < m := by
    refine Nat.pos_of_ne_zero fun hc => ?_
    rw [hc, Nat.zero_mul] at h2
    have : x = 0 := mag_inj (by rw [← h2]; rfl)
    omega
  rw [near_exact (false ^^ false) (m * m2) (e + a) b z _ (by omega) (Nat.mul_pos hm0 hm) ?_ hz]
  · rfl
  · rw [← h, ← h2, Nat.pow_add, Nat.mul_assoc, Nat.mul_assoc, Nat.mul_assoc, Nat.mul_left_comm m2]
end Go.Proofs.YtdkbhliafilghaaGreatDoor
