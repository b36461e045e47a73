/- Floats whose exact answer is a float: written without loss. The rest of two floats, plainly: one round; scaling by a power of two. Sums and quotients that are no NaN; Floor's and Mod's answers, plainly. -/
import Derived.Test.YtbhommcpgejbfaaGreatDoorPGRlA
import Derived.Test.YtbhommcpgejbfaaGreatDoorPGRlF
namespace Go.Proofs.YtbhommcpgejbfaaGreatDoor
section
open Go Ieee
set_option linter.unusedVariables false
set_option linter.unusedSimpArgs false
theorem mag_inj {r s : Nat} (h : magV r = magV s) : r = s := by
  rcases Nat.lt_trichotomy r s with h1 | h1 | h1
  · have := mag_lt h1; omega
  · exact h1
  · have := mag_lt h1; omega
theorem mag_low {q : Nat} (h : q < 9007199254740992) : magV q = q := by
  by_cases h1 : q < 4503599627370496
  · unfold magV; rw [if_pos h1]
  · have := word_mag 0 q (by omega) h
    simpa using this
theorem pow_le_inv {a b : Nat} (h : 2 ^ a < 2 ^ b) : a < b := by
  refine Nat.lt_of_not_le fun hc => ?_
  have := Nat.pow_le_pow_right (n := 2) (by decide) hc
  omega
theorem dvd_of_pow {g m a c l j : Nat} (hm : m < 2 ^ 53) (hg : 2 ^ l ≤ g) (h : g * 2 ^ a = m * 2 ^ c) (hj : l = 52 + j) : 2 ^ j ∣ g := by
  have h1 : 2 ^ (l + a) ≤ m * 2 ^ c := by rw [← h, Nat.pow_add]; exact Nat.mul_le_mul_right _ hg
  have h2 : m * 2 ^ c < 2 ^ (53 + c) := by rw [Nat.pow_add]; exact Nat.mul_lt_mul_of_pos_right hm (Nat.two_pow_pos _)
  have h3 : l + a < 53 + c := pow_le_inv (Nat.lt_of_le_of_lt h1 h2)
  have h4 : c = (c - (j + a)) + (j + a) := by omega
  have h5 : g * 2 ^ a = (m * 2 ^ (c - (j + a)) * 2 ^ j) * 2 ^ a := by
    rw [h, Nat.mul_assoc, Nat.mul_assoc, ← Nat.pow_add, ← Nat.pow_add]
    congr 2
  have h6 := Nat.eq_of_mul_eq_mul_right (Nat.two_pow_pos a) h5
  exact ⟨_, by rw [h6, Nat.mul_comm]⟩
/-- A number that a float is, is written as that float. -/
theorem near_exact (s : Bool) (g a b r : Nat) (p : Int) (hp : p = (a : Int) - (b : Int) - 1074) (h0 : 0 < g) (h : g * 2 ^ a = magV r * 2 ^ b) (hr : r < fIN) : double.nearest s g p = double.word s r := by
  have hlo : 2 ^ g.log2 ≤ g := Nat.log2_self_le (by omega)
  have hhi : g < 2 ^ (g.log2 + 1) := Nat.lt_log2_self
  unfold Format.nearest
  rw [if_neg (by omega), fb_d, lp_d, bi_d, in_d]
  obtain ⟨l, hl⟩ : ∃ l, g.log2 = l := ⟨_, rfl⟩
  rw [hl] at hlo hhi ⊢
  obtain ⟨m, e, hm, hm53⟩ := mag_form r
  rw [show (9007199254740992 : Nat) = 2 ^ 53 by rfl] at hm53
  obtain ⟨t, ht⟩ : ∃ t : Int, max (p + (l : Int) - ((52 : Nat) : Int)) (-1074) = t := ⟨_, rfl⟩
  simp only [ht]
  have ht2 : -1074 ≤ t := by omega
  obtain ⟨k, hk⟩ : ∃ k : Nat, t = (k : Int) - 1074 := ⟨(t + 1074).toNat, by omega⟩
  have key : ∃ q, Toward.even.cut s (g <<< (p - t).toNat) (t - p).toNat = q ∧ q * 2 ^ k = magV r ∧ q < 9007199254740992 ∧ (0 < k → 4503599627370496 ≤ q) := by
    by_cases hpt : t ≤ p
    · rw [show (t - p).toNat = 0 by omega, cut_exact s _ 0 (by rw [Nat.shiftLeft_eq]; exact Nat.mul_pos h0 (Nat.two_pow_pos _)) ⟨_, (Nat.one_mul _).symm⟩, Nat.pow_zero, Nat.div_one, Nat.shiftLeft_eq]
      refine ⟨_, rfl, ?_, ?_, ?_⟩
      · have hx : (p - t).toNat + k + b = a := by omega
        have h2 : (g * 2 ^ (p - t).toNat * 2 ^ k) * 2 ^ b = magV r * 2 ^ b := by
          rw [Nat.mul_assoc, Nat.mul_assoc, ← Nat.pow_add, ← Nat.pow_add, show (p - t).toNat + (k + b) = a by omega, h]
        exact Nat.eq_of_mul_eq_mul_right (Nat.two_pow_pos b) h2
      · have h3 : g * 2 ^ (p - t).toNat < 2 ^ (l + 1) * 2 ^ (p - t).toNat := Nat.mul_lt_mul_of_pos_right hhi (Nat.two_pow_pos _)
        rw [← Nat.pow_add] at h3
        have h4 : (2 : Nat) ^ (l + 1 + (p - t).toNat) ≤ 2 ^ 53 := Nat.pow_le_pow_right (by decide) (by omega)
        rw [show (2 : Nat) ^ 53 = 9007199254740992 by rfl] at h4
        omega
      · intro hk0
        have h3 : 2 ^ l * 2 ^ (p - t).toNat ≤ g * 2 ^ (p - t).toNat := Nat.mul_le_mul_right _ hlo
        rw [← Nat.pow_add, show l + (p - t).toNat = 52 by omega, show (2 : Nat) ^ 52 = 4503599627370496 by rfl] at h3
        exact h3
    · rw [show (p - t).toNat = 0 by omega, Nat.shiftLeft_zero]
      obtain ⟨d, hd⟩ : ∃ d, (t - p).toNat = d := ⟨_, rfl⟩
      rw [hd]
      have hab : d + a = b + k := by omega
      have hdv : 2 ^ d ∣ g := by
        by_cases hk0 : k = 0
        · subst hk0
          have h2 : g * 2 ^ a = (magV r * 2 ^ d) * 2 ^ a := by rw [h, Nat.mul_assoc, ← Nat.pow_add, show d + a = b by omega]
          exact ⟨_, by rw [Nat.eq_of_mul_eq_mul_right (Nat.two_pow_pos a) h2, Nat.mul_comm]⟩
        · refine dvd_of_pow (m := m) (a := a) (c := e + b) hm53 hlo ?_ (by omega)
          rw [h, hm, Nat.mul_assoc, ← Nat.pow_add]
      rw [cut_exact s _ _ h0 hdv]
      obtain ⟨q, hq⟩ := hdv
      have hpd : 0 < 2 ^ d := Nat.two_pow_pos _
      have e0 : g / 2 ^ d = q := by rw [hq, Nat.mul_div_cancel_left _ hpd]
      refine ⟨q, e0, ?_, ?_, ?_⟩
      · have h2 : (q * 2 ^ k) * 2 ^ b = magV r * 2 ^ b := by
          rw [← h, hq, Nat.mul_assoc, ← Nat.pow_add, Nat.mul_comm (2 ^ d) q, Nat.mul_assoc, ← Nat.pow_add, hab, Nat.add_comm b k]
        exact Nat.eq_of_mul_eq_mul_right (Nat.two_pow_pos b) h2
      · have h3 : 2 ^ d * q < 2 ^ d * 9007199254740992 := by
          rw [← hq]
          refine Nat.lt_of_lt_of_le hhi ?_
          rw [show (9007199254740992 : Nat) = 2 ^ 53 by rfl, ← Nat.pow_add]
          exact Nat.pow_le_pow_right (by decide) (by omega)
        exact Nat.lt_of_mul_lt_mul_left h3
      · intro hk0
        have h3 : 2 ^ d * 4503599627370496 ≤ 2 ^ d * q := by
          rw [← hq]
          refine Nat.le_trans ?_ hlo
          rw [show (4503599627370496 : Nat) = 2 ^ 52 by rfl, ← Nat.pow_add]
          exact Nat.pow_le_pow_right (by decide) (by omega)
        exact Nat.le_of_mul_le_mul_left h3 hpd
  obtain ⟨q, hc, hq, hq1, hq2⟩ := key
  rw [hc]
  have hkt : (t - -1074).toNat = k := by omega
  rw [hkt]
  have hword : k * 4503599627370496 + q = r := by
    refine mag_inj ?_
    by_cases hk0 : k = 0
    · subst hk0
      rw [Nat.zero_mul, Nat.zero_add, mag_low hq1, ← hq]; simp
    · rw [word_mag _ _ (hq2 (by omega)) hq1, hq]
  rw [hword, Nat.min_eq_left (Nat.le_of_lt hr)]
/-- Is it a float's size? -/
def RP (n : Nat) : Prop := ∃ r, r < fIN ∧ magV r = n
def maxV : Nat := magV 9218868437227405311
theorem mag_le {r s : Nat} (h : r ≤ s) : magV r ≤ magV s := by
  rcases Nat.lt_or_eq_of_le h with h | h
  · exact Nat.le_of_lt (mag_lt h)
  · rw [h]; exact Nat.le_refl _
theorem rp_of {m e : Nat} (hm : m < 9007199254740992) (hx : m * 2 ^ e ≤ maxV) : RP (m * 2 ^ e) := by
  have hI : fIN = 9218868437227405312 := rfl
  have key : ∃ r, magV r = m * 2 ^ e := by
    by_cases h0 : m = 0
    · exact ⟨0, by rw [h0, Nat.zero_mul]; rfl⟩
    · have hlo : 2 ^ m.log2 ≤ m := Nat.log2_self_le h0
      have hhi : m < 2 ^ (m.log2 + 1) := Nat.lt_log2_self
      have hl : m.log2 < 53 := pow_le_inv (Nat.lt_of_le_of_lt hlo hm)
      obtain ⟨l, hl'⟩ : ∃ l, m.log2 = l := ⟨_, rfl⟩
      rw [hl'] at hlo hhi hl
      by_cases hs : e + l ≤ 52
      · have h1 : m * 2 ^ e < 2 ^ (l + 1) * 2 ^ e := Nat.mul_lt_mul_of_pos_right hhi (Nat.two_pow_pos _)
        rw [← Nat.pow_add] at h1
        have h2 : (2 : Nat) ^ (l + 1 + e) ≤ 2 ^ 53 := Nat.pow_le_pow_right (by decide) (by omega)
        rw [show (2 : Nat) ^ 53 = 9007199254740992 by rfl] at h2
        exact ⟨m * 2 ^ e, mag_low (by omega)⟩
      · have h1 : m * 2 ^ (52 - l) < 2 ^ (l + 1) * 2 ^ (52 - l) := Nat.mul_lt_mul_of_pos_right hhi (Nat.two_pow_pos _)
        rw [← Nat.pow_add, show l + 1 + (52 - l) = 53 by omega, show (2 : Nat) ^ 53 = 9007199254740992 by rfl] at h1
        have h2 : 2 ^ l * 2 ^ (52 - l) ≤ m * 2 ^ (52 - l) := Nat.mul_le_mul_right _ hlo
        rw [← Nat.pow_add, show l + (52 - l) = 52 by omega, show (2 : Nat) ^ 52 = 4503599627370496 by rfl] at h2
        refine ⟨(e - (52 - l)) * 4503599627370496 + m * 2 ^ (52 - l), ?_⟩
        rw [word_mag _ _ h2 h1, Nat.mul_assoc, ← Nat.pow_add]
        congr 2; omega
  obtain ⟨r, hr⟩ := key
  refine ⟨r, ?_, hr⟩
  refine Nat.lt_of_not_le fun hc => ?_
  have h1 : magV 9218868437227405311 < magV r := mag_lt (by omega)
  unfold maxV at hx
  omega
theorem rp_le {n : Nat} (h : RP n) : n ≤ maxV := by
  obtain ⟨r, h1, h2⟩ := h
  have hI : fIN = 9218868437227405312 := rfl
  rw [← h2]
  exact mag_le (by omega)
/-- The difference of two floats that are near each other. -/
theorem rp_sub {x y : Nat} (hx : RP x) (hy : RP y) (h1 : y ≤ x) (h2 : x - y ≤ y) : RP (x - y) := by
  have hxm := rp_le hx
  obtain ⟨r, _, hr⟩ := hx
  obtain ⟨s, _, hs⟩ := hy
  obtain ⟨m, e, hm, hm1⟩ := mag_form r
  obtain ⟨n, f, hn, hn1⟩ := mag_form s
  rw [hr] at hm
  rw [hs] at hn
  rcases Nat.le_total e f with hef | hef
  · -- the step is 2 ^ e
    have e1 : y = n * 2 ^ (f - e) * 2 ^ e := by rw [hn, Nat.mul_assoc, ← Nat.pow_add]; congr 2; omega
    have e2 : x - y = (m - n * 2 ^ (f - e)) * 2 ^ e := by rw [hm, e1, Nat.sub_mul]
    rw [e2]
    refine rp_of (by omega) (by rw [← e2]; omega)
  · have e1 : x = m * 2 ^ (e - f) * 2 ^ f := by rw [hm, Nat.mul_assoc, ← Nat.pow_add]; congr 2; omega
    have e2 : x - y = (m * 2 ^ (e - f) - n) * 2 ^ f := by rw [hn, e1, Nat.sub_mul]
    rw [e2]
    refine rp_of ?_ (by rw [← e2]; omega)
    rw [e2, hn] at h2
    have := Nat.le_of_mul_le_mul_right h2 (Nat.two_pow_pos f)
    omega
theorem rp_pow {y k : Nat} (hy : RP y) (h : y * 2 ^ k ≤ maxV) : RP (y * 2 ^ k) := by
  obtain ⟨s, _, hs⟩ := hy
  obtain ⟨n, f, hn, hn1⟩ := mag_form s
  rw [hs] at hn
  have e1 : y * 2 ^ k = n * 2 ^ (f + k) := by rw [hn, Nat.mul_assoc, ← Nat.pow_add]
  rw [e1]
  exact rp_of hn1 (by rw [← e1]; exact h)
theorem pos_facts {b : Nat} (h : b < fIN) : b % fSG = b ∧ negB b = false ∧ nanB b = false ∧ b < 18446744073709551616 := by
  have e1 : fSG = 9223372036854775808 := rfl
  have e2 : fIN = 9218868437227405312 := rfl
  have h3 := (word_d false b h)
  have h4 : double.word false b = b := rfl
  rw [h4] at h3
  exact ⟨h3.1, h3.2.1, h3.2.2.2, h3.2.2.1⟩
end
section
open Go Ieee
set_option linter.unusedVariables false
set_option linter.unusedSimpArgs false
/-- A float as a fraction of 52 bits behind a one, and a power of two. -/
def NF (b f X : Nat) : Prop := f < 4503599627370496 ∧ 4503599627370496 * magV b = (4503599627370496 + f) * 2 ^ X
theorem nf_le {r y fr Xr fy Xy : Nat} (hr : NF r fr Xr) (hy : NF y fy Xy) (h : magV y ≤ magV r) : Xy ≤ Xr ∧ (fr < fy → Xy + 1 ≤ Xr) := by
  obtain ⟨h1, h2⟩ := hr
  obtain ⟨k1, k2⟩ := hy
  have h3 : (4503599627370496 + fy) * 2 ^ Xy ≤ (4503599627370496 + fr) * 2 ^ Xr := by rw [← h2, ← k2]; exact Nat.mul_le_mul_left _ h
  constructor
  · refine Nat.le_of_not_lt fun hc => ?_
    have h4 : (2 : Nat) ^ (Xr + 1) ≤ 2 ^ Xy := Nat.pow_le_pow_right (by decide) hc
    rw [Nat.pow_succ] at h4
    have h5 : 4503599627370496 * (2 ^ Xr * 2) ≤ (4503599627370496 + fy) * 2 ^ Xy := Nat.mul_le_mul (by omega) h4
    have h6 : (4503599627370496 + fr) * 2 ^ Xr < 9007199254740992 * 2 ^ Xr := Nat.mul_lt_mul_of_pos_right (by omega) (Nat.two_pow_pos _)
    generalize (2 : Nat) ^ Xr = p at *
    omega
  · intro hf
    refine Nat.lt_of_not_le fun hc => ?_
    have h4 : (2 : Nat) ^ Xr ≤ 2 ^ Xy := Nat.pow_le_pow_right (by decide) hc
    have h5 : (4503599627370496 + fr + 1) * 2 ^ Xr ≤ (4503599627370496 + fy) * 2 ^ Xy := Nat.mul_le_mul (by omega) h4
    rw [Nat.add_mul] at h5
    have := Nat.two_pow_pos Xr
    omega
def kS (fr Xr fy Xy : Nat) : Nat := Xr - Xy - (if fr < fy then 1 else 0)
theorem md_le {r y fr Xr fy Xy : Nat} (hr : NF r fr Xr) (hy : NF y fy Xy) (h : magV y ≤ magV r) : magV y * 2 ^ kS fr Xr fy Xy ≤ magV r ∧ magV r - magV y * 2 ^ kS fr Xr fy Xy ≤ magV y * 2 ^ kS fr Xr fy Xy := by
  obtain ⟨l1, l2⟩ := nf_le hr hy h
  obtain ⟨h1, h2⟩ := hr
  obtain ⟨k1, k2⟩ := hy
  have key : magV y * 2 ^ kS fr Xr fy Xy ≤ magV r ∧ magV r ≤ 2 * (magV y * 2 ^ kS fr Xr fy Xy) := by
    unfold kS
    by_cases hf : fr < fy
    · rw [if_pos hf]
      have l3 := l2 hf
      have e1 : 4503599627370496 * (magV y * 2 ^ (Xr - Xy - 1)) = (4503599627370496 + fy) * 2 ^ (Xr - 1) := by
        rw [← Nat.mul_assoc, k2, Nat.mul_assoc, ← Nat.pow_add, show Xy + (Xr - Xy - 1) = Xr - 1 by omega]
      have e2 : (2 : Nat) ^ Xr = 2 ^ (Xr - 1) * 2 := by rw [← Nat.pow_succ]; congr 1; omega
      rw [e2] at h2
      generalize (2 : Nat) ^ (Xr - 1) = p at *
      generalize magV y * 2 ^ (Xr - Xy - 1) = t at *
      have a1 : (4503599627370496 + fy) * p ≤ 9007199254740992 * p := Nat.mul_le_mul_right _ (by omega)
      have a2 : (4503599627370496 + fr) * p ≤ (4503599627370496 + fy) * p := Nat.mul_le_mul_right _ (by omega)
      have a3 : 4503599627370496 * p ≤ (4503599627370496 + fr) * p := Nat.mul_le_mul_right _ (by omega)
      rw [← Nat.mul_assoc] at h2
      omega
    · rw [if_neg hf, Nat.sub_zero]
      have e1 : 4503599627370496 * (magV y * 2 ^ (Xr - Xy)) = (4503599627370496 + fy) * 2 ^ Xr := by
        rw [← Nat.mul_assoc, k2, Nat.mul_assoc, ← Nat.pow_add, show Xy + (Xr - Xy) = Xr by omega]
      generalize (2 : Nat) ^ Xr = p at *
      generalize magV y * 2 ^ (Xr - Xy) = t at *
      have a1 : (4503599627370496 + fr) * p ≤ 9007199254740992 * p := Nat.mul_le_mul_right _ (by omega)
      have a2 : (4503599627370496 + fy) * p ≤ (4503599627370496 + fr) * p := Nat.mul_le_mul_right _ (by omega)
      have a3 : 4503599627370496 * p ≤ (4503599627370496 + fy) * p := Nat.mul_le_mul_right _ (by omega)
      omega
  omega
theorem mag_pos {y : Nat} (h : 0 < y) : 0 < magV y := by have := mag_lt h; rw [mag_zero] at this; exact this
/-- One round of the rest. -/
theorem md_step {r y fr Xr fy Xy : Nat} (hrI : r < fIN) (hyI : y < fIN) (h0 : 0 < y) (hle : y ≤ r) (hr : NF r fr Xr) (hy : NF y fy Xy) :
    ∃ t r', t < fIN ∧ 0 < t ∧ r' < r ∧ magV t = magV y * 2 ^ kS fr Xr fy Xy ∧ magV t + magV r' = magV r ∧ magV r' % magV y = magV r % magV y := by
  have h := mag_le hle
  obtain ⟨h1, h2⟩ := md_le hr hy h
  have hI : fIN = 9218868437227405312 := rfl
  have hrp : RP (magV r) := ⟨r, hrI, rfl⟩
  have hmax := rp_le hrp
  obtain ⟨t, t1, t2⟩ := rp_pow (k := kS fr Xr fy Xy) (⟨y, hyI, rfl⟩ : RP (magV y)) (Nat.le_trans h1 hmax)
  rw [← t2] at h1 h2
  obtain ⟨r', r1, r2⟩ := rp_sub hrp (⟨t, t1, rfl⟩ : RP (magV t)) h1 h2
  have hyp := mag_pos h0
  have htp : 0 < magV t := by rw [t2]; exact Nat.mul_pos hyp (Nat.two_pow_pos _)
  refine ⟨t, r', t1, ?_, ?_, t2, by omega, ?_⟩
  · refine Nat.pos_of_ne_zero fun hc => ?_
    rw [hc, mag_zero] at htp; omega
  · refine Nat.lt_of_not_le fun hc => ?_
    have := mag_le hc
    omega
  · rw [r2, t2]
    have e1 : magV r = (magV r - magV y * 2 ^ kS fr Xr fy Xy) + magV y * 2 ^ kS fr Xr fy Xy := by omega
    conv => rhs; rw [e1, Nat.add_mul_mod_self_left]
/-- A float of full digits, by its parts. -/
theorem nf_normal {b : Nat} (h : 4503599627370496 ≤ b) : NF b (b % 4503599627370496) (b / 4503599627370496 + 51) := by
  refine ⟨Nat.mod_lt _ (by decide), ?_⟩
  unfold magV
  rw [if_neg (by omega), Nat.mul_left_comm]
  refine congrArg _ ?_
  rw [show (4503599627370496 : Nat) = 2 ^ 52 by rfl, ← Nat.pow_add]
  congr 1; omega
theorem nf_small {b z : Nat} (h : 4503599627370496 ≤ z) (hz : magV z = magV b * 4503599627370496) : NF b (z % 4503599627370496) (z / 4503599627370496 - 1) := by
  refine ⟨Nat.mod_lt _ (by decide), ?_⟩
  rw [Nat.mul_comm, ← hz]
  unfold magV
  rw [if_neg (by omega)]
/-- A small float times 2^52. -/
theorem up52 {b : Nat} (h0 : 0 < b) (h : b < 4503599627370496) : ∃ z, 4503599627370496 ≤ z ∧ z < 477381560501272576 ∧ magV z = magV b * 4503599627370496 := by
  have h1 : magV b = b := mag_low (by omega)
  have hmx : b * 2 ^ 52 ≤ maxV := by
    have e1 : b * 2 ^ 52 ≤ 4503599627370496 * 2 ^ 52 := Nat.mul_le_mul_right _ (by omega)
    have e2 : magV (53 * 4503599627370496) = 4503599627370496 * 2 ^ 52 := by
      have := word_mag 52 4503599627370496 (by omega) (by omega)
      rw [← this]
    have e3 : magV (53 * 4503599627370496) ≤ maxV := mag_le (by decide)
    omega
  obtain ⟨z, z1, z2⟩ := rp_of (m := b) (e := 52) (by omega) hmx
  have z3 : magV z = b * 4503599627370496 := z2
  refine ⟨z, ?_, ?_, by rw [z3, h1]⟩
  · refine Nat.le_of_not_lt fun hc => ?_
    have h2 : magV z = z := mag_low (by omega)
    omega
  · refine Nat.lt_of_not_le fun hc => ?_
    have h2 := mag_le hc
    have e2 : magV 477381560501272576 = 4503599627370496 * 2 ^ 105 := by
      have := word_mag 105 4503599627370496 (by omega) (by omega)
      rw [← this]
    rw [e2, z3] at h2
    have e3 : (2 : Nat) ^ 105 = 4503599627370496 * 9007199254740992 := by decide
    rw [e3] at h2
    omega
theorem read_2p52 : double.read 4841369599423283200 = .number false 4503599627370496 0 := by decide +kernel
theorem read_2m53 : double.read 4368491638549381120 = .number false 4503599627370496 (-105) := by decide +kernel
theorem read_one : double.read 4607182418800017408 = .number false 4503599627370496 (-52) := by decide +kernel
theorem read_two : double.read 4611686018427387904 = .number false 4503599627370496 (-51) := by decide +kernel
theorem small_lt {z : Nat} (h : z < 477381560501272576) : z < fIN := by have hI : fIN = 9218868437227405312 := rfl; omega
/-- A pattern put together of its parts. -/
theorem mag_put {E f : Nat} (hE : 0 < E) (hf : f < 4503599627370496) : magV (E * 4503599627370496 + f) = (4503599627370496 + f) * 2 ^ (E - 1) := by
  obtain ⟨k, rfl⟩ : ∃ k, E = k + 1 := ⟨E - 1, by omega⟩
  have := word_mag k (4503599627370496 + f) (by omega) (by omega)
  rw [show (k + 1) * 4503599627370496 + f = k * 4503599627370496 + (4503599627370496 + f) by omega, this]
  rfl
/-- Scaled: the normal case. e52: 52, if it was small. -/
theorem ld_normal {y z t n e52 : Nat} (h1 : 4503599627370496 ≤ z) (hz : magV z = magV y * 2 ^ e52) (ht : magV t = magV y * 2 ^ n) (hE : e52 < n + z / 4503599627370496) :
    (n + z / 4503599627370496 - e52) * 4503599627370496 + z % 4503599627370496 = t := by
  refine mag_inj ?_
  have hf : z % 4503599627370496 < 4503599627370496 := Nat.mod_lt _ (by decide)
  have hE1 : 1 ≤ z / 4503599627370496 := by omega
  have e1 : magV z = (4503599627370496 + z % 4503599627370496) * 2 ^ (z / 4503599627370496 - 1) := by unfold magV; rw [if_neg (by omega)]
  rw [mag_put (by omega) hf, ht]
  have h2 : ((4503599627370496 + z % 4503599627370496) * 2 ^ (n + z / 4503599627370496 - e52 - 1)) * 2 ^ e52 = (magV y * 2 ^ n) * 2 ^ e52 := by
    rw [Nat.mul_assoc, ← Nat.pow_add, Nat.mul_right_comm, ← hz, e1, Nat.mul_assoc, ← Nat.pow_add]
    congr 2; omega
  exact Nat.eq_of_mul_eq_mul_right (Nat.two_pow_pos _) h2
/-- What the rest of two floats is. -/
theorem rest_rp {A B : Nat} (hA : RP A) (hB : RP B) (h0 : 0 < B) : RP (A % B) := by
  have hmx := rp_le hA
  obtain ⟨r, _, hr⟩ := hA
  obtain ⟨s, _, hs⟩ := hB
  obtain ⟨m, e, hm, hm1⟩ := mag_form r
  obtain ⟨n, f, hn, hn1⟩ := mag_form s
  rw [hr] at hm
  rw [hs] at hn
  have hle : A % B ≤ A := Nat.mod_le _ _
  have hlt : A % B < B := Nat.mod_lt _ h0
  rcases Nat.le_total e f with h | h
  · have e1 : A % B = (m % (n * 2 ^ (f - e))) * 2 ^ e := by
      have e2 : B = n * 2 ^ (f - e) * 2 ^ e := by rw [hn, Nat.mul_assoc, ← Nat.pow_add]; congr 2; omega
      rw [e2, hm, Nat.mul_mod_mul_right]
    rw [e1]
    refine rp_of (Nat.lt_of_le_of_lt (Nat.mod_le _ _) hm1) (by rw [← e1]; omega)
  · have e1 : A % B = (m * 2 ^ (e - f) % n) * 2 ^ f := by
      have e2 : A = m * 2 ^ (e - f) * 2 ^ f := by rw [hm, Nat.mul_assoc, ← Nat.pow_add]; congr 2; omega
      rw [e2, hn, Nat.mul_mod_mul_right]
    have hn0 : 0 < n := Nat.pos_of_ne_zero fun hc => by rw [hc, Nat.zero_mul] at hn; omega
    rw [e1]
    refine rp_of (Nat.lt_trans (Nat.mod_lt _ hn0) hn1) (by rw [← e1]; omega)
theorem read_pos2 {b : Nat} (h : b < fIN) : ∃ m e : Nat, double.read b = .number false m ((e : Int) - 1074) ∧ m * 2 ^ e = magV b ∧ m < 9007199254740992 := by
  obtain ⟨p1, p2, p3, p4⟩ := pos_facts h
  have e : double.read b = (if b % fSG < 4503599627370496 then Datum.number (negB b) (b % fSG) (-1074) else if b % fSG < fIN then Datum.number (negB b) (4503599627370496 + b % fSG % 4503599627370496) (-1074 + ((b % fSG / 4503599627370496 - 1 : Nat) : Int)) else if b % fSG = fIN then Datum.infinity (negB b) else Datum.nan (negB b) (b % fSG - fIN)) := rfl
  rw [e, p1, p2]
  by_cases h1 : b < 4503599627370496
  · rw [if_pos h1]
    refine ⟨b, 0, rfl, ?_, by omega⟩
    rw [mag_low (by omega)]; simp
  · rw [if_neg h1, if_pos h]
    refine ⟨4503599627370496 + b % 4503599627370496, b / 4503599627370496 - 1, ?_, ?_, by omega⟩
    · rw [Datum.number.injEq]
      exact ⟨rfl, rfl, by omega⟩
    · unfold magV; rw [if_neg h1]
/-- Halving a float. -/
theorem div_two {x z : Nat} (hx : x < fIN) (hz : z < fIN) (h : magV x = 2 * magV z) : double.div x 4611686018427387904 = some z := by
  by_cases h0 : x = 0
  · subst h0
    have : z = 0 := mag_inj (by rw [mag_zero] at *; omega)
    subst this
    rfl
  · obtain ⟨m, e, h1, h2, hm53⟩ := read_pos2 hx
    have hm0 : 0 < m := by
      refine Nat.pos_of_ne_zero fun hc => ?_
      rw [hc, Nat.zero_mul] at h2
      have : x = 0 := mag_inj (by rw [← h2]; rfl)
      omega
    have hml : m.log2 < 53 := pow_le_inv (Nat.lt_of_le_of_lt (Nat.log2_self_le (by omega)) hm53)
    unfold Format.div
    rw [h1, read_two]
    show some (double.nearest (false ^^ false) (2 * ((m <<< (double.fractionBits + 2 + (4503599627370496 : Nat).log2 - m.log2)) / 4503599627370496) + ((m <<< (double.fractionBits + 2 + (4503599627370496 : Nat).log2 - m.log2)) % 4503599627370496 != 0).toNat) (((e : Int) - 1074) - (-51) - ((double.fractionBits + 2 + (4503599627370496 : Nat).log2 - m.log2 : Nat) : Int) - 1)) = some z
    rw [fb_d, show (4503599627370496 : Nat).log2 = 52 by decide +kernel]
    obtain ⟨c, hc⟩ : ∃ c, 52 + 2 + 52 - m.log2 = 52 + c := ⟨54 - m.log2, by omega⟩
    rw [hc, Nat.shiftLeft_eq, Nat.pow_add, show (2 : Nat) ^ 52 = 4503599627370496 by rfl, Nat.mul_left_comm, Nat.mul_mod_right, Nat.mul_div_cancel_left _ (by omega)]
    refine congrArg some ?_
    have hp : (((e : Int) - 1074) - (-51) - ((52 + c : Nat) : Int) - 1) = ((e : Nat) : Int) - ((c + 2 : Nat) : Int) - 1074 := by push_cast; omega
    rw [near_exact (false ^^ false) _ e (c + 2) z _ hp (by simp; exact Nat.mul_pos hm0 (Nat.two_pow_pos _)) ?_ hz]
    · rfl
    · simp only [bne_self_eq_false, Bool.toNat_false, Nat.add_zero]
      have e3 : 2 * (m * 2 ^ c) * 2 ^ e = (m * 2 ^ e) * 2 ^ (c + 1) := by rw [Nat.pow_succ]; simp only [Nat.mul_assoc, Nat.mul_comm, Nat.mul_left_comm]
      rw [e3, h2, h, show c + 2 = (c + 1) + 1 by omega, Nat.pow_succ 2 (c + 1)]
      simp only [Nat.mul_assoc, Nat.mul_comm, Nat.mul_left_comm]
end
section
open Go Ieee
set_option linter.unusedVariables false
set_option linter.unusedSimpArgs false
theorem word_le (s : Bool) (r : Nat) (h : r ≤ fIN) : double.word s r % fSG = r ∧ negB (double.word s r) = s ∧ double.word s r < 18446744073709551616 ∧ nanB (double.word s r) = false := by
  rcases Nat.lt_or_eq_of_le h with h | h
  · exact word_d s r h
  · subst h
    cases s <;> decide +kernel
/-- A pattern of a number or an infinity. -/
def FNn (z : Nat) : Prop := nanB z = false ∧ z < 18446744073709551616
theorem near_nn (s : Bool) (m : Nat) (p : Int) : FNn (double.nearest s m p) := by
  unfold Format.nearest
  by_cases h : m = 0
  · rw [if_pos h]
    have := word_le s 0 (by decide)
    exact ⟨this.2.2.2, this.2.2.1⟩
  · rw [if_neg h]
    simp only
    rw [in_d]
    have := word_le s _ (Nat.min_le_right ((max (p + (m.log2 : Int) - ((double.fractionBits : Nat) : Int)) double.leastPlace - double.leastPlace).toNat * double.binade + Toward.even.cut s (m <<< (p - max (p + (m.log2 : Int) - ((double.fractionBits : Nat) : Int)) double.leastPlace).toNat) (max (p + (m.log2 : Int) - ((double.fractionBits : Nat) : Int)) double.leastPlace - p).toNat) fIN)
    exact ⟨this.2.2.2, this.2.2.1⟩
theorem inf_nn (s : Bool) : FNn (double.word s double.infRung) := by
  rw [in_d]
  have := word_le s fIN (Nat.le_refl _)
  exact ⟨this.2.2.2, this.2.2.1⟩
/-- What a pattern that is no NaN stands for. -/
theorem read_nn {x : Nat} (h : nanB x = false) : (infB x = true ∧ double.read x = .infinity (negB x)) ∨ (infB x = false ∧ ∃ m p, double.read x = .number (negB x) m p ∧ (zeroB x = false → m ≠ 0)) := by
  rcases read_d x with ⟨h1, _⟩ | ⟨_, h1, h2⟩ | ⟨_, h1, m, e, h2, h3⟩
  · rw [h] at h1; cases h1
  · exact .inl ⟨by unfold infB; simpa using h1, h2⟩
  · refine .inr ⟨by unfold infB; simp; omega, m, _, h2, ?_⟩
    intro hz hm
    unfold zeroB at hz
    rw [decide_eq_false_iff_not] at hz
    rw [hm, Nat.zero_mul] at h3
    have := mag_pos (y := x % fSG) (by omega)
    omega
theorem sum_nn (x y : Datum) (hx : (∃ s, x = .infinity s) ∨ ∃ s m p, x = .number s m p) (hy : (∃ s, y = .infinity s) ∨ ∃ s m p, y = .number s m p) (hf : (∃ s m p, x = .number s m p) ∨ ∃ s m p, y = .number s m p) :
    ∃ z, (x.sum y).map double.write = some z ∧ FNn z := by
  rcases hx with ⟨s, rfl⟩ | ⟨s, m, p, rfl⟩
  · rcases hy with ⟨t, rfl⟩ | ⟨t, n, q, rfl⟩
    · rcases hf with ⟨_, _, _, h⟩ | ⟨_, _, _, h⟩ <;> cases h
    · exact ⟨_, rfl, inf_nn s⟩
  · rcases hy with ⟨t, rfl⟩ | ⟨t, n, q, rfl⟩
    · exact ⟨_, rfl, inf_nn t⟩
    · exact ⟨_, rfl, near_nn _ _ _⟩
theorem form_nn {x : Nat} (h : nanB x = false) : (∃ s, double.read x = .infinity s) ∨ ∃ s m p, double.read x = .number s m p := by
  rcases read_nn h with ⟨_, h⟩ | ⟨_, m, p, h, _⟩
  · exact .inl ⟨_, h⟩
  · exact .inr ⟨_, _, _, h⟩
theorem fin_nn {x : Nat} (h : nanB x = false) (hi : infB x = false) : ∃ s m p, double.read x = .number s m p := by
  rcases read_nn h with ⟨h1, _⟩ | ⟨_, m, p, h, _⟩
  · rw [hi] at h1; cases h1
  · exact ⟨_, _, _, h⟩
theorem add_nn {x y : Nat} (hx : nanB x = false) (hy : nanB y = false) (hf : infB x = false ∨ infB y = false) : ∃ z, double.add x y = some z ∧ FNn z :=
  sum_nn _ _ (form_nn hx) (form_nn hy) (hf.imp (fin_nn hx) (fin_nn hy))
theorem sub_nn {x y : Nat} (hx : nanB x = false) (hy : nanB y = false) (hf : infB x = false ∨ infB y = false) : ∃ z, double.sub x y = some z ∧ FNn z := by
  refine sum_nn _ _ (form_nn hx) ?_ (hf.imp (fin_nn hx) ?_)
  · rcases form_nn hy with ⟨s, h⟩ | ⟨s, m, p, h⟩
    · exact .inl ⟨!s, by rw [h]; rfl⟩
    · exact .inr ⟨!s, m, p, by rw [h]; rfl⟩
  · intro h
    obtain ⟨s, m, p, h⟩ := fin_nn hy h
    exact ⟨!s, m, p, by rw [h]; rfl⟩
theorem div_nn {x y : Nat} (hx : nanB x = false) (hy : nanB y = false) (hz : zeroB y = false) (hf : infB x = false ∨ infB y = false) : ∃ z, double.div x y = some z ∧ FNn z := by
  unfold Format.div
  rcases read_nn hx with ⟨h1, h⟩ | ⟨h1, m, p, h, _⟩
  · rcases read_nn hy with ⟨k1, k⟩ | ⟨k1, n, q, k, _⟩
    · rcases hf with hf | hf
      · rw [hf] at h1; cases h1
      · rw [hf] at k1; cases k1
    · rw [h, k]
      exact ⟨_, rfl, inf_nn _⟩
  · rcases read_nn hy with ⟨k1, k⟩ | ⟨k1, n, q, k, hn⟩
    · rw [h, k]
      exact ⟨_, rfl, near_nn _ _ _⟩
    · rw [h, k]
      unfold Datum.quotient
      simp only [if_neg (hn hz)]
      exact ⟨_, rfl, near_nn _ _ _⟩
/-- A number rounded down. -/
def flB (x : Nat) : Nat := double.write ((double.read x).integral .down)
theorem fl_nn {x : Nat} (h : nanB x = false) : FNn (flB x) := by
  unfold flB
  rcases read_nn h with ⟨_, h⟩ | ⟨_, m, p, h, _⟩
  · rw [h]; exact inf_nn _
  · rw [h]; exact near_nn _ _ _
theorem fl_inf {x : Nat} (hx : x < 18446744073709551616) (h : infB x = true) : flB x = x := by
  have h0 : x % fSG = fIN := by unfold infB at h; simpa using h
  have hn : nanB x = false := by unfold nanB; rw [h0]; simp
  have e1 : fSG = 9223372036854775808 := rfl
  have e2 : fIN = 9218868437227405312 := rfl
  have hx2 : x = 9218868437227405312 ∨ x = 18442240474082181120 := by rw [e1, e2] at h0; omega
  rcases hx2 with rfl | rfl <;> decide +kernel
theorem fl_fin {x : Nat} (h : nanB x = false) (hi : infB x = false) : infB (flB x) = false ∨ infB (flB x) = true := by cases infB (flB x) <;> simp
def oneF : Nat := 4607182418800017408
def halfF : Nat := 4602678819172646912
/-- The steps of a quotient rounded down, of a rest rr. -/
structure DV (a b rr s d0 m1 d1 f : Nat) : Prop where
  hs : double.sub a (double.word (negB a) rr) = some s
  ns : FNn s
  hd : double.div s b = some d0
  nd : FNn d0
  c0 : rr = 0 → m1 = double.word (negB b) 0 ∧ d1 = d0
  c1 : rr ≠ 0 → negB a = negB b → m1 = double.word (negB a) rr ∧ d1 = d0
  c2 : rr ≠ 0 → negB a ≠ negB b → double.add (double.word (negB a) rr) b = some m1 ∧ double.sub d0 oneF = some d1
  nm : FNn m1
  nd1 : FNn d1
  f0 : zeroB d1 = true → f = double.word (negB a ^^ negB b) 0
  f1 : infB d1 = true → f = d1
  f2 : zeroB d1 = false → infB d1 = false → ∃ q, double.sub d1 (flB d1) = some q ∧ FNn q ∧ ((double.order q halfF == some .gt) = true → double.add (flB d1) oneF = some f) ∧ ((double.order q halfF == some .gt) = false → f = flB d1)
  nf : FNn f
theorem one_nn : nanB oneF = false ∧ infB oneF = false := by decide +kernel
theorem dv_ex (a b rr : Nat) (hb : b < 18446744073709551616) (hna : nanB a = false) (hia : infB a = false) (hnb : nanB b = false) (hzb : zeroB b = false) (hrr : rr < fIN) (hinf : infB b = true → rr = a % fSG) (ha : a < 18446744073709551616) : ∃ s d0 m1 d1 f, DV a b rr s d0 m1 d1 f := by
  obtain ⟨w1, w2, w3, w4⟩ := word_d (negB a) rr hrr
  have w5 : infB (double.word (negB a) rr) = false := by unfold infB; rw [w1, decide_eq_false_iff_not]; omega
  obtain ⟨s, hs, ns⟩ := sub_nn hna w4 (.inl hia)
  have hsb : infB s = false ∨ infB b = false := by
    cases hb2 : infB b
    · exact .inr rfl
    · left
      have e1 := hinf hb2
      have e2 : double.word (negB a) rr = a := by
        rw [e1]
        have e3 : fSG = 9223372036854775808 := rfl
        unfold Format.word
        rw [sw_d]
        cases hn : negB a
        · unfold negB at hn; rw [e3] at hn ⊢; simp at hn ⊢; omega
        · unfold negB at hn; rw [e3] at hn ⊢; simp at hn ⊢; omega
      rw [e2] at hs
      have e4 := sub_self hna
      unfold subB at e4
      rw [hs] at e4
      have e5 : a % fSG ≠ fIN := by unfold infB at hia; simpa using hia
      rw [if_neg e5] at e4
      have e6 : s = 0 := by
        have : outB (some s) = patB s := rfl
        rw [this] at e4
        unfold patB at e4
        rw [ns.1, if_neg (by simp)] at e4
        exact e4
      rw [e6]; rfl
  obtain ⟨d0, hd, nd⟩ := div_nn ns.1 hnb hzb hsb
  have key : ∃ m1 d1, (rr = 0 → m1 = double.word (negB b) 0 ∧ d1 = d0) ∧ (rr ≠ 0 → negB a = negB b → m1 = double.word (negB a) rr ∧ d1 = d0) ∧
      (rr ≠ 0 → negB a ≠ negB b → double.add (double.word (negB a) rr) b = some m1 ∧ double.sub d0 oneF = some d1) ∧ FNn m1 ∧ FNn d1 := by
    by_cases h0 : rr = 0
    · refine ⟨_, d0, fun _ => ⟨rfl, rfl⟩, fun h => absurd h0 h, fun h => absurd h0 h, ?_, nd⟩
      have := word_le (negB b) 0 (by decide)
      exact ⟨this.2.2.2, this.2.2.1⟩
    · by_cases hs2 : negB a = negB b
      · exact ⟨_, d0, fun h => absurd h h0, fun _ _ => ⟨rfl, rfl⟩, fun _ h => absurd hs2 h, ⟨w4, w3⟩, nd⟩
      · obtain ⟨m1, k1, k2⟩ := add_nn w4 hnb (.inl w5)
        obtain ⟨d1, k3, k4⟩ := sub_nn nd.1 one_nn.1 (.inr one_nn.2)
        exact ⟨m1, d1, fun h => absurd h h0, fun _ h => absurd h hs2, fun _ _ => ⟨k1, k3⟩, k2, k4⟩
  obtain ⟨m1, d1, a1, a2, a3, a4, a5⟩ := key
  cases hz : zeroB d1 with
  | true =>
    refine ⟨s, d0, m1, d1, double.word (negB a ^^ negB b) 0, hs, ns, hd, nd, a1, a2, a3, a4, a5, fun _ => rfl, fun h => ?_, fun h => ?_, ?_⟩
    · exfalso
      unfold zeroB at hz; unfold infB at h
      simp at hz h
      rw [hz] at h
      exact absurd h (by decide)
    · rw [hz] at h; cases h
    · have := word_le (negB a ^^ negB b) 0 (by decide)
      exact ⟨this.2.2.2, this.2.2.1⟩
  | false =>
    cases hi : infB d1 with
    | true => exact ⟨s, d0, m1, d1, d1, hs, ns, hd, nd, a1, a2, a3, a4, a5, fun h => absurd (hz.symm.trans h) (by simp), fun _ => rfl, fun _ h => absurd (hi.symm.trans h) (by simp), a5⟩
    | false =>
      obtain ⟨q, q1, q2⟩ := sub_nn a5.1 (fl_nn a5.1).1 (.inl hi)
      cases hg : (double.order q halfF == some .gt) with
      | true =>
        obtain ⟨f, f1, f2⟩ := add_nn (fl_nn a5.1).1 one_nn.1 (.inr one_nn.2)
        exact ⟨s, d0, m1, d1, f, hs, ns, hd, nd, a1, a2, a3, a4, a5, fun h => absurd (hz.symm.trans h) (by simp), fun h => absurd (hi.symm.trans h) (by simp), fun _ _ => ⟨q, q1, q2, fun _ => f1, fun h => absurd (hg.symm.trans h) (by simp)⟩, f2⟩
      | false =>
        exact ⟨s, d0, m1, d1, flB d1, hs, ns, hd, nd, a1, a2, a3, a4, a5, fun h => absurd (hz.symm.trans h) (by simp), fun h => absurd (hi.symm.trans h) (by simp), fun _ _ => ⟨q, q1, q2, fun h => absurd (hg.symm.trans h) (by simp), fun _ => rfl⟩, fl_nn a5.1⟩
end
end Go.Proofs.YtbhommcpgejbfaaGreatDoor
