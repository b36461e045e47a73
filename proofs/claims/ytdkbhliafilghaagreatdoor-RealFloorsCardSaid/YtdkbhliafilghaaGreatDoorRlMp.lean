/- The rest of two floats, plainly: one round; scaling by a power of two. -/
import Derived.Test.YtdkbhliafilghaaGreatDoorRlMo
namespace Go.Proofs.YtdkbhliafilghaaGreatDoor
open Go Ieee
set_option linter.unusedVariables false
set_option linter.unusedSimpArgs false
/-- A float as a fraction of 52 bits behind a one, and a power of two. -/
def NF (b f X : Nat) : Prop := f < 4503599627370496 ∧ 4503599627370496 * magV b = (4503599627370496 + f) * 2 ^ X
theorem nf_le {r y fr Xr fy Xy : Nat} (hr : NF r fr Xr) (hy : NF y fy Xy) (h : magV y ≤ magV r) : Xy ≤ Xr ∧ (fr < fy → Xy + 1 ≤ Xr) := by
  obtain ⟨h1, h2⟩ := hr
  obtain ⟨k1, k2⟩ := hy
  have h3 : (4503599627370496 + fy) * 2 ^ Xy ≤ (4503599627370496 + fr) * 2 ^ Xr := by rw [← h2, ← k2]; exact Nat.mul_le_mul_left _ h
  constructor
  · refine Nat.le_of_not_lt fun hc => ?_
    have h4 : (2 : Nat) ^ (Xr + 1) ≤ 2 ^ Xy := Nat.pow_le_pow_right (by decide) hc
    rw [Nat.pow_succ] at h4
    have h5 : 4503599627370496 * (2 ^ Xr * 2) ≤ (4503599627370496 + fy) * 2 ^ Xy := Nat.mul_le_mul (by omega) h4
    have h6 : (4503599627370496 + fr) * 2 ^ Xr < 9007199254740992 * 2 ^ Xr := Nat.mul_lt_mul_of_pos_right (by omega) (Nat.two_pow_pos _)
    generalize (2 : Nat) ^ Xr = p at *
    omega
  · intro hf
    refine Nat.lt_of_not_le fun hc => ?_
    have h4 : (2 : Nat) ^ Xr ≤ 2 ^ Xy := Nat.pow_le_pow_right (by decide) hc
    have h5 : (4503599627370496 + fr + 1) * 2 ^ Xr ≤ (4503599627370496 + fy) * 2 ^ Xy := Nat.mul_le_mul (by omega) h4
    rw [Nat.add_mul] at h5
    have := Nat.two_pow_pos Xr
    omega
def kS (fr Xr fy Xy : Nat) : Nat := Xr - Xy - (if fr < fy then 1 else 0)
theorem md_le {r y fr Xr fy Xy : Nat} (hr : NF r fr Xr) (hy : NF y fy Xy) (h : magV y ≤ magV r) : magV y * 2 ^ kS fr Xr fy Xy ≤ magV r ∧ magV r - magV y * 2 ^ kS fr Xr fy Xy ≤ magV y * 2 ^ kS fr Xr fy Xy := by
  obtain ⟨l1, l2⟩ := nf_le hr hy h
  obtain ⟨h1, h2⟩ := hr
  obtain ⟨k1, k2⟩ := hy
  have key : magV y * 2 ^ kS fr Xr fy Xy ≤ magV r ∧ magV r ≤ 2 * (magV y * 2 ^ kS fr Xr fy Xy) := by
    unfold kS
    by_cases hf : fr < fy
    · rw [if_pos hf]
      have l3 := l2 hf
      have e1 : 4503599627370496 * (magV y * 2 ^ (Xr - Xy - 1)) = (4503599627370496 + fy) * 2 ^ (Xr - 1) := by
        rw [← Nat.mul_assoc, k2, Nat.mul_assoc, ← Nat.pow_add, show Xy + (Xr - Xy - 1) = Xr - 1 by omega]
      have e2 : (2 : Nat) ^ Xr = 2 ^ (Xr - 1) * 2 := by rw [← Nat.pow_succ]; congr 1; omega
      rw [e2] at h2
      generalize (2 : Nat) ^ (Xr - 1) = p at *
      generalize magV y * 2 ^ (Xr - Xy - 1) = t at *
      have a1 : (4503599627370496 + fy) * p ≤ 9007199254740992 * p := Nat.mul_le_mul_right _ (by omega)
      have a2 : (4503599627370496 + fr) * p ≤ (4503599627370496 + fy) * p := Nat.mul_le_mul_right _ (by omega)
      have a3 : 4503599627370496 * p ≤ (4503599627370496 + fr) * p := Nat.mul_le_mul_right _ (by omega)
      rw [← Nat.mul_assoc] at h2
      omega
    · rw [if_neg hf, Nat.sub_zero]
      have e1 : 4503599627370496 * (magV y * 2 ^ (Xr - Xy)) = (4503599627370496 + fy) * 2 ^ Xr := by
        rw [← Nat.mul_assoc, k2, Nat.mul_assoc, ← Nat.pow_add, show Xy + (Xr - Xy) = Xr by omega]
      generalize (2 : Nat) ^ Xr = p at *
      generalize magV y * 2 ^ (Xr - Xy) = t at *
      have a1 : (4503599627370496 + fr) * p ≤ 9007199254740992 * p := Nat.mul_le_mul_right _ (by omega)
      have a2 : (4503599627370496 + fy) * p ≤ (4503599627370496 + fr) * p := Nat.mul_le_mul_right _ (by omega)
      have a3 : 4503599627370496 * p ≤ (4503599627370496 + fy) * p := Nat.mul_le_mul_right _ (by omega)
      omega
  omega
theorem mag_pos {y : Nat} (h : 0 < y) : 0 < magV y := by have := mag_lt h; rw [mag_zero] at this; exact this
/-- One round of the rest. -/
theorem md_step {r y fr Xr fy Xy : Nat} (hrI : r < fIN) (hyI : y < fIN) (h0 : 0 < y) (hle : y ≤ r) (hr : NF r fr Xr) (hy : NF y fy Xy) :
    ∃ t r', t < fIN ∧ 0 < t ∧ r' < r ∧ magV t = magV y * 2 ^ kS fr Xr fy Xy ∧ magV t + magV r' = magV r ∧ magV r' % magV y = magV r % magV y := by
  have h := mag_le hle
  obtain ⟨h1, h2⟩ := md_le hr hy h
  have hI : fIN = 9218868437227405312 := rfl
  have hrp : RP (magV r) := ⟨r, hrI, rfl⟩
  have hmax := rp_le hrp
  obtain ⟨t, t1, t2⟩ := rp_pow (k := kS fr Xr fy Xy) (⟨y, hyI, rfl⟩ : RP (magV y)) (Nat.le_trans h1 hmax)
  rw [← t2] at h1 h2
  obtain ⟨r', r1, r2⟩ := rp_sub hrp (⟨t, t1, rfl⟩ : RP (magV t)) h1 h2
  have hyp := mag_pos h0
  have htp : 0 < magV t := by rw [t2]; exact Nat.mul_pos hyp (Nat.two_pow_pos _)
  refine ⟨t, r', t1, ?_, ?_, t2, by omega, ?_⟩
  · refine Nat.pos_of_ne_zero fun hc => ?_
    rw [hc, mag_zero] at htp; omega
  · refine Nat.lt_of_not_le fun hc => ?_
    have := mag_le hc
    omega
  · rw [r2, t2]
    have e1 : magV r = (magV r - magV y * 2 ^ kS fr Xr fy Xy) + magV y * 2 ^ kS fr Xr fy Xy := by omega
    conv => rhs; rw [e1, Nat.add_mul_mod_self_left]
/-- A float of full digits, by its parts. -/
theorem nf_normal {b : Nat} (h : 4503599627370496 ≤ b) : NF b (b % 4503599627370496) (b / 4503599627370496 + 51) := by
  refine ⟨Nat.mod_lt _ (by decide), ?_⟩
  unfold magV
  rw [if_neg (by omega), Nat.mul_left_comm]
  refine congrArg _ ?_
  rw [show (4503599627370496 : Nat) = 2 ^ 52 by rfl, ← Nat.pow_add]
  congr 1; omega
theorem nf_small {b z : Nat} (h : 4503599627370496 ≤ z) (hz : magV z = magV b * 4503599627370496) : NF b (z % 4503599627370496) (z / 4503599627370496 - 1) := by
  refine ⟨Nat.mod_lt _ (by decide), ?_⟩
  rw [Nat.mul_comm, ← hz]
  unfold magV
  rw [if_neg (by omega)]
/-- A small float times 2^52. -/
theorem up52 {b : Nat} (h0 : 0 < b) (h : b < 4503599627370496) : ∃ z, 4503599627370496 ≤ z ∧ z < 477381560501272576 ∧ magV z = magV b * 4503599627370496 := by
  have h1 : magV b = b := mag_low (by omega)
  have hmx : b * 2 ^ 52 ≤ maxV := by
    have e1 : b * 2 ^ 52 ≤ 4503599627370496 * 2 ^ 52 := Nat.mul_le_mul_right _ (by omega)
    have e2 : magV (53 * 4503599627370496) = 4503599627370496 * 2 ^ 52 := by
      have := word_mag 52 4503599627370496 (by omega) (by omega)
      rw [← this]
    have e3 : magV (53 * 4503599627370496) ≤ maxV := mag_le (by decide)
    omega
  obtain ⟨z, z1, z2⟩ := rp_of (m := b) (e := 52) (by omega) hmx
  have z3 : magV z = b * 4503599627370496 := z2
  refine ⟨z, ?_, ?_, by rw [z3, h1]⟩
  · refine Nat.le_of_not_lt fun hc => ?_
    have h2 : magV z = z := mag_low (by omega)
    omega
  · refine Nat.lt_of_not_le fun hc => ?_
    have h2 := mag_le hc
    have e2 : magV 477381560501272576 = 4503599627370496 * 2 ^ 105 := by
      have := word_mag 105 4503599627370496 (by omega) (by omega)
      rw [← this]
    rw [e2, z3] at h2
    have e3 : (2 : Nat) ^ 105 = 4503599627370496 * 9007199254740992 := by decide
    rw [e3] at h2
    omega
theorem read_2p52 : double.read 4841369599423283200 = .number false 4503599627370496 0 := by decide +kernel
theorem read_2m53 : double.read 4368491638549381120 = .number false 4503599627370496 (-105) := by decide +kernel
theorem read_one : double.read 4607182418800017408 = .number false 4503599627370496 (-52) := by decide +kernel
theorem read_two : double.read 4611686018427387904 = .number false 4503599627370496 (-51) := by decide +kernel
theorem small_lt {z : Nat} (h : z < 477381560501272576) : z < fIN := by have hI : fIN = 9218868437227405312 := rfl; omega
theorem mul_up52 {b z : Nat} (h0 : 0 < b) (h : b < 4503599627370496) (hz : z < 477381560501272576) (hm : magV z = magV b * 4503599627370496) : double.mul b 4841369599423283200 = some z :=
  mul_exact (m2 := 4503599627370496) (p2 := 0) (a := 0) (b := 0) (small_lt (by omega)) h0 read_2p52 (by omega) (small_lt hz) (by omega) (by rw [hm])
/-- A pattern put together of its parts. -/
theorem mag_put {E f : Nat} (hE : 0 < E) (hf : f < 4503599627370496) : magV (E * 4503599627370496 + f) = (4503599627370496 + f) * 2 ^ (E - 1) := by
  obtain ⟨k, rfl⟩ : ∃ k, E = k + 1 := ⟨E - 1, by omega⟩
  have := word_mag k (4503599627370496 + f) (by omega) (by omega)
  rw [show (k + 1) * 4503599627370496 + f = k * 4503599627370496 + (4503599627370496 + f) by omega, this]
  rfl
/-- Scaled: the normal case. e52: 52, if it was small. -/
theorem ld_normal {y z t n e52 : Nat} (h1 : 4503599627370496 ≤ z) (hz : magV z = magV y * 2 ^ e52) (ht : magV t = magV y * 2 ^ n) (hE : e52 < n + z / 4503599627370496) :
    (n + z / 4503599627370496 - e52) * 4503599627370496 + z % 4503599627370496 = t := by
  refine mag_inj ?_
  have hf : z % 4503599627370496 < 4503599627370496 := Nat.mod_lt _ (by decide)
  have hE1 : 1 ≤ z / 4503599627370496 := by omega
  have e1 : magV z = (4503599627370496 + z % 4503599627370496) * 2 ^ (z / 4503599627370496 - 1) := by unfold magV; rw [if_neg (by omega)]
  rw [mag_put (by omega) hf, ht]
  have h2 : ((4503599627370496 + z % 4503599627370496) * 2 ^ (n + z / 4503599627370496 - e52 - 1)) * 2 ^ e52 = (magV y * 2 ^ n) * 2 ^ e52 := by
    rw [Nat.mul_assoc, ← Nat.pow_add, Nat.mul_right_comm, ← hz, e1, Nat.mul_assoc, ← Nat.pow_add]
    congr 2; omega
  exact Nat.eq_of_mul_eq_mul_right (Nat.two_pow_pos _) h2
theorem mul_one_d {t : Nat} (h : t < fIN) (h0 : 0 < t) : double.mul 4607182418800017408 t = some t := by
  have h1 := mul_exact (m2 := 4503599627370496) (a := 0) (b := 52) (z := t) h h0 read_one (by omega) h (by omega) (by rw [show (2 : Nat) ^ 52 = 4503599627370496 by rfl]; omega)
  unfold Format.mul at *
  rwa [product_comm]
/-- Scaled: a small answer. -/
theorem ld_small {y z t n e52 : Nat} (h1 : 4503599627370496 ≤ z) (hzI : z < fIN) (hz : magV z = magV y * 2 ^ e52) (ht : magV t = magV y * 2 ^ n) (htI : t < fIN) (hE : n + z / 4503599627370496 ≤ e52) (he : e52 ≤ 52) :
    ∃ x, x = (n + z / 4503599627370496 + 53 - e52) * 4503599627370496 + z % 4503599627370496 ∧ x < fIN ∧ double.mul 4368491638549381120 x = some t := by
  have hf : z % 4503599627370496 < 4503599627370496 := Nat.mod_lt _ (by decide)
  have hE1 : 1 ≤ z / 4503599627370496 := by omega
  have hI : fIN = 9218868437227405312 := rfl
  have e1 : magV z = (4503599627370496 + z % 4503599627370496) * 2 ^ (z / 4503599627370496 - 1) := by unfold magV; rw [if_neg (by omega)]
  obtain ⟨x, hx⟩ : ∃ x, (n + z / 4503599627370496 + 53 - e52) * 4503599627370496 + z % 4503599627370496 = x := ⟨_, rfl⟩
  have hxI : x < fIN := by omega
  have hxm : magV x = magV t * 2 ^ 53 := by
    rw [← hx, mag_put (by omega) hf, ht]
    have h2 : ((4503599627370496 + z % 4503599627370496) * 2 ^ (n + z / 4503599627370496 + 53 - e52 - 1)) * 2 ^ e52 = (magV y * 2 ^ n * 2 ^ 53) * 2 ^ e52 := by
      rw [Nat.mul_assoc, ← Nat.pow_add, Nat.mul_right_comm, Nat.mul_right_comm (magV y), ← hz, e1, Nat.mul_assoc, Nat.mul_assoc, ← Nat.pow_add, ← Nat.pow_add]
      congr 2; omega
    exact Nat.eq_of_mul_eq_mul_right (Nat.two_pow_pos _) h2
  refine ⟨x, hx.symm, hxI, ?_⟩
  have hx0 : 0 < x := by omega
  have h3 := mul_exact (x := x) (y := 4368491638549381120) (z := t) (m2 := 4503599627370496) (a := 0) (b := 105) hxI hx0 read_2m53 (by omega) htI (by omega) (by
    rw [hxm, show (2 : Nat) ^ 105 = 2 ^ 53 * 4503599627370496 by decide]; simp [Nat.mul_assoc])
  unfold Format.mul at *
  rwa [product_comm]
/-- What the rest of two floats is. -/
theorem rest_rp {A B : Nat} (hA : RP A) (hB : RP B) (h0 : 0 < B) : RP (A % B) := by
  have hmx := rp_le hA
  obtain ⟨r, _, hr⟩ := hA
  obtain ⟨s, _, hs⟩ := hB
  obtain ⟨m, e, hm, hm1⟩ := mag_form r
  obtain ⟨n, f, hn, hn1⟩ := mag_form s
  rw [hr] at hm
  rw [hs] at hn
  have hle : A % B ≤ A := Nat.mod_le _ _
  have hlt : A % B < B := Nat.mod_lt _ h0
  rcases Nat.le_total e f with h | h
  · have e1 : A % B = (m % (n * 2 ^ (f - e))) * 2 ^ e := by
      have e2 : B = n * 2 ^ (f - e) * 2 ^ e := by rw [hn, Nat.mul_assoc, ← Nat.pow_add]; congr 2; omega
      rw [e2, hm, Nat.mul_mod_mul_right]
    rw [e1]
    refine rp_of (Nat.lt_of_le_of_lt (Nat.mod_le _ _) hm1) (by rw [← e1]; omega)
  · have e1 : A % B = (m * 2 ^ (e - f) % n) * 2 ^ f := by
      have e2 : A = m * 2 ^ (e - f) * 2 ^ f := by rw [hm, Nat.mul_assoc, ← Nat.pow_add]; congr 2; omega
      rw [e2, hn, Nat.mul_mod_mul_right]
    have hn0 : 0 < n := Nat.pos_of_ne_zero fun hc => by rw [hc, Nat.zero_mul] at hn; omega
    rw [e1]
    refine rp_of (Nat.lt_trans (Nat.mod_lt _ hn0) hn1) (by rw [← e1]; omega)
/-- Doubling a float. -/
theorem mul_two {x z : Nat} (hx : x < fIN) (hz : z < fIN) (h : magV z = 2 * magV x) : double.mul x 4611686018427387904 = some z := by
  by_cases h0 : x = 0
  · subst h0
    have : z = 0 := mag_inj (by rw [h, mag_zero])
    subst this
    rfl
  · exact mul_exact (m2 := 4503599627370496) (a := 0) (b := 51) hx (by omega) read_two (by omega) hz (by omega) (by rw [h, show (2 : Nat) ^ 51 = 2251799813685248 by rfl]; omega)
theorem read_pos2 {b : Nat} (h : b < fIN) : ∃ m e : Nat, double.read b = .number false m ((e : Int) - 1074) ∧ m * 2 ^ e = magV b ∧ m < 9007199254740992 := by
  obtain ⟨p1, p2, p3, p4⟩ := pos_facts h
  have e : double.read b = (if b % fSG < 4503599627370496 then Datum.number (negB b) (b % fSG) (-1074) else if b % fSG < fIN then Datum.number (negB b) (4503599627370496 + b % fSG % 4503599627370496) (-1074 + ((b % fSG / 4503599627370496 - 1 : Nat) : Int)) else if b % fSG = fIN then Datum.infinity (negB b) else Datum.nan (negB b) (b % fSG - fIN)) := rfl
  rw [e, p1, p2]
  by_cases h1 : b < 4503599627370496
  · rw [if_pos h1]
    refine ⟨b, 0, rfl, ?_, by omega⟩
    rw [mag_low (by omega)]; simp
  · rw [if_neg h1, if_pos h]
    refine ⟨4503599627370496 + b % 4503599627370496, b / 4503599627370496 - 1, ?_, ?_, by omega⟩
    · rw [Datum.number.injEq]
      exact ⟨rfl, rfl, by omega⟩
    · unfold magV; rw [if_neg h1]
/-- Halving a float. -/
theorem div_two {x z : Nat} (hx : x < fIN) (hz : z < fIN) (h : magV x = 2 * magV z) : double.div x 4611686018427387904 = some z := by
  by_cases h0 : x = 0
  · subst h0
    have : z = 0 := mag_inj (by rw [mag_zero] at *; omega)
    subst this
    rfl
  · obtain ⟨m, e, h1, h2, hm53⟩ := read_pos2 hx
    have hm0 : 0 < m := by
      refine Nat.pos_of_ne_zero fun hc => ?_
      rw [hc, Nat.zero_mul] at h2
      have : x = 0 := mag_inj (by rw [← h2]; rfl)
      omega
    have hml : m.log2 < 53 := pow_le_inv (Nat.lt_of_le_of_lt (Nat.log2_self_le (by omega)) hm53)
    unfold Format.div
    rw [h1, read_two]
    show some (double.nearest (false ^^ false) (2 * ((m <<< (double.fractionBits + 2 + (4503599627370496 : Nat).log2 - m.log2)) / 4503599627370496) + ((m <<< (double.fractionBits + 2 + (4503599627370496 : Nat).log2 - m.log2)) % 4503599627370496 != 0).toNat) (((e : Int) - 1074) - (-51) - ((double.fractionBits + 2 + (4503599627370496 : Nat).log2 - m.log2 : Nat) : Int) - 1)) = some z
    rw [fb_d, show (4503599627370496 : Nat).log2 = 52 by decide +kernel]
    obtain ⟨c, hc⟩ : ∃ c, 52 + 2 + 52 - m.log2 = 52 + c := ⟨54 - m.log2, by omega⟩
    rw [hc, Nat.shiftLeft_eq, Nat.pow_add, show (2 : Nat) ^ 52 = 4503599627370496 by rfl, Nat.mul_left_comm, Nat.mul_mod_right, Nat.mul_div_cancel_left _ (by omega)]
    refine congrArg some ?_
    have hp : (((e : Int) - 1074) - (-51) - ((52 + c : Nat) : Int) - 1) = ((e : Nat) : Int) - ((c + 2 : Nat) : Int) - 1074 := by push_cast; omega
    rw [near_exact (false ^^ false) _ e (c + 2) z _ hp (by simp; exact Nat.mul_pos hm0 (Nat.two_pow_pos _)) ?_ hz]
    · rfl
    · simp only [bne_self_eq_false, Bool.toNat_false, Nat.add_zero]
      have e3 : 2 * (m * 2 ^ c) * 2 ^ e = (m * 2 ^ e) * 2 ^ (c + 1) := by rw [Nat.pow_succ]; simp only [Nat.mul_assoc, Nat.mul_comm, Nat.mul_left_comm]
      rw [e3, h2, h, show c + 2 = (c + 1) + 1 by omega, Nat.pow_succ 2 (c + 1)]
      simp only [Nat.mul_assoc, Nat.mul_comm, Nat.mul_left_comm]
end Go.Proofs.YtdkbhliafilghaaGreatDoor
