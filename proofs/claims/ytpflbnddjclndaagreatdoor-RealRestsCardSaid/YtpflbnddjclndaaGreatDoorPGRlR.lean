/- Rounding: a number not above a float is rounded to one not above it; a whole number to a whole one. Where the rest of two floats lies; that the quotient is whole: plainly. -/
import Derived.Test.YtpflbnddjclndaaGreatDoorPGRlU
import Derived.Test.YtpflbnddjclndaaGreatDoorPGRlA
import Derived.Test.YtpflbnddjclndaaGreatDoorPGRlQ
namespace Go.Proofs.YtpflbnddjclndaaGreatDoor
section
open Go Ieee
set_option linter.unusedVariables false
set_option linter.unusedSimpArgs false
/-- Rounding to the nearest: down, or up where something is left. -/
theorem cut_even (s : Bool) (n d : Nat) (h : d ≤ n.log2 + 2) : Toward.even.cut s n d = n / 2 ^ d ∨ (Toward.even.cut s n d = n / 2 ^ d + 1 ∧ n % 2 ^ d ≠ 0) := by
  unfold Toward.cut
  rw [Nat.min_eq_left h, Nat.shiftLeft_eq, Nat.one_mul]
  simp only
  have hg : 0 < 2 ^ d := Nat.two_pow_pos d
  generalize 2 ^ d = g at hg
  cases hc : (decide (g < 2 * (n % g)) || (g == 2 * (n % g) && n / g % 2 == 1))
  · left; simp
  · right
    refine ⟨by simp, fun h0 => ?_⟩
    rw [h0] at hc
    simp at hc
    omega
theorem cut_far (s : Bool) (n d : Nat) (h : n.log2 + 2 < d) : Toward.even.cut s n d = 0 := by
  unfold Toward.cut
  rw [Nat.min_eq_right (by omega), Nat.shiftLeft_eq, Nat.one_mul]
  simp only
  have h1 : n < 2 ^ (n.log2 + 1) := Nat.lt_log2_self
  have e1 : (2 : Nat) ^ (n.log2 + 2) = 2 ^ (n.log2 + 1) * 2 := by rw [← Nat.pow_succ]
  rw [e1]
  generalize 2 ^ (n.log2 + 1) = g at h1
  rw [Nat.div_eq_of_lt (by omega), Nat.mod_eq_of_lt (by omega)]
  have c1 : decide (g * 2 < 2 * n) = false := by simp; omega
  have c2 : (g * 2 == 2 * n) = false := by simp; omega
  rw [c1, c2]; rfl
theorem cut_any (s : Bool) (n d : Nat) : Toward.even.cut s n d = n / 2 ^ d ∨ (Toward.even.cut s n d = n / 2 ^ d + 1 ∧ n % 2 ^ d ≠ 0) := by
  by_cases h : d ≤ n.log2 + 2
  · exact cut_even s n d h
  · left
    rw [cut_far s n d (by omega)]
    have h1 : n < 2 ^ (n.log2 + 1) := Nat.lt_log2_self
    have h2 : (2 : Nat) ^ (n.log2 + 1) ≤ 2 ^ d := Nat.pow_le_pow_right (by decide) (by omega)
    rw [Nat.div_eq_of_lt (by omega)]
/-- What a rounded number is: a step k and a row of digits q below it or the next one. -/
theorem near_form (s : Bool) (g e : Nat) (p : Int) (hp : p = (e : Int) - 1074) (h0 : 0 < g) :
    ∃ k q c : Nat, double.nearest s g p = double.word s (min (k * 4503599627370496 + c) fIN) ∧ (c = q ∨ (c = q + 1 ∧ q * 2 ^ k ≠ g * 2 ^ e)) ∧ q * 2 ^ k ≤ g * 2 ^ e ∧ q < 9007199254740992 ∧ (0 < k → 4503599627370496 ≤ q) ∧ g * 2 ^ e < (q + 1) * 2 ^ k := by
  have hlo : 2 ^ g.log2 ≤ g := Nat.log2_self_le (by omega)
  have hhi : g < 2 ^ (g.log2 + 1) := Nat.lt_log2_self
  unfold Format.nearest
  rw [if_neg (by omega), fb_d, lp_d, bi_d, in_d]
  obtain ⟨l, hl⟩ : ∃ l, g.log2 = l := ⟨_, rfl⟩
  rw [hl] at hlo hhi ⊢
  by_cases hc : 52 ≤ e + l
  · have em : max (p + (l : Int) - ((52 : Nat) : Int)) (-1074) = ((e + l - 52 : Nat) : Int) - 1074 := by omega
    simp only [em]
    have hk : ((((e + l - 52 : Nat) : Int) - 1074) - -1074).toNat = e + l - 52 := by omega
    rw [hk]
    by_cases h52 : l ≤ 52
    · have d0 : ((((e + l - 52 : Nat) : Int) - 1074) - p).toNat = 0 := by omega
      have d1 : (p - (((e + l - 52 : Nat) : Int) - 1074)).toNat = 52 - l := by omega
      rw [d0, d1, cut_exact s _ 0 (by rw [Nat.shiftLeft_eq]; exact Nat.mul_pos h0 (Nat.two_pow_pos _)) ⟨_, (Nat.one_mul _).symm⟩, Nat.pow_zero, Nat.div_one, Nat.shiftLeft_eq]
      have e1 : 2 ^ l * 2 ^ (52 - l) = 4503599627370496 := by rw [← Nat.pow_add, show l + (52 - l) = 52 by omega]
      have e2 : 2 ^ (l + 1) * 2 ^ (52 - l) = 9007199254740992 := by rw [← Nat.pow_add, show l + 1 + (52 - l) = 53 by omega]
      have g1 : 2 ^ l * 2 ^ (52 - l) ≤ g * 2 ^ (52 - l) := Nat.mul_le_mul_right _ hlo
      have g2 : g * 2 ^ (52 - l) < 2 ^ (l + 1) * 2 ^ (52 - l) := Nat.mul_lt_mul_of_pos_right hhi (Nat.two_pow_pos _)
      have e3 : g * 2 ^ (52 - l) * 2 ^ (e + l - 52) = g * 2 ^ e := by rw [Nat.mul_assoc, ← Nat.pow_add]; congr 2; omega
      refine ⟨e + l - 52, g * 2 ^ (52 - l), _, rfl, .inl rfl, by rw [e3]; exact Nat.le_refl _, by omega, fun _ => by omega, ?_⟩
      rw [Nat.add_mul, e3, Nat.one_mul]
      have := Nat.two_pow_pos (e + l - 52)
      omega
    · have d0 : ((((e + l - 52 : Nat) : Int) - 1074) - p).toNat = l - 52 := by omega
      have d1 : (p - (((e + l - 52 : Nat) : Int) - 1074)).toNat = 0 := by omega
      rw [d0, d1, Nat.shiftLeft_zero]
      have hpw : 0 < 2 ^ (l - 52) := Nat.two_pow_pos _
      have e1 : 2 ^ l = 4503599627370496 * 2 ^ (l - 52) := by rw [show (4503599627370496 : Nat) = 2 ^ 52 by rfl, ← Nat.pow_add, show 52 + (l - 52) = l by omega]
      have e2 : 2 ^ (l + 1) = 9007199254740992 * 2 ^ (l - 52) := by rw [show (9007199254740992 : Nat) = 2 ^ 53 by rfl, ← Nat.pow_add, show 53 + (l - 52) = l + 1 by omega]
      have g1 : 4503599627370496 ≤ g / 2 ^ (l - 52) := by rw [Nat.le_div_iff_mul_le hpw]; omega
      have g2 : g / 2 ^ (l - 52) < 9007199254740992 := by rw [Nat.div_lt_iff_lt_mul hpw]; omega
      have e3 : (2 : Nat) ^ (e + l - 52) = 2 ^ (l - 52) * 2 ^ e := by rw [← Nat.pow_add]; congr 1; omega
      have hdm := Nat.div_add_mod g (2 ^ (l - 52))
      have hml := Nat.mod_lt g hpw
      have a1 : g / 2 ^ (l - 52) * 2 ^ (e + l - 52) ≤ g * 2 ^ e := by
        rw [e3, ← Nat.mul_assoc]
        refine Nat.mul_le_mul_right _ ?_
        rw [Nat.mul_comm]; omega
      have a2 : g * 2 ^ e < (g / 2 ^ (l - 52) + 1) * 2 ^ (e + l - 52) := by
        rw [e3, ← Nat.mul_assoc]
        refine Nat.mul_lt_mul_of_pos_right ?_ (Nat.two_pow_pos _)
        rw [Nat.add_mul, Nat.mul_comm, Nat.one_mul]; omega
      refine ⟨e + l - 52, g / 2 ^ (l - 52), _, rfl, ?_, a1, g2, fun _ => g1, a2⟩
      rcases cut_any s g (l - 52) with h | ⟨h, h2⟩
      · exact .inl h
      · refine .inr ⟨h, fun hh => h2 ?_⟩
        rw [e3, ← Nat.mul_assoc] at hh
        have := Nat.eq_of_mul_eq_mul_right (Nat.two_pow_pos e) hh
        rw [Nat.mul_comm] at this
        omega
  · have em : max (p + (l : Int) - ((52 : Nat) : Int)) (-1074) = -1074 := by omega
    simp only [em]
    have d0 : ((-1074 : Int) - p).toNat = 0 := by omega
    have d1 : (p - (-1074 : Int)).toNat = e := by omega
    have d2 : ((-1074 : Int) - -1074).toNat = 0 := by omega
    rw [d0, d1, d2, cut_exact s _ 0 (by rw [Nat.shiftLeft_eq]; exact Nat.mul_pos h0 (Nat.two_pow_pos _)) ⟨_, (Nat.one_mul _).symm⟩, Nat.pow_zero, Nat.div_one, Nat.shiftLeft_eq]
    have g2 : g * 2 ^ e < 2 ^ (l + 1) * 2 ^ e := Nat.mul_lt_mul_of_pos_right hhi (Nat.two_pow_pos _)
    rw [← Nat.pow_add] at g2
    have h4 : (2 : Nat) ^ (l + 1 + e) ≤ 2 ^ 52 := Nat.pow_le_pow_right (by decide) (by omega)
    rw [show (2 : Nat) ^ 52 = 4503599627370496 by rfl] at h4
    refine ⟨0, g * 2 ^ e, _, rfl, .inl rfl, by simp, by omega, fun h => absurd h (by omega), by simp⟩
theorem mag_kq {k q : Nat} (hq : q < 9007199254740992) (hk : 0 < k → 4503599627370496 ≤ q) : magV (k * 4503599627370496 + q) = q * 2 ^ k := by
  by_cases h : k = 0
  · subst h; rw [Nat.zero_mul, Nat.zero_add, mag_low hq]; simp
  · exact word_mag k q (hk (by omega)) hq
/-- Not above a float: rounded to none above it. -/
theorem near_le (s : Bool) (g e y : Nat) (p : Int) (hp : p = (e : Int) - 1074) (h0 : 0 < g) (h : g * 2 ^ e ≤ magV y) (hy : y < fIN) : ∃ r, double.nearest s g p = double.word s r ∧ r ≤ y := by
  obtain ⟨k, q, c, h1, h2, h3, h4, h5, h6⟩ := near_form s g e p hp h0
  refine ⟨_, h1, Nat.le_trans (Nat.min_le_left _ _) ?_⟩
  have hm := mag_kq h4 h5
  rcases h2 with rfl | ⟨rfl, hne⟩
  · refine Nat.le_of_not_lt fun hc => ?_
    have := mag_lt hc
    omega
  · have : k * 4503599627370496 + q < y := by
      refine Nat.lt_of_not_le fun hc => ?_
      have := mag_le hc
      omega
    omega
/-- A whole number: rounded to a whole one. -/
theorem near_int (s : Bool) (g e G : Nat) (p : Int) (hp : p = (e : Int) - 1074) (h0 : 0 < g) (h : g * 2 ^ e = G * 2 ^ eK) : ∃ r, double.nearest s g p = double.word s r ∧ r ≤ fIN ∧ (r = fIN ∨ 2 ^ eK ∣ magV r) := by
  obtain ⟨k, q, c, h1, h2, h3, h4, h5, h6⟩ := near_form s g e p hp h0
  refine ⟨_, h1, Nat.min_le_right _ _, ?_⟩
  by_cases hI : fIN ≤ k * 4503599627370496 + c
  · left; exact Nat.min_eq_right hI
  · right
    rw [Nat.min_eq_left (by omega)]
    by_cases hk : eK ≤ k
    · have hq1 := h5 (by have := eK_eq; omega)
      have hd : 2 ^ eK ∣ 2 ^ k := Nat.pow_dvd_pow 2 hk
      by_cases hc : c < 9007199254740992
      · rw [mag_kq hc (fun _ => by rcases h2 with rfl | ⟨rfl, _⟩ <;> omega)]
        exact Nat.dvd_trans hd (Nat.dvd_mul_left _ _)
      · have hc2 : c = 9007199254740992 := by rcases h2 with rfl | ⟨rfl, _⟩ <;> omega
        rw [hc2, show k * 4503599627370496 + 9007199254740992 = (k + 1) * 4503599627370496 + 4503599627370496 by omega, word_mag (k + 1) 4503599627370496 (by omega) (by omega), Nat.pow_succ]
        exact Nat.dvd_trans hd ⟨4503599627370496 * 2, by rw [Nat.mul_comm, Nat.mul_assoc, Nat.mul_comm 2]⟩
    · -- below the step of the whole numbers: nothing is lost
      have hG : 2 ^ k ∣ g * 2 ^ e := by
        rw [h]
        exact Nat.dvd_trans (Nat.pow_dvd_pow 2 (by omega)) (Nat.dvd_mul_left _ _)
      obtain ⟨z, hz⟩ := hG
      have hzq : z = q := by
        rw [hz, Nat.mul_comm (2 ^ k) z] at h3 h6
        have a1 := Nat.le_of_mul_le_mul_right h3 (Nat.two_pow_pos k)
        have a2 := Nat.lt_of_mul_lt_mul_right h6
        omega
      have hne : q * 2 ^ k = g * 2 ^ e := by rw [hz, hzq, Nat.mul_comm]
      rcases h2 with rfl | ⟨_, hx⟩
      · rw [mag_kq h4 h5, hne, h]
        exact Nat.dvd_mul_left _ _
      · exact absurd hne hx
end
section
open Go Ieee
set_option linter.unusedVariables false
set_option linter.unusedSimpArgs false
theorem read_fin {x : Nat} (hn : nanB x = false) (hi : infB x = false) : x % fSG < fIN ∧ ∃ m e : Nat, double.read x = .number (negB x) m ((e : Int) - 1074) ∧ m * 2 ^ e = magV (x % fSG) := by
  rcases read_d x with ⟨h, _⟩ | ⟨_, h, _⟩ | ⟨_, h, m, e, h2, h3⟩
  · rw [hn] at h; cases h
  · exfalso
    unfold infB at hi
    rw [decide_eq_false_iff_not] at hi
    exact hi h
  · exact ⟨h, m, e, h2, h3⟩
theorem rr_lt {a b rr : Nat} (h : RS a b rr) (hnb : nanB b = false) (hzb : zeroB b = false) : rr < b % fSG := by
  obtain ⟨h1, h2, h3⟩ := h
  cases hi : infB b
  · have h4 := h3 hi
    unfold zeroB at hzb
    rw [decide_eq_false_iff_not] at hzb
    have hp := mag_pos (y := b % fSG) (by omega)
    have h5 := Nat.mod_lt (magV (a % fSG)) hp
    rw [← h4] at h5
    refine Nat.lt_of_not_le fun hc => ?_
    have := mag_le hc
    omega
  · unfold infB at hi
    rw [decide_eq_true_eq] at hi
    omega
theorem signed_two (A B c : Nat) (m n e f : Nat) (hc1 : c ≤ e) (hc2 : c ≤ f) (hA : m * 2 ^ (e - c) = A) (hB : n * 2 ^ (f - c) = B) (s t : Bool) :
    signed s m (((e : Int) - 1074) - ((c : Int) - 1074)).toNat + signed t n (((f : Int) - 1074) - ((c : Int) - 1074)).toNat = (if s = true then -(A : Int) else (A : Int)) + (if t = true then -(B : Int) else (B : Int)) := by
  rw [show (((e : Int) - 1074) - ((c : Int) - 1074)).toNat = e - c by omega, show (((f : Int) - 1074) - ((c : Int) - 1074)).toNat = f - c by omega]
  unfold signed
  rw [Nat.shiftLeft_eq, Nat.shiftLeft_eq, hA, hB]
theorem sum_fin (s t : Bool) (m n e f : Nat) : ∃ c A B : Nat, A * 2 ^ c = m * 2 ^ e ∧ B * 2 ^ c = n * 2 ^ f ∧
    (Datum.number s m ((e : Int) - 1074)).sum (Datum.number t n ((f : Int) - 1074)) =
      some (Datum.number (if (if s = true then -(A : Int) else (A : Int)) + (if t = true then -(B : Int) else (B : Int)) = 0 then s && t else decide ((if s = true then -(A : Int) else (A : Int)) + (if t = true then -(B : Int) else (B : Int)) < 0))
        ((if s = true then -(A : Int) else (A : Int)) + (if t = true then -(B : Int) else (B : Int))).natAbs ((c : Int) - 1074)) := by
  obtain ⟨c, hc, hce, hcf⟩ : ∃ c : Nat, min ((e : Int) - 1074) ((f : Int) - 1074) = (c : Int) - 1074 ∧ c ≤ e ∧ c ≤ f := ⟨min e f, by omega, Nat.min_le_left _ _, Nat.min_le_right _ _⟩
  refine ⟨c, m * 2 ^ (e - c), n * 2 ^ (f - c), ?_, ?_, ?_⟩
  · rw [Nat.mul_assoc, ← Nat.pow_add, show e - c + c = e by omega]
  · rw [Nat.mul_assoc, ← Nat.pow_add, show f - c + c = f by omega]
  · have h := signed_two _ _ c m n e f hce hcf rfl rfl s t
    show some (Datum.number (if signed s m (((e : Int) - 1074) - min ((e : Int) - 1074) ((f : Int) - 1074)).toNat + signed t n (((f : Int) - 1074) - min ((e : Int) - 1074) ((f : Int) - 1074)).toNat = 0 then s && t else decide (signed s m (((e : Int) - 1074) - min ((e : Int) - 1074) ((f : Int) - 1074)).toNat + signed t n (((f : Int) - 1074) - min ((e : Int) - 1074) ((f : Int) - 1074)).toNat < 0)) (signed s m (((e : Int) - 1074) - min ((e : Int) - 1074) ((f : Int) - 1074)).toNat + signed t n (((f : Int) - 1074) - min ((e : Int) - 1074) ((f : Int) - 1074)).toNat).natAbs (min ((e : Int) - 1074) ((f : Int) - 1074))) = _
    rw [hc, h]
/-- The rest turned to the divisor's sign. -/
theorem add_turn {a b rr m1 : Nat} (hrr : rr < fIN) (h0 : rr ≠ 0) (hlt : rr < b % fSG) (hb : b < 18446744073709551616) (hnb : nanB b = false) (hs : negB a ≠ negB b) (h : double.add (double.word (negB a) rr) b = some m1) : negB m1 = negB b ∧ m1 % fSG ≤ b % fSG := by
  obtain ⟨w1, w2, w3, w4⟩ := word_d (negB a) rr hrr
  have w5 : infB (double.word (negB a) rr) = false := by unfold infB; rw [w1, decide_eq_false_iff_not]; omega
  obtain ⟨_, m, e, r1, r2⟩ := read_fin w4 w5
  rw [w1] at r2
  rw [w2] at r1
  unfold Format.add at h
  rw [r1] at h
  rcases read_nn hnb with ⟨k1, k2⟩ | ⟨k1, _⟩
  · rw [k2] at h
    have h' : some (double.word (negB b) double.infRung) = some m1 := h
    injection h' with h'
    rw [in_d] at h'
    obtain ⟨v1, v2, _, _⟩ := word_le (negB b) fIN (Nat.le_refl _)
    rw [← h']
    refine ⟨v2, ?_⟩
    rw [v1]
    unfold infB at k1
    rw [decide_eq_true_eq] at k1
    omega
  · obtain ⟨bI, n, f, k2, k3⟩ := read_fin hnb k1
    rw [k2] at h
    obtain ⟨c, A, B, e1, e2, e3⟩ := sum_fin (negB a) (negB b) m n e f
    rw [e3] at h
    rw [r2] at e1
    rw [k3] at e2
    have hlt2 := mag_lt hlt
    have hAB : A < B := by
      refine Nat.lt_of_not_le fun hc => ?_
      have := Nat.mul_le_mul_right (2 ^ c) hc
      omega
    have ht : double.nearest (negB b) (B - A) ((c : Int) - 1074) = m1 := by
      have h' : double.nearest (if (if negB a = true then -(A : Int) else (A : Int)) + (if negB b = true then -(B : Int) else (B : Int)) = 0 then negB a && negB b else decide ((if negB a = true then -(A : Int) else (A : Int)) + (if negB b = true then -(B : Int) else (B : Int)) < 0)) ((if negB a = true then -(A : Int) else (A : Int)) + (if negB b = true then -(B : Int) else (B : Int))).natAbs ((c : Int) - 1074) = m1 := by
        have h'' : some _ = some m1 := h
        injection h''
      rw [← h']
      cases ha2 : negB a <;> cases hb2 : negB b
      · rw [ha2, hb2] at hs; exact absurd rfl hs
      · have t1 : ¬ ((A : Int) + -(B : Int) = 0) := by omega
        have t2 : (A : Int) + -(B : Int) < 0 := by omega
        have t3 : ((A : Int) + -(B : Int)).natAbs = B - A := by omega
        simp only [Bool.false_eq_true, if_false, if_true, t1, t2, t3, decide_true]
      · have t1 : ¬ (-(A : Int) + (B : Int) = 0) := by omega
        have t2 : ¬ (-(A : Int) + (B : Int) < 0) := by omega
        have t3 : (-(A : Int) + (B : Int)).natAbs = B - A := by omega
        simp only [Bool.false_eq_true, if_false, if_true, t1, t2, t3, decide_false]
      · rw [ha2, hb2] at hs; exact absurd rfl hs
    obtain ⟨r, n1, n2⟩ := near_le (negB b) (B - A) c (b % fSG) _ rfl (by omega) (by rw [Nat.sub_mul]; omega) bI
    rw [ht] at n1
    obtain ⟨v1, v2, _, _⟩ := word_le (negB b) r (by omega)
    rw [n1]
    exact ⟨v2, by rw [v1]; exact n2⟩
/-- A whole float, or an infinity. -/
def WH (x : Nat) : Prop := infB x = true ∨ 2 ^ eK ∣ magV (x % fSG)
theorem wh_lost {x : Nat} (h : WH x) (hi : infB x = false) : lostB x = false := by
  rcases h with h | h
  · rw [hi] at h; cases h
  · unfold lostB trV
    rw [decide_eq_false_iff_not, Nat.div_mul_cancel h]
    exact fun hh => hh rfl
theorem wh_word {s : Bool} {r : Nat} (h : r ≤ fIN) (hd : r = fIN ∨ 2 ^ eK ∣ magV r) : WH (double.word s r) := by
  obtain ⟨v1, _, _, _⟩ := word_le s r h
  rcases hd with hd | hd
  · left; unfold infB; rw [v1, hd]; simp
  · right; rw [v1]; exact hd
theorem wh_zero (s : Bool) : WH (double.word s 0) := wh_word (by decide) (.inr (by rw [mag_zero]; exact Nat.dvd_zero _))
theorem near_wh (s : Bool) (g e G : Nat) (p : Int) (hp : p = (e : Int) - 1074) (h : g * 2 ^ e = G * 2 ^ eK) : WH (double.nearest s g p) := by
  by_cases h0 : g = 0
  · subst h0
    have : double.nearest s 0 p = double.word s 0 := by unfold Format.nearest; rw [if_pos rfl]
    rw [this]
    exact wh_zero s
  · obtain ⟨r, h1, h2, h3⟩ := near_int s g e G p hp (by omega) h
    rw [h1]
    exact wh_word h2 h3
theorem fl_wh {x : Nat} (hn : nanB x = false) : WH (flB x) := by
  unfold flB
  rcases read_nn hn with ⟨_, h⟩ | ⟨_, m, p, h, _⟩
  · rw [h]
    show WH (double.word (negB x) double.infRung)
    rw [in_d]
    exact wh_word (Nat.le_refl _) (.inl rfl)
  · rw [h]
    have hK := eK_eq
    exact near_wh (negB x) _ eK _ 0 (by omega) rfl
theorem add_wh {x y z : Nat} (hx : nanB x = false) (hy : nanB y = false) (wx : WH x) (wy : WH y) (h : double.add x y = some z) : WH z := by
  unfold Format.add at h
  rcases read_nn hx with ⟨k1, k2⟩ | ⟨k1, _⟩
  · rcases read_nn hy with ⟨j1, j2⟩ | ⟨j1, n, q, j2, _⟩
    · rw [k2, j2] at h
      by_cases hs : negB x = negB y
      · have h' : some (double.word (negB x) double.infRung) = some z := by
          rw [← h]; unfold Datum.sum; simp only [if_pos hs]; rfl
        injection h' with h'
        rw [← h', in_d]
        exact wh_word (Nat.le_refl _) (.inl rfl)
      · have h' : none = some z := by rw [← h]; unfold Datum.sum; simp only [if_neg hs]; rfl
        cases h'
    · rw [k2, j2] at h
      have h' : some (double.word (negB x) double.infRung) = some z := h
      injection h' with h'
      rw [← h', in_d]
      exact wh_word (Nat.le_refl _) (.inl rfl)
  · obtain ⟨_, m, e, k2, k3⟩ := read_fin hx k1
    rcases read_nn hy with ⟨j1, j2⟩ | ⟨j1, _⟩
    · rw [k2, j2] at h
      have h' : some (double.word (negB y) double.infRung) = some z := h
      injection h' with h'
      rw [← h', in_d]
      exact wh_word (Nat.le_refl _) (.inl rfl)
    · obtain ⟨_, n, f, j2, j3⟩ := read_fin hy j1
      have dx : 2 ^ eK ∣ magV (x % fSG) := by rcases wx with w | w; { rw [k1] at w; cases w }; { exact w }
      have dy : 2 ^ eK ∣ magV (y % fSG) := by rcases wy with w | w; { rw [j1] at w; cases w }; { exact w }
      obtain ⟨c, A, B, e1, e2, e3⟩ := sum_fin (negB x) (negB y) m n e f
      rw [k2, j2, e3] at h
      rw [k3] at e1
      rw [j3] at e2
      obtain ⟨sg, h'⟩ : ∃ sg, double.nearest sg ((if negB x = true then -(A : Int) else (A : Int)) + (if negB y = true then -(B : Int) else (B : Int))).natAbs ((c : Int) - 1074) = z := by
        have h'' : some (double.nearest _ _ _) = some z := h
        injection h'' with h3
        exact ⟨_, h3⟩
      rw [← h']
      have hd : ∃ G, ((if negB x = true then -(A : Int) else (A : Int)) + (if negB y = true then -(B : Int) else (B : Int))).natAbs * 2 ^ c = G * 2 ^ eK := by
        obtain ⟨X, hX⟩ := dx
        obtain ⟨Y, hY⟩ := dy
        rw [hX] at e1
        rw [hY] at e2
        have p1 : (A : Int) * ((2 ^ c : Nat) : Int) = ((2 ^ eK : Nat) : Int) * (X : Int) := by exact_mod_cast e1
        have p2 : (B : Int) * ((2 ^ c : Nat) : Int) = ((2 ^ eK : Nat) : Int) * (Y : Int) := by exact_mod_cast e2
        refine ⟨((if negB x = true then -(X : Int) else (X : Int)) + (if negB y = true then -(Y : Int) else (Y : Int))).natAbs, ?_⟩
        have q1 : ∀ z : Int, z.natAbs * 2 ^ c = (z * ((2 ^ c : Nat) : Int)).natAbs := fun z => by rw [Int.natAbs_mul, Int.natAbs_natCast]
        have q2 : ∀ z : Int, z.natAbs * 2 ^ eK = (z * ((2 ^ eK : Nat) : Int)).natAbs := fun z => by rw [Int.natAbs_mul, Int.natAbs_natCast]
        rw [q1, q2]
        congr 1
        generalize ((2 ^ c : Nat) : Int) = C at *
        generalize ((2 ^ eK : Nat) : Int) = D at *
        cases negB x <;> cases negB y <;> simp only [Bool.false_eq_true, if_false, if_true, Int.add_mul, Int.neg_mul, p1, p2] <;> simp only [Int.mul_comm D]
      obtain ⟨G, hG⟩ := hd
      exact near_wh _ _ c G _ rfl hG
theorem one_wh : WH oneF := by
  right
  have h1 : magV (oneF % fSG) = 1 * 2 ^ eK := by
    have hK := eK_eq
    have : oneF % fSG = (eK - 52) * 4503599627370496 + 4503599627370496 := by rw [hK]; rfl
    rw [this, word_mag _ _ (by omega) (by omega), show (4503599627370496 : Nat) = 2 ^ 52 by rfl, ← Nat.pow_add, Nat.one_mul]
    congr 1; omega
  rw [h1]
  exact Nat.dvd_mul_left _ _
/-- Where the rest lies, and that the quotient is whole. -/
theorem dv_where {a b rr s d0 m1 d1 f : Nat} (hr : RS a b rr) (hb : b < 18446744073709551616) (hnb : nanB b = false) (hzb : zeroB b = false) (H : DV a b rr s d0 m1 d1 f) : negB m1 = negB b ∧ m1 % fSG ≤ b % fSG ∧ WH f := by
  have hlt := rr_lt hr hnb hzb
  have hm : negB m1 = negB b ∧ m1 % fSG ≤ b % fSG := by
    by_cases h0 : rr = 0
    · obtain ⟨h1, _⟩ := H.c0 h0
      obtain ⟨v1, v2, _, _⟩ := word_le (negB b) 0 (by decide)
      rw [h1]
      exact ⟨v2, by rw [v1]; omega⟩
    · by_cases hs : negB a = negB b
      · obtain ⟨h1, _⟩ := H.c1 h0 hs
        obtain ⟨v1, v2, _, _⟩ := word_d (negB a) rr hr.1
        rw [h1]
        exact ⟨by rw [v2, hs], by rw [v1]; omega⟩
      · exact add_turn hr.1 h0 hlt hb hnb hs (H.c2 h0 hs).1
  refine ⟨hm.1, hm.2, ?_⟩
  cases hz : zeroB d1 with
  | true => rw [H.f0 hz]; exact wh_zero _
  | false =>
    cases hi : infB d1 with
    | true => rw [H.f1 hi]; exact .inl hi
    | false =>
      obtain ⟨q, _, _, h1, h2⟩ := H.f2 hz hi
      cases hg : (double.order q halfF == some .gt) with
      | true => exact add_wh (fl_nn H.nd1.1).1 one_nn.1 (fl_wh H.nd1.1) one_wh (h1 hg)
      | false => rw [h2 hg]; exact fl_wh H.nd1.1
end
end Go.Proofs.YtpflbnddjclndaaGreatDoor
