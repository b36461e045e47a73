/- parseFloat64 of a whole number with the power 0: the nearest float. -/
import Derived.Test.YtlhfemgimieooaaGreatDoorPGPiC
import Derived.Test.YtlhfemgimieooaaGreatDoorPGWh
import Derived.Test.YtlhfemgimieooaaGreatDoorPGPiF
import Derived.Test.YtlhfemgimieooaaGreatDoorPGRlW
import Derived.Test.YtlhfemgimieooaaGreatDoorPGRlG
import Derived.Test.YtlhfemgimieooaaGreatDoorPGRlD
set_option linter.unusedVariables false
set_option linter.unusedSimpArgs false
set_option maxRecDepth 100000
set_option maxHeartbeats 2000000
namespace Go.Proofs.YtlhfemgimieooaaGreatDoor
open Go.Lib (hid)
section
open Go Go.ChangeShapes Go.WideShapes Go.RowKit Ieee
theorem or_one_eq (x : Nat) : x ||| 1 = if x % 2 = 0 then x + 1 else x := by
 have e1 : (x ||| 1) % 2 ^ 1 = 1 := by
   rw [Nat.or_mod_two_pow]
   have : x % 2 ^ 1 = 0 ∨ x % 2 ^ 1 = 1 := by omega
   rcases this with h | h <;> rw [h] <;> rfl
 have e2 : (x ||| 1) / 2 ^ 1 = x / 2 ^ 1 := by
   rw [Nat.or_div_two_pow]; simp
 split <;> omega
theorem stick (y : Nat) (h : y < 18446744073709551616) : usH y 0 0 8 = if y % 256 = 0 then y / 256 else y / 256 ||| 1 := by
 unfold usH
 by_cases h0 : y % 256 = 0
 · rw [if_pos (by omega), if_pos h0, if_neg (Nat.lt_irrefl 0), if_neg (by decide)]
   rw [Nat.or_zero, show (y + 18446744073709551616 - 0) % 18446744073709551616 = y by omega]
 · rw [if_neg (by omega), if_neg h0]
theorem quart (y q r : Nat) (h1 : 4611686018427387904 ≤ y) (h2 : y < 9223372036854775808) (hq : y / 1024 = q) (hr : y % 1024 = r) :
   (pfT (usH y 0 0 8) = 0 ∧ pfM (usH y 0 0 8) = q + (if 512 < r ∨ (r = 512 ∧ q % 2 = 1) then 1 else 0) ∧ pfM (usH y 0 0 8) < 9007199254740992 ∧ 4503599627370496 ≤ pfM (usH y 0 0 8)) ∨
   (pfT (usH y 0 0 8) = 1 ∧ pfM (usH y 0 0 8) = 4503599627370496 ∧ q + (if 512 < r ∨ (r = 512 ∧ q % 2 = 1) then 1 else 0) = 9007199254740992) := by
 rw [stick y (by omega)]
 obtain ⟨U, hU⟩ : ∃ U, (if y % 256 = 0 then y / 256 else y / 256 ||| 1) = U := ⟨_, rfl⟩
 rw [hU]
 have hU2 : (y % 256 = 0 ∧ U = y / 256) ∨ (y % 256 ≠ 0 ∧ y / 256 % 2 = 0 ∧ U = y / 256 + 1) ∨ (y % 256 ≠ 0 ∧ y / 256 % 2 = 1 ∧ U = y / 256) := by
   by_cases h0 : y % 256 = 0
   · rw [if_pos h0] at hU; exact .inl ⟨h0, hU.symm⟩
   · rw [if_neg h0, or_one_eq] at hU
     by_cases h3 : y / 256 % 2 = 0
     · rw [if_pos h3] at hU; exact .inr (.inl ⟨h0, h3, hU.symm⟩)
     · rw [if_neg h3] at hU; exact .inr (.inr ⟨h0, by omega, hU.symm⟩)
 have hR : (if 512 < r ∨ (r = 512 ∧ q % 2 = 1) then 1 else 0) = 0 ∧ ¬ (512 < r ∨ (r = 512 ∧ q % 2 = 1)) ∨ (if 512 < r ∨ (r = 512 ∧ q % 2 = 1) then 1 else 0) = 1 ∧ (512 < r ∨ (r = 512 ∧ q % 2 = 1)) := by
   by_cases h : 512 < r ∨ (r = 512 ∧ q % 2 = 1)
   · exact .inr ⟨if_pos h, h⟩
   · exact .inl ⟨if_neg h, h⟩
 generalize (if 512 < r ∨ (r = 512 ∧ q % 2 = 1) then 1 else 0) = R at hR ⊢
 by_cases ht : 36028797018963966 ≤ U
 · right
   have hT : pfT U = 1 := by unfold pfT; rw [if_pos ht]
   have hV : pfV U = 18014398509481983 := by
     unfold pfV
     rw [hT]
     have e : U / 2 ^ 1 = 18014398509481983 := by omega
     rw [e]
     have : U % 2 = 0 ∨ U % 2 = 1 := by omega
     rcases this with h | h <;> rw [h] <;> rfl
   refine ⟨hT, ?_, ?_⟩
   · unfold pfM; rw [hV]
   · rcases hR with ⟨e, h⟩ | ⟨e, h⟩ <;> omega
 · left
   have hT : pfT U = 0 := by unfold pfT; rw [if_neg ht]
   have hV : pfV U = U := by
     unfold pfV
     rw [hT, Nat.pow_zero, Nat.div_one]
     refine Nat.eq_of_testBit_eq (fun i => ?_)
     rw [Nat.testBit_or]
     have h2 : (U % 2).testBit i = (decide (i < 1) && U.testBit i) := by
       have := Nat.testBit_mod_two_pow U 1 i
       simpa using this
     rw [h2]
     cases U.testBit i <;> simp
   have hM : pfM U = (U + 1 + U / 4 % 2) / 4 := by unfold pfM; rw [hV]
   rw [hM]
   refine ⟨hT, ?_, by omega, by omega⟩
   rcases hR with ⟨e, h⟩ | ⟨e, h⟩ <;> omega
theorem near_big (d l k : Nat) (hl : d.log2 = l) (hk : l = k + 52) (hk7 : k ≤ 7) (h1 : 0 < d) (hd : d / 2 ^ k < 9007199254740992) :
   double.nearest false d 0 = (k + 1074) * 4503599627370496 + (d / 2 ^ k + (if 2 ^ k < 2 * (d % 2 ^ k) ∨ (2 ^ k = 2 * (d % 2 ^ k) ∧ d / 2 ^ k % 2 = 1) then 1 else 0)) := by
 have hI : fIN = 9218868437227405312 := rfl
 have hcut : Toward.even.cut false d k = d / 2 ^ k + (if 2 ^ k < 2 * (d % 2 ^ k) ∨ (2 ^ k = 2 * (d % 2 ^ k) ∧ d / 2 ^ k % 2 = 1) then 1 else 0) := by
   unfold Toward.cut
   rw [Nat.min_eq_left (by omega), Nat.shiftLeft_eq, Nat.one_mul]
   simp only
   congr 1
   by_cases hc : 2 ^ k < 2 * (d % 2 ^ k) ∨ (2 ^ k = 2 * (d % 2 ^ k) ∧ d / 2 ^ k % 2 = 1)
   · rw [if_pos hc]
     have : (decide (2 ^ k < 2 * (d % 2 ^ k)) || (2 ^ k == 2 * (d % 2 ^ k) && d / 2 ^ k % 2 == 1)) = true := by simpa using hc
     rw [this]; rfl
   · rw [if_neg hc]
     have : (decide (2 ^ k < 2 * (d % 2 ^ k)) || (2 ^ k == 2 * (d % 2 ^ k) && d / 2 ^ k % 2 == 1)) = false := by
       rw [← Bool.not_eq_true]
       intro h
       exact hc (by simpa using h)
     rw [this]; rfl
 unfold Format.nearest
 rw [if_neg (by omega), fb_d, lp_d, bi_d, in_d]
 rw [hl]
 have em : max ((0 : Int) + (l : Int) - ((52 : Nat) : Int)) (-1074) = (l : Int) - 52 := by omega
 simp only [em]
 rw [show (((l : Int) - 52) - -1074).toNat = k + 1074 by omega, show (0 - ((l : Int) - 52)).toNat = 0 by omega, show (((l : Int) - 52) - 0).toNat = k by omega, Nat.shiftLeft_zero, hcut]
 have hw : ∀ x : Nat, double.word false x = x := fun x => rfl
 rw [hw]
 generalize hR : (if 2 ^ k < 2 * (d % 2 ^ k) ∨ (2 ^ k = 2 * (d % 2 ^ k) ∧ d / 2 ^ k % 2 = 1) then 1 else 0) = R
 have hR1 : R ≤ 1 := by rw [← hR]; split <;> omega
 generalize d / 2 ^ k = Q at hd ⊢
 rw [Nat.min_eq_left]
 omega
theorem len_log {d : Nat} (h0 : d ≠ 0) (h : d < 18446744073709551616) : Lib.bitLen d = d.log2 + 1 := by
 obtain ⟨h1, h2, h3⟩ := Lib.bitLenAux_bounds 64 d h h0
 have h4 : 2 ^ d.log2 ≤ d := Nat.log2_self_le h0
 have h5 : d < 2 ^ (d.log2 + 1) := Nat.lt_log2_self
 have e : Lib.bitLenAux 64 d = Lib.bitLen d := rfl
 rw [e] at h1 h2 h3
 rcases Nat.lt_trichotomy (Lib.bitLen d) (d.log2 + 1) with h6 | h6 | h6
 · have := Nat.pow_le_pow_right (n := 2) (by decide) (show Lib.bitLen d ≤ d.log2 by omega); omega
 · exact h6
 · have := Nat.pow_le_pow_right (n := 2) (by decide) (show d.log2 + 1 ≤ Lib.bitLen d - 1 by omega); omega
theorem half_iff {P r z Q : Nat} (hPz : 1024 = P * z) (hz : 0 < z) : (512 < r * z ∨ (r * z = 512 ∧ Q % 2 = 1)) ↔ (P < 2 * r ∨ (P = 2 * r ∧ Q % 2 = 1)) := by
 have e0 : 2 * r * z = 2 * (r * z) := Nat.mul_assoc 2 r z
 have e1 : 512 < r * z ↔ P < 2 * r := by
   constructor
   · intro h
     exact Nat.lt_of_mul_lt_mul_right (a := z) (by rw [← hPz, e0]; omega)
   · intro h
     have := Nat.mul_lt_mul_of_pos_right h hz
     rw [← hPz, e0] at this; omega
 have e2 : r * z = 512 ↔ P = 2 * r := by
   constructor
   · intro h
     exact Nat.eq_of_mul_eq_mul_right hz (by rw [← hPz, e0]; omega)
   · intro h
     have : P * z = 2 * r * z := by rw [h]
     rw [← hPz, e0] at this; omega
 rw [e1, e2]
theorem pk_val (m E : Nat) (e : Int) (h1 : 4503599627370496 ≤ m) (h2 : m < 9007199254740992) (h3 : e < 972) (h4 : e + 1075 = (E : Int)) : pkF m e = E * 4503599627370496 + (m - 4503599627370496) := by
 unfold pkF
 rw [if_neg (by omega), if_neg (by omega), h4, Int.toNat_natCast]
 rw [show m % 4503599627370496 = m - 4503599627370496 by omega]
theorem pf_near (d : Nat) (h1 : 4503599627370496 ≤ d) (h2 : d < 1000000000000000000) : pfF 9223372036854775808 0 d 0 = double.nearest false d 0 := by
 have hb := len_log (d := d) (by omega) (by omega)
 have hlo : 2 ^ d.log2 ≤ d := Nat.log2_self_le (by omega)
 have hhi : d < 2 ^ (d.log2 + 1) := Nat.lt_log2_self
 have hl52 : 52 ≤ d.log2 := by
   rcases Nat.lt_or_ge d.log2 52 with h | h
   · have := Nat.pow_le_pow_right (n := 2) (by decide) (show d.log2 + 1 ≤ 52 by omega)
     have e : (2 : Nat) ^ 52 = 4503599627370496 := rfl
     omega
   · exact h
 have hl59 : d.log2 ≤ 59 := by
   rcases Nat.lt_or_ge 59 d.log2 with h | h
   · have := Nat.pow_le_pow_right (n := 2) (by decide) (show 60 ≤ d.log2 by omega)
     have e : (2 : Nat) ^ 60 = 1152921504606846976 := rfl
     omega
   · exact h
 obtain ⟨k, hk⟩ : ∃ k, d.log2 = k + 52 := ⟨d.log2 - 52, by omega⟩
 rw [hk] at hlo hhi hb
 have hpk : (2 : Nat) ^ (k + 52) = 2 ^ k * 4503599627370496 := by rw [Nat.pow_add]
 have hpk1 : (2 : Nat) ^ (k + 52 + 1) = 2 ^ k * 9007199254740992 := by rw [Nat.add_assoc, Nat.pow_add]
 rw [hpk] at hlo
 rw [hpk1] at hhi
 have hP : 0 < 2 ^ k := Nat.two_pow_pos k
 have hQ : d / 2 ^ k < 9007199254740992 := by rw [Nat.div_lt_iff_lt_mul hP, Nat.mul_comm]; exact hhi
 rw [near_big d (k + 52) k hk rfl (by omega) (by omega) hQ]
 -- the other side
 have hE : pfE (Lib.bitLen d) 0 = -(k : Int) := by unfold pfE; rw [hb]; simp; omega
 have hS : pfS (Lib.bitLen d) 0 = 8 := by unfold pfS; rw [hE, hb]; simp; omega
 have hy : d * 2 ^ (64 - Lib.bitLen d) * 9223372036854775808 = (d * 2 ^ (10 - k)) * 18446744073709551616 := by
   rw [hb, show 64 - (k + 52 + 1) = (10 - k) + 1 by omega, Nat.pow_succ]
   generalize 2 ^ (10 - k) = z
   rw [← Nat.mul_assoc d z 2]
   generalize d * z = dz
   omega
 have hU : usZ (d * 2 ^ (64 - Lib.bitLen d)) 9223372036854775808 0 8 = usH (d * 2 ^ (10 - k)) 0 0 8 := by
   unfold usZ
   rw [hy, Nat.mul_zero, Nat.mul_div_cancel _ (by decide : 0 < 18446744073709551616), Nat.mul_mod_left]
 have hF : pfF 9223372036854775808 0 d 0 = pkF (pfM (usH (d * 2 ^ (10 - k)) 0 0 8)) (-(-(k : Int) - (pfT (usH (d * 2 ^ (10 - k)) 0 0 8) : Nat))) := by
   unfold pfF
   rw [hS, hE, if_neg (by decide), show (8 : Int).toNat = 8 by rfl, hU]
 rw [hF]
 have hsp : (1024 : Nat) = 2 ^ k * 2 ^ (10 - k) := by
   rw [← Nat.pow_add, show k + (10 - k) = 10 by omega]
 have hz : 0 < 2 ^ (10 - k) := Nat.two_pow_pos _
 have hq : d * 2 ^ (10 - k) / 1024 = d / 2 ^ k := by rw [hsp, Nat.mul_div_mul_right _ _ hz]
 have hr : d * 2 ^ (10 - k) % 1024 = (d % 2 ^ k) * 2 ^ (10 - k) := by rw [hsp, Nat.mul_mod_mul_right]
 have hcond : (512 < (d % 2 ^ k) * 2 ^ (10 - k) ∨ ((d % 2 ^ k) * 2 ^ (10 - k) = 512 ∧ d / 2 ^ k % 2 = 1)) ↔ (2 ^ k < 2 * (d % 2 ^ k) ∨ (2 ^ k = 2 * (d % 2 ^ k) ∧ d / 2 ^ k % 2 = 1)) := half_iff hsp hz
 have hy1 : 4611686018427387904 ≤ d * 2 ^ (10 - k) := by
   have := Nat.mul_le_mul_right (2 ^ (10 - k)) hlo
   rw [Nat.mul_comm (2 ^ k), Nat.mul_assoc, ← hsp] at this; omega
 have hy2 : d * 2 ^ (10 - k) < 9223372036854775808 := by
   have := Nat.mul_lt_mul_of_pos_right hhi hz
   rw [Nat.mul_comm (2 ^ k), Nat.mul_assoc, ← hsp] at this; omega
 have hm := quart _ _ _ hy1 hy2 hq hr
 simp only [hcond] at hm
 generalize (if 2 ^ k < 2 * (d % 2 ^ k) ∨ (2 ^ k = 2 * (d % 2 ^ k) ∧ d / 2 ^ k % 2 = 1) then 1 else 0) = R at hm ⊢
 generalize usH (d * 2 ^ (10 - k)) 0 0 8 = U at hm ⊢
 generalize d / 2 ^ k = Q at hm ⊢
 have hk7 : k ≤ 7 := by omega
 clear hcond hy1 hy2 hq hr hsp hF hU hy hS hE hQ hP hpk hpk1 hlo hhi hb h1 h2 hz
 rcases hm with ⟨hT, hM, hM1, hM2⟩ | ⟨hT, hM, hM1⟩
 · rw [hT]
   generalize pfM U = m at hM hM1 hM2 ⊢
   rw [pk_val m (k + 1075) _ hM2 hM1 (by omega) (by omega)]
   omega
 · rw [hT, hM]
   rw [pk_val 4503599627370496 (k + 1076) _ (by omega) (by omega) (by omega) (by omega)]
   omega
end
section
open Go Go.ChangeShapes Go.WideShapes Go.RowKit Go.PlainAid
theorem txt_one (xs : List Int) : ∀ i, 1 ≤ (txt xs i).length
 | 0 => by
   rw [txt, Lib.decDigits_length]
   have := Lib.nDigits_pos (xs.getD (xs.length - 1) 0).toNat
   omega
 | i + 1 => by
   have := txt_one xs i
   rw [txt, List.length_append]; omega
theorem nml_dig {l : List UInt8} (hd : AllDig l) (h1 : 1 ≤ l.length) (h2 : l.length ≤ 1000) : Nml ⟨l.toArray⟩ l.length l.length 0 := by
 have hs := list_size l
 have hb : ∀ i, (h : i < l.length) → bt ⟨l.toArray⟩ i = ((l[i]'h).toNat : Int) := fun i h => bt_list _ (by rw [hs]; exact h)
 refine ⟨h1, Nat.le_refl _, by rw [hs]; exact Nat.le_refl _, by rw [hs]; exact h2, fun i hi => ?_, fun h => absurd h (Nat.lt_irrefl _), fun i h3 h4 => by omega, fun h => by rw [hs] at h; exact absurd h (Nat.lt_irrefl _), fun i h => by rw [hs] at h; exact absurd h (Nat.lt_irrefl _)⟩
 rw [hb i hi]
 have := hd _ (List.getElem_mem hi)
 omega
theorem nm1_dig {l : List UInt8} (hd : AllDig l) (h1 : 1 ≤ l.length) (h2 : l.length ≤ 999) : Nm1 ⟨(45 :: l).toArray⟩ (l.length + 1) (l.length + 1) 0 := by
 have hs : (⟨(45 :: l).toArray⟩ : ByteArray).size = l.length + 1 := list_size (45 :: l)
 have hb : ∀ i, (h : i < l.length + 1) → bt ⟨(45 :: l).toArray⟩ i = (((45 :: l)[i]'h).toNat : Int) := fun i h => bt_list _ (by rw [hs]; exact h)
 refine ⟨by rw [hb 0 (by omega)]; rfl, by omega, Nat.le_refl _, by rw [hs]; exact Nat.le_refl _, by rw [hs]; omega, fun i h3 h4 => ?_, fun h => absurd h (Nat.lt_irrefl _), fun i h3 h4 => by omega, fun h => by rw [hs] at h; exact absurd h (Nat.lt_irrefl _), fun i h => by rw [hs] at h; exact absurd h (Nat.lt_irrefl _)⟩
 rw [hb i h4]
 obtain ⟨k, rfl⟩ : ∃ k, i = k + 1 := ⟨i - 1, by omega⟩
 have := hd _ (List.getElem_mem (l := l) (n := k) (by omega))
 rw [List.getElem_cons_succ]
 omega
theorem mn_nn {F : Nat} (h : FMn F) : nanB F = false ∧ F < 18446744073709551616 := by
 obtain ⟨r, hr, rfl⟩ := h
 exact ⟨(mn_facts hr).2.2.1, (mn_facts hr).2.2.2⟩
theorem pf_textB {hiT loT T : Nat → Nat} (hf : TBF hiT loT T) (tv : TypeId) (yv : Value) (neg : Bool) (xs : List Int) (hd : Dig B18 xs) (hl : xs.length ≤ 30) : ∃ F, nanB F = false ∧ F < 18446744073709551616 ∧ ∀ w, PFT hiT loT T tv yv w w.heap.size →
   Calls Tryz.prog 79 #[.string (textB neg xs), .int .i64 64] w fun r w' => (∃ v, r = .returned (.tuple #[.float .f64 F, v])) ∧ Below w.heap.size w w' := by
 unfold textB
 by_cases h0 : xs.length = 0
 · rw [if_pos h0]
   obtain ⟨F, h1, h2⟩ := pfl_any hf tv yv _ _ _ _ (nml_dig (l := [48]) (fun c hc => by simp at hc; subst hc; decide) (by decide) (by decide))
   exact ⟨F, (nn_le h1).1, (nn_le h1).2.1, h2⟩
 · rw [if_neg h0]
   have hlen := txt_len hd (xs.length - 1)
   have h1 := txt_one xs (xs.length - 1)
   cases neg with
   | false =>
     obtain ⟨F, h3, h4⟩ := pfl_any hf tv yv _ _ _ _ (nml_dig (txt_dig xs (xs.length - 1)) h1 (by omega))
     exact ⟨F, (nn_le h3).1, (nn_le h3).2.1, h4⟩
   | true =>
     obtain ⟨F, h3, h4⟩ := pflm_any hf tv yv _ _ _ _ (nm1_dig (txt_dig xs (xs.length - 1)) h1 (by omega))
     exact ⟨F, (mn_nn h3).1, (mn_nn h3).2, fun w hw => h4 w hw.t hw.e hw.el⟩
end
section
open Go Go.ChangeShapes Go.WideShapes Go.RowKit Ieee
def OfE (b : Nat) (x : Int) (w : World) (e : Ending) (w' : World) : Prop := e = .returned (.tuple #[.int .u64 ((b : Nat) : Int), .int .i64 x]) ∧ Below w.heap.size w w'
theorem foi_le (n : Int) (h : 0 ≤ n) : floatOfInt .f64 n ≤ fIN := by
 have e0 : floatOfInt .f64 n = double.nearest false n.natAbs 0 := by
   show double.nearest (decide (n < 0)) n.natAbs 0 = _
   rw [decide_eq_false (by omega)]
 rw [e0]; exact near_le _ _
theorem patBl {F : Nat} (hn : nanB F = false) (h : F < 18446744073709551616) : patB F < 18446744073709551616 := by
 unfold patB; rw [hn, if_neg (by decide)]; exact h
theorem of_bad (n1 : Bool) (u1 : Value) (xs : List Int) (w : World) (hr1 : Rd w u1 xs) (hf1 : Fit xs) (hg : goodB n1 xs = false) :
   Calls Tryz.prog 63 #[.agg #[.bool n1, u1]] w (OfE 0 3 w) := by
 obtain ⟨p, c, rfl, hc, hm, hp⟩ := rd_form hr1
 have hb1 : Below w.heap.size w (w.alloc (.cells #[.bool n1, .slice p xs.length c] 24)) := (Below.refl _ _).alloc (Nat.le_refl _) _
 have HG := hid (good_any n1 _ xs (w.alloc (.cells #[.bool n1, .slice p xs.length c] 24)) (hr1.keep hb1) hf1)
 have HB1 := hid hb1
 have HX1 := hid (Box2.new w (.bool n1) (.slice p xs.length c) 24 rfl)
 obtain ⟨W1, hW1⟩ : ∃ x, w.alloc (.cells #[.bool n1, .slice p xs.length c] 24) = x := ⟨_, rfl⟩
 rw [hW1] at HB1 HG HX1
 rw [hg] at HG
 have c0 := HX1.out.c0
 have c1 := HX1.out.c1
 clear hr1 hf1 hb1 hp hg
 go_enter Tryz.func63, Tryz.ntmps63
 go_wp2_with (first
   | (go_at_call 60; (try rw [hW1]); refine HG.out.mono ?_; rintro e w2 ⟨rfl, hb⟩; have HB2 := hid (HB1.out.trans (hb.mono HB1.out.size)); clear hb HG)
   | fail)
 go_ret2
 exact ⟨rfl, HB2.out⟩
theorem of_one_p_f (u1 : Value) (xs : List Int) (F : Nat) (w : World) (hr1 : Rd w u1 xs) (hf1 : Fit xs) (hg : goodB false xs = true) (hl : xs.length = 1) (hF : floatOfInt .f64 (xs.getD 0 0) = F) (hFl : F ≤ fIN) (hi : infB F = false) :
   Calls Tryz.prog 63 #[.agg #[.bool false, u1]] w (OfE (patB F) 0 w) := by
 obtain ⟨f1, f2, f3, f4, f5⟩ := nn_le hFl
 obtain ⟨p, c, rfl, hc, hm, hp⟩ := rd_form hr1
 obtain ⟨bb, off, rfl, hcell⟩ := hp (by omega)
 have h0 := hcell 0 (by omega)
 rw [Nat.add_zero] at h0
 obtain ⟨x0, hx0⟩ : ∃ x0, xs.getD 0 0 = x0 := ⟨_, rfl⟩
 rw [hx0] at h0 hF
 rw [hl] at *
 have hb1 : Below w.heap.size w (w.alloc (.cells #[.bool false, .slice (some ⟨bb, off, none⟩) 1 c] 24)) := (Below.refl _ _).alloc (Nat.le_refl _) _
 have HG := hid (good_any false (.slice (some ⟨bb, off, none⟩) 1 c) xs (w.alloc (.cells #[.bool false, .slice (some ⟨bb, off, none⟩) 1 c] 24)) (hr1.keep hb1) hf1)
 have HB1 := hid hb1
 have HX1 := hid (Box2.new w (.bool false) (.slice (some ⟨bb, off, none⟩) 1 c) 24 rfl)
 have HK := hid h0
 obtain ⟨W1, hW1⟩ : ∃ x, w.alloc (.cells #[.bool false, .slice (some ⟨bb, off, none⟩) 1 c] 24) = x := ⟨_, rfl⟩
 rw [hW1] at HB1 HG HX1
 rw [hg] at HG
 have c0 := HX1.out.c0
 have c1 := HX1.out.c1
 have HI := hid (fun W => isInf0 F f2 f1 W)
 have HPa := hid (fun W => pattern_any F W)
 have HPL := hid (patBl f1 f2)
 rw [hi] at HI
 have HFF := hid hF
 clear hr1 hf1 hb1 hp hg hcell hl hi f1 f2 f3 f4 f5 hF h0 hFl hx0 hc hm
 go_enter Tryz.func63, Tryz.ntmps63
 go_upto_region 3 with (first
   | (go_at_call 60; (try rw [hW1]); refine HG.out.mono ?_; rintro e w2 ⟨rfl, hb⟩; have HB2 := hid (HB1.out.trans (hb.mono HB1.out.size)); have d0 := bcl hb c0; have d1 := bcl hb c1; clear hb HG)
   | fail)
 have k0 := bcl HB2.out HK.out
 have hF := HFF.out
 clear c0 c1 hW1
 go_wp2_with (first
   | (go_at_call 67; (try rw [hF]); (with_reducible refine (HI.out _).mono ?_); rintro e w9 ⟨rfl, rfl⟩)
   | (go_at_call 61; (try rw [hF]); (with_reducible refine (HPa.out _).mono ?_); rintro e w9 ⟨rfl, rfl⟩)
   | fail)
 go_ret2
 exact ⟨rfl, HB2.out⟩
theorem of_one_p_i (u1 : Value) (xs : List Int) (F : Nat) (w : World) (hr1 : Rd w u1 xs) (hf1 : Fit xs) (hg : goodB false xs = true) (hl : xs.length = 1) (hF : floatOfInt .f64 (xs.getD 0 0) = F) (hFl : F ≤ fIN) (hi : infB F = true) :
   Calls Tryz.prog 63 #[.agg #[.bool false, u1]] w (OfE 0 7 w) := by
 obtain ⟨f1, f2, f3, f4, f5⟩ := nn_le hFl
 obtain ⟨p, c, rfl, hc, hm, hp⟩ := rd_form hr1
 obtain ⟨bb, off, rfl, hcell⟩ := hp (by omega)
 have h0 := hcell 0 (by omega)
 rw [Nat.add_zero] at h0
 obtain ⟨x0, hx0⟩ : ∃ x0, xs.getD 0 0 = x0 := ⟨_, rfl⟩
 rw [hx0] at h0 hF
 rw [hl] at *
 have hb1 : Below w.heap.size w (w.alloc (.cells #[.bool false, .slice (some ⟨bb, off, none⟩) 1 c] 24)) := (Below.refl _ _).alloc (Nat.le_refl _) _
 have HG := hid (good_any false (.slice (some ⟨bb, off, none⟩) 1 c) xs (w.alloc (.cells #[.bool false, .slice (some ⟨bb, off, none⟩) 1 c] 24)) (hr1.keep hb1) hf1)
 have HB1 := hid hb1
 have HX1 := hid (Box2.new w (.bool false) (.slice (some ⟨bb, off, none⟩) 1 c) 24 rfl)
 have HK := hid h0
 obtain ⟨W1, hW1⟩ : ∃ x, w.alloc (.cells #[.bool false, .slice (some ⟨bb, off, none⟩) 1 c] 24) = x := ⟨_, rfl⟩
 rw [hW1] at HB1 HG HX1
 rw [hg] at HG
 have c0 := HX1.out.c0
 have c1 := HX1.out.c1
 have HI := hid (fun W => isInf0 F f2 f1 W)
 have HPa := hid (fun W => pattern_any F W)
 have HPL := hid (patBl f1 f2)
 rw [hi] at HI
 have HFF := hid hF
 clear hr1 hf1 hb1 hp hg hcell hl hi f1 f2 f3 f4 f5 hF h0 hFl hx0 hc hm
 go_enter Tryz.func63, Tryz.ntmps63
 go_upto_region 3 with (first
   | (go_at_call 60; (try rw [hW1]); refine HG.out.mono ?_; rintro e w2 ⟨rfl, hb⟩; have HB2 := hid (HB1.out.trans (hb.mono HB1.out.size)); have d0 := bcl hb c0; have d1 := bcl hb c1; clear hb HG)
   | fail)
 have k0 := bcl HB2.out HK.out
 have hF := HFF.out
 clear c0 c1 hW1
 go_wp2_with (first
   | (go_at_call 67; (try rw [hF]); (with_reducible refine (HI.out _).mono ?_); rintro e w9 ⟨rfl, rfl⟩)
   | (go_at_call 61; (try rw [hF]); (with_reducible refine (HPa.out _).mono ?_); rintro e w9 ⟨rfl, rfl⟩)
   | fail)
 go_ret2
 exact ⟨rfl, HB2.out⟩
theorem of_one_m_f (u1 : Value) (xs : List Int) (F : Nat) (w : World) (hr1 : Rd w u1 xs) (hf1 : Fit xs) (hg : goodB true xs = true) (hl : xs.length = 1) (hF : floatOfInt .f64 (xs.getD 0 0) = F) (hFl : F ≤ fIN) (hi : infB (F + fSG) = false) :
   Calls Tryz.prog 63 #[.agg #[.bool true, u1]] w (OfE (patB (F + fSG)) 0 w) := by
 obtain ⟨f1, f2, f3, f4, f5⟩ := nn_le hFl
 obtain ⟨p, c, rfl, hc, hm, hp⟩ := rd_form hr1
 obtain ⟨bb, off, rfl, hcell⟩ := hp (by omega)
 have h0 := hcell 0 (by omega)
 rw [Nat.add_zero] at h0
 obtain ⟨x0, hx0⟩ : ∃ x0, xs.getD 0 0 = x0 := ⟨_, rfl⟩
 rw [hx0] at h0 hF
 rw [hl] at *
 have hb1 : Below w.heap.size w (w.alloc (.cells #[.bool true, .slice (some ⟨bb, off, none⟩) 1 c] 24)) := (Below.refl _ _).alloc (Nat.le_refl _) _
 have HG := hid (good_any true (.slice (some ⟨bb, off, none⟩) 1 c) xs (w.alloc (.cells #[.bool true, .slice (some ⟨bb, off, none⟩) 1 c] 24)) (hr1.keep hb1) hf1)
 have HB1 := hid hb1
 have HX1 := hid (Box2.new w (.bool true) (.slice (some ⟨bb, off, none⟩) 1 c) 24 rfl)
 have HK := hid h0
 obtain ⟨W1, hW1⟩ : ∃ x, w.alloc (.cells #[.bool true, .slice (some ⟨bb, off, none⟩) 1 c] 24) = x := ⟨_, rfl⟩
 rw [hW1] at HB1 HG HX1
 rw [hg] at HG
 have c0 := HX1.out.c0
 have c1 := HX1.out.c1
 have hng : ∀ W, (Op.unary UnOp.neg (.float .f64 F)).run Tryz.prog W = .ok (.float .f64 (F + fSG)) W := fun W => by
   have := run_neg F f2 f1 W
   rw [f3] at this
   exact this
 have HI := hid (fun W => isInf0 (F + fSG) f5 f4 W)
 have HPa := hid (fun W => pattern_any (F + fSG) W)
 have HPL := hid (patBl f4 f5)
 rw [hi] at HI
 generalize F + fSG = G at hng HI HPa HPL hi f4 f5 ⊢
 have HFF := hid hF
 clear hr1 hf1 hb1 hp hg hcell hl hi f1 f2 f3 f4 f5 hF h0 hFl hx0 hc hm
 go_enter Tryz.func63, Tryz.ntmps63
 go_upto_region 3 with (first
   | (go_at_call 60; (try rw [hW1]); refine HG.out.mono ?_; rintro e w2 ⟨rfl, hb⟩; have HB2 := hid (HB1.out.trans (hb.mono HB1.out.size)); have d0 := bcl hb c0; have d1 := bcl hb c1; clear hb HG)
   | fail)
 have k0 := bcl HB2.out HK.out
 have hF := HFF.out
 clear c0 c1 hW1
 go_wp2_with (first
   | (go_at_call 67; (try rw [hF]); (with_reducible refine (HI.out _).mono ?_); rintro e w9 ⟨rfl, rfl⟩)
   | (go_at_call 61; (try rw [hF]); (with_reducible refine (HPa.out _).mono ?_); rintro e w9 ⟨rfl, rfl⟩)
   | fail)
 go_ret2
 exact ⟨rfl, HB2.out⟩
theorem of_one_m_i (u1 : Value) (xs : List Int) (F : Nat) (w : World) (hr1 : Rd w u1 xs) (hf1 : Fit xs) (hg : goodB true xs = true) (hl : xs.length = 1) (hF : floatOfInt .f64 (xs.getD 0 0) = F) (hFl : F ≤ fIN) (hi : infB (F + fSG) = true) :
   Calls Tryz.prog 63 #[.agg #[.bool true, u1]] w (OfE 0 7 w) := by
 obtain ⟨f1, f2, f3, f4, f5⟩ := nn_le hFl
 obtain ⟨p, c, rfl, hc, hm, hp⟩ := rd_form hr1
 obtain ⟨bb, off, rfl, hcell⟩ := hp (by omega)
 have h0 := hcell 0 (by omega)
 rw [Nat.add_zero] at h0
 obtain ⟨x0, hx0⟩ : ∃ x0, xs.getD 0 0 = x0 := ⟨_, rfl⟩
 rw [hx0] at h0 hF
 rw [hl] at *
 have hb1 : Below w.heap.size w (w.alloc (.cells #[.bool true, .slice (some ⟨bb, off, none⟩) 1 c] 24)) := (Below.refl _ _).alloc (Nat.le_refl _) _
 have HG := hid (good_any true (.slice (some ⟨bb, off, none⟩) 1 c) xs (w.alloc (.cells #[.bool true, .slice (some ⟨bb, off, none⟩) 1 c] 24)) (hr1.keep hb1) hf1)
 have HB1 := hid hb1
 have HX1 := hid (Box2.new w (.bool true) (.slice (some ⟨bb, off, none⟩) 1 c) 24 rfl)
 have HK := hid h0
 obtain ⟨W1, hW1⟩ : ∃ x, w.alloc (.cells #[.bool true, .slice (some ⟨bb, off, none⟩) 1 c] 24) = x := ⟨_, rfl⟩
 rw [hW1] at HB1 HG HX1
 rw [hg] at HG
 have c0 := HX1.out.c0
 have c1 := HX1.out.c1
 have hng : ∀ W, (Op.unary UnOp.neg (.float .f64 F)).run Tryz.prog W = .ok (.float .f64 (F + fSG)) W := fun W => by
   have := run_neg F f2 f1 W
   rw [f3] at this
   exact this
 have HI := hid (fun W => isInf0 (F + fSG) f5 f4 W)
 have HPa := hid (fun W => pattern_any (F + fSG) W)
 have HPL := hid (patBl f4 f5)
 rw [hi] at HI
 generalize F + fSG = G at hng HI HPa HPL hi f4 f5 ⊢
 have HFF := hid hF
 clear hr1 hf1 hb1 hp hg hcell hl hi f1 f2 f3 f4 f5 hF h0 hFl hx0 hc hm
 go_enter Tryz.func63, Tryz.ntmps63
 go_upto_region 3 with (first
   | (go_at_call 60; (try rw [hW1]); refine HG.out.mono ?_; rintro e w2 ⟨rfl, hb⟩; have HB2 := hid (HB1.out.trans (hb.mono HB1.out.size)); have d0 := bcl hb c0; have d1 := bcl hb c1; clear hb HG)
   | fail)
 have k0 := bcl HB2.out HK.out
 have hF := HFF.out
 clear c0 c1 hW1
 go_wp2_with (first
   | (go_at_call 67; (try rw [hF]); (with_reducible refine (HI.out _).mono ?_); rintro e w9 ⟨rfl, rfl⟩)
   | (go_at_call 61; (try rw [hF]); (with_reducible refine (HPa.out _).mono ?_); rintro e w9 ⟨rfl, rfl⟩)
   | fail)
 go_ret2
 exact ⟨rfl, HB2.out⟩
theorem of_many_f (n1 : Bool) (u1 : Value) (xs : List Int) (F : Nat) (w : World) (hr1 : Rd w u1 xs) (hf1 : Fit xs) (hg : goodB n1 xs = true) (hl : xs.length ≠ 1) (hP : P10R w) (hF1 : nanB F = false) (hF2 : F < 18446744073709551616) (hi : infB F = false)
   (hPF : ∀ W, Below w.heap.size w W → Calls Tryz.prog 79 #[.string (textB n1 xs), .int .i64 64] W fun r w' => (∃ v, r = .returned (.tuple #[.float .f64 F, v])) ∧ Below W.heap.size W w') :
   Calls Tryz.prog 63 #[.agg #[.bool n1, u1]] w (OfE (patB F) 0 w) := by
 have HS := hid (goodB_sgn (neg := n1) (ws := xs) hg hf1)
 obtain ⟨p, c, rfl, hc, hm, hp⟩ := rd_form hr1
 have hb1 : Below w.heap.size w (w.alloc (.cells #[.bool n1, .slice p xs.length c] 24)) := (Below.refl _ _).alloc (Nat.le_refl _) _
 have HG := hid (good_any n1 _ xs (w.alloc (.cells #[.bool n1, .slice p xs.length c] 24)) (hr1.keep hb1) hf1)
 have HB1 := hid hb1
 have HR := hid hr1
 have HX1 := hid (Box2.new w (.bool n1) (.slice p xs.length c) 24 rfl)
 obtain ⟨W1, hW1⟩ : ∃ x, w.alloc (.cells #[.bool n1, .slice p xs.length c] 24) = x := ⟨_, rfl⟩
 rw [hW1] at HB1 HG HX1
 rw [hg] at HG
 have c0 := HX1.out.c0
 have c1 := HX1.out.c1
 have HI := hid (fun W => isInf0 F hF2 hF1 W)
 have HPa := hid (fun W => pattern_any F W)
 have HPL := hid (patBl hF1 hF2)
 rw [hi] at HI
 have HPF := hid hPF
 have HP := hid hP
 have hl1 : (xs.length == 1) = false := beq_eq_false_iff_ne.2 hl
 have hl2 : ((xs.length : Int) == 1) = false := beq_eq_false_iff_ne.2 (by omega)
 have hl3 : ¬ (xs.length : Int) = 1 := by omega
 clear hr1 hf1 hb1 hp hg hi hPF hP hF1 hF2
 go_enter Tryz.func63, Tryz.ntmps63
 go_upto_region 3 with (first
   | (go_at_call 60; (try rw [hW1]); refine HG.out.mono ?_; rintro e w2 ⟨rfl, hb⟩; have HB2 := hid (HB1.out.trans (hb.mono HB1.out.size)); have d0 := bcl hb c0; have d1 := bcl hb c1; clear hb HG)
   | fail)
 clear c0 c1 hW1
 have HTX := hid (text_any n1 _ xs _ w2 (HR.out.keep HB2.out) HS.out.1 HS.out.2 (HP.out.keep HB2.out))
 go_wp2_with (first
   | (go_at_call 99; refine HTX.out.mono ?_; rintro e w3 ⟨rfl, hb3⟩; have HB3 := hid (HB2.out.trans (hb3.mono HB2.out.size)); clear hb3)
   | (go_at_call 79; (with_reducible refine (HPF.out _ HB3.out).mono ?_); rintro e w4 ⟨⟨v4, rfl⟩, hb4⟩; have HB4 := hid (HB3.out.trans (hb4.mono HB3.out.size)); clear hb4)
   | (go_at_call 67; (with_reducible refine (HI.out _).mono ?_); rintro e w9 ⟨rfl, rfl⟩)
   | (go_at_call 61; (with_reducible refine (HPa.out _).mono ?_); rintro e w9 ⟨rfl, rfl⟩)
   | fail)
 go_ret2
 exact ⟨rfl, HB4.out⟩
theorem of_many_i (n1 : Bool) (u1 : Value) (xs : List Int) (F : Nat) (w : World) (hr1 : Rd w u1 xs) (hf1 : Fit xs) (hg : goodB n1 xs = true) (hl : xs.length ≠ 1) (hP : P10R w) (hF1 : nanB F = false) (hF2 : F < 18446744073709551616) (hi : infB F = true)
   (hPF : ∀ W, Below w.heap.size w W → Calls Tryz.prog 79 #[.string (textB n1 xs), .int .i64 64] W fun r w' => (∃ v, r = .returned (.tuple #[.float .f64 F, v])) ∧ Below W.heap.size W w') :
   Calls Tryz.prog 63 #[.agg #[.bool n1, u1]] w (OfE 0 7 w) := by
 have HS := hid (goodB_sgn (neg := n1) (ws := xs) hg hf1)
 obtain ⟨p, c, rfl, hc, hm, hp⟩ := rd_form hr1
 have hb1 : Below w.heap.size w (w.alloc (.cells #[.bool n1, .slice p xs.length c] 24)) := (Below.refl _ _).alloc (Nat.le_refl _) _
 have HG := hid (good_any n1 _ xs (w.alloc (.cells #[.bool n1, .slice p xs.length c] 24)) (hr1.keep hb1) hf1)
 have HB1 := hid hb1
 have HR := hid hr1
 have HX1 := hid (Box2.new w (.bool n1) (.slice p xs.length c) 24 rfl)
 obtain ⟨W1, hW1⟩ : ∃ x, w.alloc (.cells #[.bool n1, .slice p xs.length c] 24) = x := ⟨_, rfl⟩
 rw [hW1] at HB1 HG HX1
 rw [hg] at HG
 have c0 := HX1.out.c0
 have c1 := HX1.out.c1
 have HI := hid (fun W => isInf0 F hF2 hF1 W)
 have HPa := hid (fun W => pattern_any F W)
 have HPL := hid (patBl hF1 hF2)
 rw [hi] at HI
 have HPF := hid hPF
 have HP := hid hP
 have hl1 : (xs.length == 1) = false := beq_eq_false_iff_ne.2 hl
 have hl2 : ((xs.length : Int) == 1) = false := beq_eq_false_iff_ne.2 (by omega)
 have hl3 : ¬ (xs.length : Int) = 1 := by omega
 clear hr1 hf1 hb1 hp hg hi hPF hP hF1 hF2
 go_enter Tryz.func63, Tryz.ntmps63
 go_upto_region 3 with (first
   | (go_at_call 60; (try rw [hW1]); refine HG.out.mono ?_; rintro e w2 ⟨rfl, hb⟩; have HB2 := hid (HB1.out.trans (hb.mono HB1.out.size)); have d0 := bcl hb c0; have d1 := bcl hb c1; clear hb HG)
   | fail)
 clear c0 c1 hW1
 have HTX := hid (text_any n1 _ xs _ w2 (HR.out.keep HB2.out) HS.out.1 HS.out.2 (HP.out.keep HB2.out))
 go_wp2_with (first
   | (go_at_call 99; refine HTX.out.mono ?_; rintro e w3 ⟨rfl, hb3⟩; have HB3 := hid (HB2.out.trans (hb3.mono HB2.out.size)); clear hb3)
   | (go_at_call 79; (with_reducible refine (HPF.out _ HB3.out).mono ?_); rintro e w4 ⟨⟨v4, rfl⟩, hb4⟩; have HB4 := hid (HB3.out.trans (hb4.mono HB3.out.size)); clear hb4)
   | (go_at_call 67; (with_reducible refine (HI.out _).mono ?_); rintro e w9 ⟨rfl, rfl⟩)
   | (go_at_call 61; (with_reducible refine (HPa.out _).mono ?_); rintro e w9 ⟨rfl, rfl⟩)
   | fail)
 go_ret2
 exact ⟨rfl, HB4.out⟩
theorem realOf_good {hiT loT T : Nat → Nat} (hf : TBF hiT loT T) (tv : TypeId) (yv : Value) (n1 : Bool) (xs : List Int) (hf1 : Fit xs) (hg : goodB n1 xs = true) : ∃ F, nanB F = false ∧ F < 18446744073709551616 ∧ (xs.length = 1 → F = if n1 = true then floatOfInt .f64 (xs.getD 0 0) + fSG else floatOfInt .f64 (xs.getD 0 0)) ∧
   (xs.length ≠ 1 → ∀ W, PFT hiT loT T tv yv W W.heap.size → Calls Tryz.prog 79 #[.string (textB n1 xs), .int .i64 64] W fun r w' => (∃ v, r = .returned (.tuple #[.float .f64 F, v])) ∧ Below W.heap.size W w') ∧
   ∀ (u1 : Value) (w : World), Rd w u1 xs → P10R w → PFT hiT loT T tv yv w w.heap.size → Calls Tryz.prog 63 #[.agg #[.bool n1, u1]] w (OfE (if infB F = true then 0 else F) (if infB F = true then 7 else 0) w) := by
 by_cases hl : xs.length = 1
 · have hle := foi_le (xs.getD 0 0) (hf1 0).1
   obtain ⟨X, hX⟩ : ∃ X, floatOfInt .f64 (xs.getD 0 0) = X := ⟨_, rfl⟩
   rw [hX] at hle ⊢
   obtain ⟨f1, f2, f3, f4, f5⟩ := nn_le hle
   cases n1 with
   | false =>
     refine ⟨X, f1, f2, fun _ => by rw [if_neg (by decide)], fun h => absurd hl h, fun u1 w hr1 hP hT => ?_⟩
     have hp : patB X = X := by unfold patB; rw [f1, if_neg (by decide)]
     cases hi : infB X with
     | false =>
       have := of_one_p_f u1 xs X w hr1 hf1 hg hl hX hle hi
       rw [hp] at this
       rw [if_neg (by decide), if_neg (by decide)]
       exact this
     | true =>
       rw [if_pos rfl, if_pos rfl]
       exact of_one_p_i u1 xs X w hr1 hf1 hg hl hX hle hi
   | true =>
     obtain ⟨Y, hY⟩ : ∃ Y, X + fSG = Y := ⟨_, rfl⟩
     rw [hY] at f4 f5 ⊢
     refine ⟨Y, f4, f5, fun _ => by rw [if_pos rfl], fun h => absurd hl h, fun u1 w hr1 hP hT => ?_⟩
     have hp : patB Y = Y := by unfold patB; rw [f4, if_neg (by decide)]
     cases hi : infB Y with
     | false =>
       have := of_one_m_f u1 xs X w hr1 hf1 hg hl hX hle (by rw [hY]; exact hi)
       rw [hY, hp] at this
       rw [if_neg (by decide), if_neg (by decide)]
       exact this
     | true =>
       rw [if_pos rfl, if_pos rfl]
       exact of_one_m_i u1 xs X w hr1 hf1 hg hl hX hle (by rw [hY]; exact hi)
 · obtain ⟨hs, h30⟩ := goodB_sgn (neg := n1) (ws := xs) hg hf1
   obtain ⟨F, h1, h2, h3⟩ := pf_textB hf tv yv n1 xs hs.canon.1 h30
   refine ⟨F, h1, h2, fun h => absurd h hl, fun _ => h3, fun u1 w hr1 hP hT => ?_⟩
   have hPF : ∀ W, Below w.heap.size w W → Calls Tryz.prog 79 #[.string (textB n1 xs), .int .i64 64] W fun r w' => (∃ v, r = .returned (.tuple #[.float .f64 F, v])) ∧ Below W.heap.size W w' :=
     fun W hb => h3 W ((hT.keep hb).up hb.size)
   have hp : patB F = F := by unfold patB; rw [h1, if_neg (by decide)]
   cases hi : infB F with
   | false =>
     have := of_many_f n1 u1 xs F w hr1 hf1 hg hl hP h1 h2 hi hPF
     rw [hp] at this
     rw [if_neg (by decide), if_neg (by decide)]
     exact this
   | true =>
     rw [if_pos rfl, if_pos rfl]
     exact of_many_i n1 u1 xs F w hr1 hf1 hg hl hP h1 h2 hi hPF
end
section
open Go Go.ChangeShapes Go.WideShapes Go.RowKit Go.PlainAid
theorem spell_take {l : List UInt8} {i : Nat} (h : i < l.length) : spell (l.take (i + 1)) = spell (l.take i) * 10 + (((l[i]'h).toNat : Int) - 48) := by
 rw [List.take_succ_eq_append_getElem h, spell_append]
 simp [spell]
theorem qf_short {l : List UInt8} (hd : AllDig l) (hl : l.length ≤ 18) (hh : ∀ c r, l = c :: r → c.toNat ≠ 48) (s : ByteArray) (f : Nat → QF) (o : Nat)
   (hb : ∀ i, (h : i < l.length) → bt s (o + i) = ((l[i]'h).toNat : Int)) (f0 : f o = ⟨0, 0, 0, 0, false, false⟩) (fs : ∀ i, i < l.length → f (o + i + 1) = qfS (bt s (o + i)) (f (o + i))) :
   ∀ i, i ≤ l.length → f (o + i) = ⟨(spell (l.take i)).toNat, i, i, 0, false, false⟩ := by
 intro i
 induction i with
 | zero =>
   intro _
   rw [Nat.add_zero, f0, List.take_zero]
   rfl
 | succ i ih =>
   intro hi
   have hil : i < l.length := by omega
   have hc := hd _ (List.getElem_mem hil)
   have hsp := spell_take hil
   have h0 := (spell_bd (l := l.take i) (fun c hc => hd c (List.mem_of_mem_take hc))).1
   rw [← Nat.add_assoc, fs i hil, ih (by omega), hb i hil]
   unfold qfS
   rw [if_neg (by omega)]
   have hz : ¬ (((l[i]'hil).toNat : Int) = 48 ∧ i = 0) := by
     rintro ⟨h1, rfl⟩
     cases l with
     | nil => simp at hil
     | cons c r =>
       have := hh c r rfl
       simp at h1
       omega
   rw [if_neg hz, if_pos (show i < 19 by omega)]
   generalize (l[i]'hil).toNat = c at hc hsp
   rw [hsp]
   simp only [QF.mk.injEq, and_true]
   omega
theorem exp_short (m nd : Nat) : (if m = 0 then (0 : Int) else (if (false : Bool) = true then (0 : Int) else ((nd : Nat) : Int)) + 0 - ((nd : Nat) : Int)) = 0 := by
 split
 · rfl
 · simp
def txS (neg : Bool) (d : Nat) : ByteArray := ⟨((if neg then [45] else []) ++ Lib.decDigits d).toArray⟩
theorem dec_len {d : Nat} (h1 : d < 1000000000000000000) : (Lib.decDigits d).length ≤ 18 := by
 rw [Lib.decDigits_length]; exact nd18 h1
theorem rd_short {d : Nat} (h0 : 0 < d) (h1 : d < 1000000000000000000) : RDs (txS false d) d 0 false := by
 obtain ⟨l, hl⟩ : ∃ l, Lib.decDigits d = l := ⟨_, rfl⟩
 have hd := dec_dig d
 have hn := dec_len h1
 have hs := dec_spell d
 have hh : ∀ c r, l = c :: r → c.toNat ≠ 48 := fun c r e => by
   obtain ⟨c', r', e', hc'⟩ := dec_head d h0
   rw [hl, e] at e'
   simp only [List.cons.injEq] at e'
   rw [e'.1]; exact hc'
 have hp : 1 ≤ l.length := by rw [← hl, Lib.decDigits_length]; exact Lib.nDigits_pos d
 have htx : txS false d = ⟨l.toArray⟩ := by unfold txS; rw [hl]; rfl
 rw [hl] at hd hn hs
 have hN := nml_dig hd hp (by omega)
 have hsz := list_size l
 have hb : ∀ i, (h : i < l.length) → bt ⟨l.toArray⟩ (0 + i) = ((l[i]'h).toNat : Int) := fun i h => by
   rw [Nat.zero_add]; exact bt_list _ (by rw [hsz]; exact h)
 have hq := qf_short hd hn hh ⟨l.toArray⟩ (qfN ⟨l.toArray⟩) 0 hb rfl (fun i _ => rfl) l.length (Nat.le_refl _)
 rw [Nat.zero_add, List.take_length, hs, Int.toNat_natCast] at hq
 have hE : expZ ⟨l.toArray⟩ l.length 0 = 0 := by
   have hx : exZ ⟨l.toArray⟩ l.length 0 = 0 := by unfold exZ; rw [if_neg (by rw [hsz]; exact Nat.lt_irrefl _)]
   unfold expZ dpZ
   rw [hx, hq]
   exact exp_short _ _
 rw [htx]
 refine ⟨special_any _ _ _ _ hN, fun w => ?_, by omega⟩
 have := rdf_any _ _ _ _ hN w
 rw [hq, hE] at this
 exact this
theorem rdm_short {d : Nat} (h0 : 0 < d) (h1 : d < 1000000000000000000) : RDm (txS true d) d 0 false := by
 obtain ⟨l, hl⟩ : ∃ l, Lib.decDigits d = l := ⟨_, rfl⟩
 have hd := dec_dig d
 have hn := dec_len h1
 have hs := dec_spell d
 have hh : ∀ c r, l = c :: r → c.toNat ≠ 48 := fun c r e => by
   obtain ⟨c', r', e', hc'⟩ := dec_head d h0
   rw [hl, e] at e'
   simp only [List.cons.injEq] at e'
   rw [e'.1]; exact hc'
 have hp : 1 ≤ l.length := by rw [← hl, Lib.decDigits_length]; exact Lib.nDigits_pos d
 have htx : txS true d = ⟨(45 :: l).toArray⟩ := by unfold txS; rw [hl]; rfl
 rw [hl] at hd hn hs
 have hN := nm1_dig hd hp (by omega)
 have hsz : (⟨(45 :: l).toArray⟩ : ByteArray).size = l.length + 1 := list_size (45 :: l)
 have hb : ∀ i, (h : i < l.length) → bt ⟨(45 :: l).toArray⟩ (1 + i) = ((l[i]'h).toNat : Int) := fun i h => by
   rw [bt_list _ (by rw [hsz]; omega)]
   simp [Nat.add_comm 1 i]
 have hq := qf_short hd hn hh ⟨(45 :: l).toArray⟩ (qfM ⟨(45 :: l).toArray⟩) 1 hb (qfM_one hN) (fun i hi => qm_step hN (by omega) (by omega)) l.length (Nat.le_refl _)
 rw [Nat.add_comm 1, List.take_length, hs, Int.toNat_natCast] at hq
 have hE : expM ⟨(45 :: l).toArray⟩ (l.length + 1) 0 = 0 := by
   have hx : exZ ⟨(45 :: l).toArray⟩ (l.length + 1) 0 = 0 := by unfold exZ; rw [if_neg (by rw [hsz]; exact Nat.lt_irrefl _)]
   unfold expM dpM
   rw [hx, hq]
   exact exp_short _ _
 rw [htx]
 refine ⟨special_m _ _ _ _ hN, fun w => ?_, by omega⟩
 have := read_m _ _ _ _ hN w
 rw [hq, hE] at this
 exact this
theorem foi_near (d : Nat) : floatOfInt .f64 (d : Int) = Ieee.double.nearest false d 0 := by
 show Ieee.double.nearest (decide ((d : Int) < 0)) ((d : Int).natAbs) 0 = _
 rw [decide_eq_false (by omega), Int.natAbs_natCast]
def sgF (neg : Bool) (d : Nat) : Nat := if neg = true then fSG + floatOfInt .f64 (d : Int) else floatOfInt .f64 (d : Int)
theorem pfs_any {hiT loT T : Nat → Nat} (hf : TBF hiT loT T) (h3 : hiT 348 = 9223372036854775808) (h4 : loT 348 = 0) (tv : TypeId) (yv : Value) (neg : Bool) (d : Nat) (h0 : 0 < d) (h1 : d < 1000000000000000000) (w : World) (hw : PFT hiT loT T tv yv w w.heap.size) :
   Calls Tryz.prog 79 #[.string (txS neg d), .int .i64 64] w fun r w' => (∃ v, r = .returned (.tuple #[.float .f64 (sgF neg d), v])) ∧ Below w.heap.size w w' := by
 have hsz : (txS neg d).size ≤ 1000 := by
   have := dec_len h1
   unfold txS
   rw [list_size, List.length_append]
   cases neg <;> simp <;> omega
 refine pf_any _ _ hsz tv yv w ?_ hw.el hw.e
 have hT := hw.t
 have hin : (-345 : Int) ≤ 0 ∧ (0 : Int) ≤ 310 := ⟨by decide, by decide⟩
 have hi : (348 : Nat) < 696 := by decide
 have hd0 : d ≠ 0 := by omega
 have hd64 : d < 18446744073709551616 := by omega
 have hc : ((348 : Nat) : Int) - 348 = 0 := by omega
 cases neg with
 | false =>
   have hR := rd_short h0 h1
   have e : sgF false d = floatOfInt .f64 (d : Int) := by unfold sgF; rw [if_neg (by decide)]
   rw [e]
   by_cases hm : d < 4503599627370496
   · exact at_exact _ d 0 _ w hR hT.o hd0 hin (ex_zero d hm w hT.f)
   · have hP := pf64_any hiT loT d 348 hf.h hf.l hd0 hd64 hi w hT.p
     have hN := pf_near d (by omega) h1
     rw [← foi_near] at hN
     rw [h3, h4, hc, hN] at hP
     generalize floatOfInt .f64 (d : Int) = X at hP ⊢
     exact at_pf _ d 0 0 X w hR hT.o hd0 hin (ex_big d 0 hm w hT.f) hP
 | true =>
   have hR := rdm_short h0 h1
   have e : sgF true d = fSG + floatOfInt .f64 (d : Int) := by unfold sgF; rw [if_pos rfl]
   rw [e]
   by_cases hm : d < 4503599627370496
   · have hfl := foi_lt d hm
     have hng : (Op.unary UnOp.neg (.float .f64 (floatOfInt .f64 (d : Int)))).run Tryz.prog w = .ok (.float .f64 (fSG + floatOfInt .f64 (d : Int))) w := by
       generalize floatOfInt .f64 (d : Int) = X at hfl ⊢
       rw [run_neg _ (pos_facts hfl).2.2.2 (pos_facts hfl).2.2.1 w]
       have e1 : fSG = 9223372036854775808 := rfl
       have e2 : fIN = 9218868437227405312 := rfl
       unfold flipB
       rw [if_pos (by omega), Nat.add_comm]
     exact am_exact _ d 0 _ w hR hT.o hd0 hin (exm_zero d _ hm w hng hT.f)
   · have hP := pf64_m hiT loT d 348 hf.h hf.l hd0 hd64 hi w hT.p
     have hN := pf_near d (by omega) h1
     rw [← foi_near] at hN
     rw [h3, h4, hc, hN] at hP
     generalize floatOfInt .f64 (d : Int) = X at hP ⊢
     have e1 : fSG + X = 9223372036854775808 + X := rfl
     rw [e1]
     exact am_pf _ d 0 0 _ w hR hT.o hd0 hin (exm_big d 0 hm w hT.f) hP
end
section
open Go Go.ChangeShapes Go.WideShapes Go.ChangeAt Go.RowKit
theorem textB_one (neg : Bool) (xs : List Int) (hl : xs.length = 1) : textB neg xs = txS neg (xs.getD 0 0).toNat := by
 unfold textB txS
 rw [if_neg (by omega), hl]
 show (⟨((if neg = true then [45] else []) ++ Lib.decDigits (xs.getD (xs.length - 1) 0).toNat).toArray⟩ : ByteArray) = _
 rw [hl]
theorem of_pat {F : Nat} (h1 : nanB F = false) (h2 : F < 18446744073709551616) : patB (if infB F = true then 0 else F) = (if infB F = true then 0 else F) ∧ (if infB F = true then 0 else F) < 18446744073709551616 := by
 split
 · exact ⟨by decide +kernel, by decide⟩
 · exact ⟨by unfold patB; rw [h1, if_neg (by decide)], h2⟩
theorem of_twoX {hiT loT T : Nat → Nat} (hft : TBF hiT loT T) (h3 : hiT 348 = 9223372036854775808) (h4 : loT 348 = 0) (tv : TypeId) (yv : Value) (n1 : Bool) (xs : List Int) (hf1 : Fit xs) : ∃ (b : Nat) (x : Int), (patB b = b ∧ b < 18446744073709551616) ∧ ∀ (u1 : Value) (w : World), Rd w u1 xs → P10R w → PFT hiT loT T tv yv w w.heap.size →
   Calls Tryz.prog 63 #[.agg #[.bool n1, u1]] w (OfR b x w) ∧ Calls Tryz.prog 84 #[.agg #[.bool n1, u1]] w (OfR b x w) := by
 cases hg : goodB n1 xs with
 | false => exact ⟨0, 3, ⟨by decide +kernel, by decide⟩, fun u1 w hr _ _ => ⟨of_bad n1 u1 xs w hr hf1 hg, dof_bad n1 u1 xs w hr hf1 hg⟩⟩
 | true =>
   obtain ⟨F, hF1, hF2, hF3, hF4, hF5⟩ := realOf_good hft tv yv n1 xs hf1 hg
   refine ⟨(if infB F = true then 0 else F), (if infB F = true then 7 else 0), of_pat hF1 hF2, fun u1 w hr hP hT => ⟨hF5 u1 w hr hP hT, dof_good n1 u1 xs F w hr hf1 hg hF2 fun W hb => ?_⟩⟩
   by_cases hl : xs.length = 1
   · obtain ⟨hs, h30⟩ := goodB_sgn (neg := n1) (ws := xs) hg hf1
     have hd := hs.canon.1 0
     have ht : xs.getD 0 0 ≠ 0 := by
       have := hs.canon.2 (by omega)
       rw [hl] at this
       exact this
     rw [B18] at hd
     have hP := pfs_any hft h3 h4 tv yv n1 (xs.getD 0 0).toNat (by omega) (by omega) W ((hT.keep hb).up hb.size)
     rw [textB_one n1 xs hl]
     have hx : (((xs.getD 0 0).toNat : Nat) : Int) = xs.getD 0 0 := by omega
     have hE : sgF n1 (xs.getD 0 0).toNat = F := by
       rw [hF3 hl]
       unfold sgF
       rw [hx]
       cases n1
       · rw [if_neg (by decide), if_neg (by decide)]
       · rw [if_pos rfl, if_pos rfl]; exact Nat.add_comm _ _
     rw [hE] at hP
     exact hP
   · exact hF4 hl W ((hT.keep hb).up hb.size)
def WhX (z x : Int) (W : World) (e : Ending) (w' : World) : Prop :=
 ∃ n p c ws, e = .returned (.tuple #[.agg #[.bool n, .slice p (List.length ws) c], .int .i64 x]) ∧ Rd w' (.slice p ws.length c) ws ∧ Sgn B18 n ws z ∧ Below W.heap.size W w'
theorem wh_infB (b : Nat) (hb : b < 18446744073709551616) (hn : nanB b = false) (hi : infB b = true) (w : World) :
   Calls Tryz.prog 33 #[.int .u64 (b : Int)] w fun e w' => e = .returned (.tuple #[.agg #[.bool false, .slice none 0 0], .int .i64 7]) ∧ Below w.heap.size w w' := by
 have HNn := hid (fun W => isNaN_any b W)
 rw [hn] at HNn
 have HIn := hid (isInf0 b hb hn)
 rw [hi] at HIn
 clear hi hn hb
 go_enter Tryz.func33, Tryz.ntmps33
 go_wp2_with (first
   | (go_at_call 62; (with_reducible refine (number_any b _).mono ?_); rintro e w9 ⟨rfl, rfl⟩)
   | (go_at_call 66; (with_reducible refine (HNn.out _).mono ?_); rintro e w9 ⟨rfl, rfl⟩)
   | (go_at_call 67; (with_reducible refine (HIn.out _).mono ?_); rintro e w9 ⟨rfl, rfl⟩)
   | fail)
 have z := Box2.new w (.bool false) (.slice none 0 0) 24 rfl
 have z1 := z.c0
 have z2 := z.c1
 exact bodyPost_ret (v := .tuple #[.agg #[.bool false, .slice none 0 0], .int .i64 7]) (by simp [results, Tryz.results33, go_sem, z1, z2]) rfl ⟨rfl, (Below.refl _ _).alloc (Nat.le_refl _) _⟩
theorem wh_nanB (b : Nat) (hn : nanB b = true) (w : World) :
   Calls Tryz.prog 33 #[.int .u64 (b : Int)] w fun e w' => e = .returned (.tuple #[.agg #[.bool false, .slice none 0 0], .int .i64 1]) ∧ Below w.heap.size w w' := by
 have HNn := hid (fun W => isNaN_any b W)
 rw [hn] at HNn
 clear hn
 go_enter Tryz.func33, Tryz.ntmps33
 go_wp2_with (first
   | (go_at_call 62; (with_reducible refine (number_any b _).mono ?_); rintro e w9 ⟨rfl, rfl⟩)
   | (go_at_call 66; (with_reducible refine (HNn.out _).mono ?_); rintro e w9 ⟨rfl, rfl⟩)
   | fail)
 have z := Box2.new w (.bool false) (.slice none 0 0) 24 rfl
 have z1 := z.c0
 have z2 := z.c1
 exact bodyPost_ret (v := .tuple #[.agg #[.bool false, .slice none 0 0], .int .i64 1]) (by simp [results, Tryz.results33, go_sem, z1, z2]) rfl ⟨rfl, (Below.refl _ _).alloc (Nat.le_refl _) _⟩
end
end Go.Proofs.YtlhfemgimieooaaGreatDoor
