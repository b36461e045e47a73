/- Layer 3: the document's sums and quotients; Div, Cmp. -/
import Derived.Test.YtlhfemgimieooaaGreatDoorPGRlF
import Derived.Test.YtlhfemgimieooaaGreatDoorPGRlB
import Derived.LoopTactic
set_option linter.unusedVariables false
set_option linter.unusedSimpArgs false
set_option maxRecDepth 100000
namespace Go.Proofs.YtlhfemgimieooaaGreatDoor
open Go.Lib (hid)
open Go Go.ChangeShapes Go.WideShapes Go.RowKit
section
theorem nan_nan : nanB fNaN = true := by decide +kernel
def cmV (a b : Nat) : Int := if nanB a = true ∨ nanB b = true then 0 else cmpZ a b
def cmB (a b : Nat) : Bool := !(nanB a || nanB b)
theorem cmp_any (a b : Nat) (w : World) : Calls Tryz.prog 102 #[.int .u64 (a : Int), .int .u64 (b : Int)] w fun e w' => e = .returned (.tuple #[.int .i64 (cmV a b), .bool (cmB a b)]) ∧ w = w' := by
 have HW := hid (show w = w from rfl)
 by_cases hn : nanB a = true ∨ nanB b = true
 · have h1 : (FloatKind.f64.format.order a b == some .lt) = false := cmp_nan hn _
   have h2 : (FloatKind.f64.format.order a b == some .gt) = false := cmp_nan hn _
   have h3 : (FloatKind.f64.format.order a b == some .eq) = false := cmp_nan hn _
   have HV := hid (show cmV a b = 0 ∧ cmB a b = false by
     refine ⟨by unfold cmV; rw [if_pos hn], ?_⟩
     unfold cmB; rcases hn with hn | hn <;> simp [hn])
   clear hn
   go_enter Tryz.func102, Tryz.ntmps102
   go_wp2_with (first | (go_at_call 62; (with_reducible refine (number_any _ _).mono ?_); rintro e w9 ⟨rfl, rfl⟩) | fail)
   go_ret2
   exact ⟨by rw [HV.out.1, HV.out.2]; rfl, rfl⟩
 · have ha : nanB a = false := by cases h : nanB a <;> simp_all
   have hb : nanB b = false := by cases h : nanB b <;> simp_all
   have h1 : (FloatKind.f64.format.order a b == some .lt) = decide (placeZ a < placeZ b) := lt_d ha hb
   have h2 : (FloatKind.f64.format.order a b == some .gt) = decide (placeZ b < placeZ a) := gt_d ha hb
   have h3 : (FloatKind.f64.format.order a b == some .eq) = decide (placeZ a = placeZ b) := eq_d ha hb
   have HV := hid (show cmV a b = cmpZ a b ∧ cmB a b = true by
     refine ⟨by unfold cmV; rw [if_neg hn], by unfold cmB; simp [ha, hb]⟩)
   have HC := hid (show cmpZ a b = if placeZ a < placeZ b then -1 else if placeZ b < placeZ a then 1 else 0 from rfl)
   clear hn ha hb
   generalize placeZ a = x at *
   generalize placeZ b = y at *
   by_cases c1 : x < y
   · have d1 : decide (x < y) = true := decide_eq_true c1
     rw [d1] at h1
     rw [if_pos c1] at HC
     clear d1 c1 h2 h3
     go_enter Tryz.func102, Tryz.ntmps102
     go_wp2_with (first | (go_at_call 62; (with_reducible refine (number_any _ _).mono ?_); rintro e w9 ⟨rfl, rfl⟩) | fail)
     go_ret2
     exact ⟨by rw [HV.out.1, HV.out.2, HC.out]; rfl, rfl⟩
   · rw [decide_eq_false c1] at h1
     rw [if_neg c1] at HC
     by_cases c2 : y < x
     · rw [decide_eq_true c2] at h2
       rw [if_pos c2] at HC
       clear c1 c2 h3
       go_enter Tryz.func102, Tryz.ntmps102
       go_wp2_with (first | (go_at_call 62; (with_reducible refine (number_any _ _).mono ?_); rintro e w9 ⟨rfl, rfl⟩) | fail)
       go_ret2
       exact ⟨by rw [HV.out.1, HV.out.2, HC.out]; rfl, rfl⟩
     · rw [decide_eq_false c2] at h2
       rw [decide_eq_true (show x = y by omega)] at h3
       rw [if_neg c2] at HC
       clear c1 c2
       go_enter Tryz.func102, Tryz.ntmps102
       go_wp2_with (first | (go_at_call 62; (with_reducible refine (number_any _ _).mono ?_); rintro e w9 ⟨rfl, rfl⟩) | fail)
       go_ret2
       exact ⟨by rw [HV.out.1, HV.out.2, HC.out]; rfl, rfl⟩
end
section
theorem abs_one (b c : Nat) (hc : bits BinOp.andNot .u64 (b : Int) 9223372036854775808 = (c : Int)) (w : World) : Calls Tryz.prog 69 #[.float .f64 b] w fun e w' => e = .returned (.float .f64 c) ∧ w = w' := by
 have h1 := run_f64bits b w
 have h2 := run_frombits c w
 go_enter Tryz.func69, Tryz.ntmps69
 go_wp2_with fail
 go_ret
 exact ⟨rfl, rfl⟩
theorem isInf_two (b c : Nat) (o : Bool) (hc : bits BinOp.andNot .u64 (b : Int) 9223372036854775808 = (c : Int)) (h : (FloatKind.f64.format.order c 9218868437227405311 == some .gt) = o) (w : World) : Calls Tryz.prog 67 #[.float .f64 b, .int .i64 0] w fun e w' => e = .returned (.bool o) ∧ w = w' := by
 have HA := hid (abs_one b c hc w)
 clear hc
 go_enter Tryz.func67, Tryz.ntmps67
 go_wp2_with (first
   | (go_at_call 69; (with_reducible refine HA.out.mono ?_); rintro e w9 ⟨rfl, rfl⟩)
   | fail)
 go_ret
 exact ⟨rfl, rfl⟩
end
section
theorem andNot_u (b : Nat) (hb : b < 18446744073709551616) : bits .andNot .u64 (b : Int) 9223372036854775808 = ((b % fSG : Nat) : Int) := by
 have h := u64_andNot_nat b 9223372036854775808 hb (by omega)
 rw [show (18446744073709551615 - 9223372036854775808 : Nat) = 9223372036854775807 from rfl, and_low63] at h
 exact h
theorem inf_d (b : Nat) (hn : nanB b = false) : (FloatKind.f64.format.order (b % fSG) 9218868437227405311 == some .gt) = infB b := by
 have e1 : fSG = 9223372036854775808 := rfl
 have e2 : fIN = 9218868437227405312 := rfl
 have h1 : nanB (b % fSG) = false := by unfold nanB at hn ⊢; rw [Nat.mod_mod]; exact hn
 have h2 : nanB 9218868437227405311 = false := by decide +kernel
 have h3 : placeZ 9218868437227405311 = 9218868437227405311 := by decide +kernel
 have h4 : placeZ (b % fSG) = ((b % fSG : Nat) : Int) := by
   unfold placeZ negB
   rw [Nat.mod_mod, Nat.div_eq_of_lt (Nat.mod_lt b (by decide)), if_neg (by decide)]
 rw [fmt_double, gt_d h1 h2, h3, h4]
 unfold infB
 unfold nanB at hn
 rw [decide_eq_false_iff_not] at hn
 rw [Bool.eq_iff_iff, decide_eq_true_eq, decide_eq_true_eq]
 omega
theorem isInf0 (b : Nat) (hb : b < 18446744073709551616) (hn : nanB b = false) (w : World) : Calls Tryz.prog 67 #[.float .f64 b, .int .i64 0] w fun e w' => e = .returned (.bool (infB b)) ∧ w = w' :=
 isInf_two b (b % fSG) (infB b) (andNot_u b hb) (inf_d b hn) w
theorem and_sign (b : Nat) (hb : b < 18446744073709551616) : bits .and .u64 (b : Int) 9223372036854775808 = if negB b = true then 9223372036854775808 else 0 := by
 have h := u64_and_nat b 9223372036854775808 hb (by omega)
 rw [show b &&& 9223372036854775808 = if negB b = true then 9223372036854775808 else 0 from ?_] at h
 · refine Eq.trans h ?_
   split <;> rfl
 · have e1 : (b &&& 9223372036854775808) % 2 ^ 63 = 0 := by rw [Nat.and_mod_two_pow]; simp
   have e2 : (b &&& 9223372036854775808) / 2 ^ 63 = (b / 2 ^ 63) &&& 1 := by rw [Nat.and_div_two_pow]
   have e3 : fSG = 9223372036854775808 := rfl
   have h2 : b / 2 ^ 63 = 0 ∨ b / 2 ^ 63 = 1 := by omega
   unfold negB
   simp only [beq_iff_eq, e3]
   rcases h2 with h2 | h2
   · rw [h2, show (0 &&& 1 : Nat) = 0 from rfl] at e2
     rw [if_neg (by omega)]; omega
   · rw [h2, show (1 &&& 1 : Nat) = 1 from rfl] at e2
     rw [if_pos (by omega)]; omega
theorem signed_any (b : Nat) (hb : b < 18446744073709551616) (w : World) : Calls Tryz.prog 73 #[.float .f64 b] w fun e w' => e = .returned (.bool (negB b)) ∧ w = w' := by
 have h2 := run_f64bits b w
 have h3 := and_sign b hb
 cases hn : negB b
 · rw [hn, if_neg (by simp)] at h3
   clear hn
   go_enter Tryz.func73, Tryz.ntmps73
   go_wp2_with fail
   go_ret
   exact ⟨by rfl, rfl⟩
 · rw [hn, if_pos rfl] at h3
   clear hn
   go_enter Tryz.func73, Tryz.ntmps73
   go_wp2_with fail
   go_ret
   exact ⟨by rfl, rfl⟩
end
section
theorem parts_any (b : Nat) (hb : b < 18446744073709551616) (w : World) : Calls Tryz.prog 70 #[.int .u64 (b : Int)] w fun e w' => e = .returned (.tuple #[.int .i64 (manB b : Nat), .int .i64 (exqB b)]) ∧ w = w' := by
 have h1 := and_exp b hb
 have h2 := and_frc b hb
 have h3 := or_i64 (frc_lt b)
 have hE := exp_lt b
 have hF := frc_lt b
 have HM := hid (show manB b = if expB b = 0 then frcB b else frcB b + 4503599627370496 from rfl)
 have HX := hid (show exqB b = if expB b = 0 then -1074 else (expB b : Int) - 1075 from rfl)
 obtain ⟨E, he⟩ : ∃ E, expB b = E := ⟨_, rfl⟩
 obtain ⟨F, hf⟩ : ∃ F, frcB b = F := ⟨_, rfl⟩
 rw [he] at h1 hE HM HX
 rw [hf] at h2 h3 hF HM
 clear he hf
 by_cases h0 : E = 0
 · subst h0
   have hM := HM.out
   have hX := HX.out
   rw [if_pos rfl] at hM hX
   have HM' := hid hM
   have HX' := hid hX
   clear HM HX hM hX hE
   go_enter Tryz.func70, Tryz.ntmps70
   go_wp2_with fail
   go_ret2
   exact ⟨by rw [HM'.out, HX'.out]; simp, rfl⟩
 · have hM := HM.out
   have hX := HX.out
   rw [if_neg h0] at hM hX
   have HM' := hid hM
   have HX' := hid hX
   have h0' : ¬ (E : Int) = 0 := by omega
   clear HM HX hM hX h0
   go_enter Tryz.func70, Tryz.ntmps70
   go_wp2_with fail
   go_ret2
   exact ⟨by rw [HM'.out, HX'.out]; simp, rfl⟩
theorem rparts_any (b : Nat) (hb : b < 18446744073709551616) (w : World) : Calls Tryz.prog 121 #[.int .u64 (b : Int)] w fun e w' => e = .returned (.tuple #[.int .u64 (manB b : Nat), .int .i64 (exqB b)]) ∧ w = w' := by
 have h1 := and_exp b hb
 have h2 := and_frc b hb
 have hE := exp_lt b
 have hF := frc_lt b
 have HM := hid (show manB b = if expB b = 0 then frcB b else frcB b + 4503599627370496 from rfl)
 have HX := hid (show exqB b = if expB b = 0 then -1074 else (expB b : Int) - 1075 from rfl)
 obtain ⟨E, he⟩ : ∃ E, expB b = E := ⟨_, rfl⟩
 obtain ⟨F, hf⟩ : ∃ F, frcB b = F := ⟨_, rfl⟩
 rw [he] at h1 hE HM HX
 rw [hf] at h2 hF HM
 clear he hf
 by_cases h0 : E = 0
 · subst h0
   have hM := HM.out
   have hX := HX.out
   rw [if_pos rfl] at hM hX
   have HM' := hid hM
   have HX' := hid hX
   clear HM HX hM hX hE
   go_enter Tryz.func121, Tryz.ntmps121
   go_wp2_with fail
   go_ret2
   exact ⟨by rw [HM'.out, HX'.out]; simp, rfl⟩
 · have hM := HM.out
   have hX := HX.out
   rw [if_neg h0] at hM hX
   have HM' := hid hM
   have HX' := hid hX
   have h0' : ¬ (E : Int) = 0 := by omega
   clear HM HX hM hX h0
   go_enter Tryz.func121, Tryz.ntmps121
   go_wp2_with fail
   go_ret2
   exact ⟨by rw [HM'.out, HX'.out]; simp, rfl⟩
theorem neg_ge (b : Nat) (hb : b < 18446744073709551616) : negB b = decide ((9223372036854775808 : Int) ≤ (b : Int)) := by
 unfold negB
 have e3 : fSG = 9223372036854775808 := rfl
 rw [Bool.eq_iff_iff, beq_iff_eq, decide_eq_true_eq, e3]
 omega
theorem below_anyB (b : Nat) (hb : b < 18446744073709551616) (w : World) : Calls Tryz.prog 123 #[.int .u64 (b : Int)] w fun e w' => e = .returned (.bool (negB b)) ∧ w = w' := by
 have HN := hid (neg_ge b hb)
 go_enter Tryz.func123, Tryz.ntmps123
 go_wp2_with fail
 go_ret
 exact ⟨by rw [HN.out]; simp, rfl⟩
structure HF (b m1 p q hs : Nat) (r : Int) : Prop where
 f1 : ((manB b : Nat) : Int).tmod 2147483647 = (m1 : Int)
 l1 : m1 < 2147483647
 f2 : (exqB b).tmod 31 = r
 l2 : -31 < r ∧ r < 31
 f3 : (r + 31).tmod 31 = (p : Int)
 l3 : p < 31
 f4 : wrap64 ((2 : Int) ^ p) = (q : Int)
 f5 : ((m1 : Int) * (q : Int)).tmod 2147483647 = (hs : Int)
 l5 : hs < 2147483647
 l6 : 0 ≤ (m1 : Int) * (q : Int) ∧ (m1 : Int) * (q : Int) ≤ 4611686018427387904
 eq : hsB b = hs
end
end Go.Proofs.YtlhfemgimieooaaGreatDoor
