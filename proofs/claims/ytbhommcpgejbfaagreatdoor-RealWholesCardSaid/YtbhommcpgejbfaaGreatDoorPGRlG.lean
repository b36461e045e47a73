/- Layer 3: the document's sums and quotients; Div, Cmp. math.Abs and math.IsInf, at any number. math.IsInf at any number; the parts of a pattern; hashes: of floats. The hash of a float: the program's and the document's. -/
import Derived.Test.YtbhommcpgejbfaaGreatDoorPGRlF
import Derived.Test.YtbhommcpgejbfaaGreatDoorPGRlB
import Derived.LoopTactic
namespace Go.Proofs.YtbhommcpgejbfaaGreatDoor
section
open Go Go.ChangeShapes Go.WideShapes Go.RowKit
set_option linter.unusedVariables false
set_option linter.unusedSimpArgs false
theorem nan_nan : nanB fNaN = true := by decide +kernel
theorem add_neg (a b : Nat) (hb : b < 18446744073709551616) : addB a (negV b) = subB a b := by
  rcases rneg_eq b hb with ⟨h, e⟩ | ⟨h, e⟩
  · rw [e]
    unfold addB subB
    rw [nan_add (.inr nan_nan), nan_sub (.inr h)]
  · rw [e]
    unfold addB subB
    rw [sub_add hb]
theorem negV_lt (b : Nat) (hb : b < 18446744073709551616) : negV b < 18446744073709551616 := patB_lt (flip_lt hb)
def dvV (a b : Nat) : Nat := if zeroB b = true then 0 else divB a b
def dvE (b : Nat) : Int := if zeroB b = true then 6 else 0
def cmV (a b : Nat) : Int := if nanB a = true ∨ nanB b = true then 0 else cmpZ a b
def cmB (a b : Nat) : Bool := !(nanB a || nanB b)
end
section
open Go Go.ChangeShapes Go.WideShapes Go.RowKit
set_option linter.unusedVariables false
set_option linter.unusedSimpArgs false
set_option maxRecDepth 100000 in
theorem abs_one (b c : Nat) (hc : bits BinOp.andNot .u64 (b : Int) 9223372036854775808 = (c : Int)) (w : World) : Calls Tryz.prog 26 #[.float .f64 b] w fun e w' => e = .returned (.float .f64 c) ∧ w = w' := by
  have h1 := run_f64bits b w
  have h2 := run_frombits c w
  go_enter Tryz.func26, Tryz.ntmps26
  go_wp2_with fail
  go_ret
  exact ⟨rfl, rfl⟩
set_option maxRecDepth 100000 in
theorem isInf_two (b c : Nat) (o : Bool) (hc : bits BinOp.andNot .u64 (b : Int) 9223372036854775808 = (c : Int)) (h : (FloatKind.f64.format.order c 9218868437227405311 == some .gt) = o) (w : World) : Calls Tryz.prog 13 #[.float .f64 b, .int .i64 0] w fun e w' => e = .returned (.bool o) ∧ w = w' := by
  have HA := Lib.hid (abs_one b c hc w)
  clear hc
  go_enter Tryz.func13, Tryz.ntmps13
  go_wp2_with (first
    | (go_at_call 26; (with_reducible refine HA.out.mono ?_); rintro e w9 ⟨rfl, rfl⟩)
    | fail)
  go_ret
  exact ⟨rfl, rfl⟩
set_option maxRecDepth 100000 in
theorem isInf_up (b : Nat) (o : Bool) (h : (FloatKind.f64.format.order b 9218868437227405311 == some .gt) = o) (w : World) : Calls Tryz.prog 13 #[.float .f64 b, .int .i64 1] w fun e w' => e = .returned (.bool o) ∧ w = w' := by
  go_enter Tryz.func13, Tryz.ntmps13
  go_wp2_with fail
  go_ret
  exact ⟨rfl, rfl⟩
set_option maxRecDepth 100000 in
theorem isInf_dn (b c : Nat) (o : Bool) (hc : ∀ W, (Op.unary UnOp.neg (.float .f64 b)).run Tryz.prog W = .ok (.float .f64 c) W) (h : (FloatKind.f64.format.order c 9218868437227405311 == some .gt) = o) (w : World) : Calls Tryz.prog 13 #[.float .f64 b, .int .i64 (-1)] w fun e w' => e = .returned (.bool o) ∧ w = w' := by
  go_enter Tryz.func13, Tryz.ntmps13
  go_wp2_with fail
  go_ret
  exact ⟨rfl, rfl⟩
end
section
open Go Go.ChangeShapes Go.WideShapes Go.RowKit
set_option linter.unusedVariables false
set_option linter.unusedSimpArgs false
theorem andNot_u (b : Nat) (hb : b < 18446744073709551616) : bits .andNot .u64 (b : Int) 9223372036854775808 = ((b % fSG : Nat) : Int) := by
  have h := u64_andNot_nat b 9223372036854775808 hb (by omega)
  rw [show (18446744073709551615 - 9223372036854775808 : Nat) = 9223372036854775807 from rfl, and_low63] at h
  exact h
theorem inf_d (b : Nat) (hn : nanB b = false) : (FloatKind.f64.format.order (b % fSG) 9218868437227405311 == some .gt) = infB b := by
  have e1 : fSG = 9223372036854775808 := rfl
  have e2 : fIN = 9218868437227405312 := rfl
  have h1 : nanB (b % fSG) = false := by unfold nanB at hn ⊢; rw [Nat.mod_mod]; exact hn
  have h2 : nanB 9218868437227405311 = false := by decide +kernel
  have h3 : placeZ 9218868437227405311 = 9218868437227405311 := by decide +kernel
  have h4 : placeZ (b % fSG) = ((b % fSG : Nat) : Int) := by
    unfold placeZ negB
    rw [Nat.mod_mod, Nat.div_eq_of_lt (Nat.mod_lt b (by decide)), if_neg (by decide)]
  rw [fmt_double, gt_d h1 h2, h3, h4]
  unfold infB
  unfold nanB at hn
  rw [decide_eq_false_iff_not] at hn
  rw [Bool.eq_iff_iff, decide_eq_true_eq, decide_eq_true_eq]
  omega
theorem isInf0 (b : Nat) (hb : b < 18446744073709551616) (hn : nanB b = false) (w : World) : Calls Tryz.prog 13 #[.float .f64 b, .int .i64 0] w fun e w' => e = .returned (.bool (infB b)) ∧ w = w' :=
  isInf_two b (b % fSG) (infB b) (andNot_u b hb) (inf_d b hn) w
theorem and_sign (b : Nat) (hb : b < 18446744073709551616) : bits .and .u64 (b : Int) 9223372036854775808 = if negB b = true then 9223372036854775808 else 0 := by
  have h := u64_and_nat b 9223372036854775808 hb (by omega)
  rw [show b &&& 9223372036854775808 = if negB b = true then 9223372036854775808 else 0 from ?_] at h
  · refine Eq.trans h ?_
    split <;> rfl
  · have e1 : (b &&& 9223372036854775808) % 2 ^ 63 = 0 := by rw [Nat.and_mod_two_pow]; simp
    have e2 : (b &&& 9223372036854775808) / 2 ^ 63 = (b / 2 ^ 63) &&& 1 := by rw [Nat.and_div_two_pow]
    have e3 : fSG = 9223372036854775808 := rfl
    have h2 : b / 2 ^ 63 = 0 ∨ b / 2 ^ 63 = 1 := by omega
    unfold negB
    simp only [beq_iff_eq, e3]
    rcases h2 with h2 | h2
    · rw [h2, show (0 &&& 1 : Nat) = 0 from rfl] at e2
      rw [if_neg (by omega)]; omega
    · rw [h2, show (1 &&& 1 : Nat) = 1 from rfl] at e2
      rw [if_pos (by omega)]; omega
set_option maxRecDepth 100000 in
theorem signed_any (b : Nat) (hb : b < 18446744073709551616) (w : World) : Calls Tryz.prog 31 #[.float .f64 b] w fun e w' => e = .returned (.bool (negB b)) ∧ w = w' := by
  have h2 := run_f64bits b w
  have h3 := and_sign b hb
  cases hn : negB b
  · rw [hn, if_neg (by simp)] at h3
    clear hn
    go_enter Tryz.func31, Tryz.ntmps31
    go_wp2_with fail
    go_ret
    exact ⟨by rfl, rfl⟩
  · rw [hn, if_pos rfl] at h3
    clear hn
    go_enter Tryz.func31, Tryz.ntmps31
    go_wp2_with fail
    go_ret
    exact ⟨by rfl, rfl⟩
end
section
open Go Go.ChangeShapes Go.WideShapes Go.RowKit
set_option linter.unusedVariables false
set_option linter.unusedSimpArgs false
set_option maxRecDepth 100000 in
theorem parts_any (b : Nat) (hb : b < 18446744073709551616) (w : World) : Calls Tryz.prog 28 #[.int .u64 (b : Int)] w fun e w' => e = .returned (.tuple #[.int .i64 (manB b : Nat), .int .i64 (exqB b)]) ∧ w = w' := by
  have h1 := and_exp b hb
  have h2 := and_frc b hb
  have h3 := or_i64 (frc_lt b)
  have hE := exp_lt b
  have hF := frc_lt b
  have HM := Lib.hid (show manB b = if expB b = 0 then frcB b else frcB b + 4503599627370496 from rfl)
  have HX := Lib.hid (show exqB b = if expB b = 0 then -1074 else (expB b : Int) - 1075 from rfl)
  obtain ⟨E, he⟩ : ∃ E, expB b = E := ⟨_, rfl⟩
  obtain ⟨F, hf⟩ : ∃ F, frcB b = F := ⟨_, rfl⟩
  rw [he] at h1 hE HM HX
  rw [hf] at h2 h3 hF HM
  clear he hf
  by_cases h0 : E = 0
  · subst h0
    have hM := HM.out
    have hX := HX.out
    rw [if_pos rfl] at hM hX
    have HM' := Lib.hid hM
    have HX' := Lib.hid hX
    clear HM HX hM hX hE
    go_enter Tryz.func28, Tryz.ntmps28
    go_wp2_with fail
    go_ret2
    exact ⟨by rw [HM'.out, HX'.out]; simp, rfl⟩
  · have hM := HM.out
    have hX := HX.out
    rw [if_neg h0] at hM hX
    have HM' := Lib.hid hM
    have HX' := Lib.hid hX
    have h0' : ¬ (E : Int) = 0 := by omega
    clear HM HX hM hX h0
    go_enter Tryz.func28, Tryz.ntmps28
    go_wp2_with fail
    go_ret2
    exact ⟨by rw [HM'.out, HX'.out]; simp, rfl⟩
set_option maxRecDepth 100000 in
theorem rparts_any (b : Nat) (hb : b < 18446744073709551616) (w : World) : Calls Tryz.prog 58 #[.int .u64 (b : Int)] w fun e w' => e = .returned (.tuple #[.int .u64 (manB b : Nat), .int .i64 (exqB b)]) ∧ w = w' := by
  have h1 := and_exp b hb
  have h2 := and_frc b hb
  have hE := exp_lt b
  have hF := frc_lt b
  have HM := Lib.hid (show manB b = if expB b = 0 then frcB b else frcB b + 4503599627370496 from rfl)
  have HX := Lib.hid (show exqB b = if expB b = 0 then -1074 else (expB b : Int) - 1075 from rfl)
  obtain ⟨E, he⟩ : ∃ E, expB b = E := ⟨_, rfl⟩
  obtain ⟨F, hf⟩ : ∃ F, frcB b = F := ⟨_, rfl⟩
  rw [he] at h1 hE HM HX
  rw [hf] at h2 hF HM
  clear he hf
  by_cases h0 : E = 0
  · subst h0
    have hM := HM.out
    have hX := HX.out
    rw [if_pos rfl] at hM hX
    have HM' := Lib.hid hM
    have HX' := Lib.hid hX
    clear HM HX hM hX hE
    go_enter Tryz.func58, Tryz.ntmps58
    go_wp2_with fail
    go_ret2
    exact ⟨by rw [HM'.out, HX'.out]; simp, rfl⟩
  · have hM := HM.out
    have hX := HX.out
    rw [if_neg h0] at hM hX
    have HM' := Lib.hid hM
    have HX' := Lib.hid hX
    have h0' : ¬ (E : Int) = 0 := by omega
    clear HM HX hM hX h0
    go_enter Tryz.func58, Tryz.ntmps58
    go_wp2_with fail
    go_ret2
    exact ⟨by rw [HM'.out, HX'.out]; simp, rfl⟩
theorem neg_ge (b : Nat) (hb : b < 18446744073709551616) : negB b = decide ((9223372036854775808 : Int) ≤ (b : Int)) := by
  unfold negB
  have e3 : fSG = 9223372036854775808 := rfl
  rw [Bool.eq_iff_iff, beq_iff_eq, decide_eq_true_eq, e3]
  omega
set_option maxRecDepth 100000 in
theorem below_anyB (b : Nat) (hb : b < 18446744073709551616) (w : World) : Calls Tryz.prog 61 #[.int .u64 (b : Int)] w fun e w' => e = .returned (.bool (negB b)) ∧ w = w' := by
  have HN := Lib.hid (neg_ge b hb)
  go_enter Tryz.func61, Tryz.ntmps61
  go_wp2_with fail
  go_ret
  exact ⟨by rw [HN.out]; simp, rfl⟩
/-- The float's hash. -/
def hashV (b : Nat) : Int := if nanB b = true then 0 else if infB b = true then (if negB b = true then -314159 else 314159) else if negB b = true then -((hsB b : Nat) : Int) else ((hsB b : Nat) : Int)
structure HF (b m1 p q hs : Nat) (r : Int) : Prop where
  f1 : ((manB b : Nat) : Int).tmod 2147483647 = (m1 : Int)
  l1 : m1 < 2147483647
  f2 : (exqB b).tmod 31 = r
  l2 : -31 < r ∧ r < 31
  f3 : (r + 31).tmod 31 = (p : Int)
  l3 : p < 31
  f4 : wrap64 ((2 : Int) ^ p) = (q : Int)
  f5 : ((m1 : Int) * (q : Int)).tmod 2147483647 = (hs : Int)
  l5 : hs < 2147483647
  l6 : 0 ≤ (m1 : Int) * (q : Int) ∧ (m1 : Int) * (q : Int) ≤ 4611686018427387904
  eq : hsB b = hs
theorem hf_of (b : Nat) : ∃ m1 p q hs r, HF b m1 p q hs r := by
  have hp := pw_lt b
  have hq : 2 ^ pwB b ≤ 2 ^ 30 := Nat.pow_le_pow_right (by decide) (by omega)
  have hm : manB b % 2147483647 < 2147483647 := Nat.mod_lt _ (by decide)
  have hmul : manB b % 2147483647 * 2 ^ pwB b ≤ 2147483647 * 2 ^ 30 := Nat.mul_le_mul (by omega) hq
  refine ⟨manB b % 2147483647, pwB b, 2 ^ pwB b, hsB b, (exqB b).tmod 31, ⟨?_, hm, rfl, ?_, ?_, hp, ?_, ?_, db_lt _ _, ?_, rfl⟩⟩
  · rw [Int.tmod_eq_emod_of_nonneg (by omega)]; omega
  · have h1 := Int.lt_tmod_of_pos (exqB b) (show (0 : Int) < 31 by decide)
    have h2 := Int.tmod_lt_of_pos (exqB b) (show (0 : Int) < 31 by decide)
    omega
  · rw [tmod31]; unfold pwB; omega
  · rw [show ((2 : Int) ^ pwB b) = ((2 ^ pwB b : Nat) : Int) by push_cast; rfl]
    generalize 2 ^ pwB b = pw at hq
    unfold wrap64
    omega
  · rw [Int.tmod_eq_emod_of_nonneg (by rw [← Int.natCast_mul]; omega), ← Int.natCast_mul]
    unfold hsB db
    omega
  · rw [← Int.natCast_mul]; omega
end
end Go.Proofs.YtbhommcpgejbfaaGreatDoor
