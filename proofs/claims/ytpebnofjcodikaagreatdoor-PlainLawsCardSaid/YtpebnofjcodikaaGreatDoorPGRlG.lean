/- Layer 3: the document's sums and quotients; Div, Cmp. math.Abs and math.IsInf, at any number. math.IsInf at any number; the parts of a pattern; hashes: of floats. The hash of a float: the program's and the document's. -/
import Derived.Test.YtpebnofjcodikaaGreatDoorPGRlF
import Derived.Test.YtpebnofjcodikaaGreatDoorPGRlB
import Derived.LoopTactic
namespace Go.Proofs.YtpebnofjcodikaaGreatDoor
section
open Go Go.ChangeShapes Go.WideShapes Go.RowKit
set_option linter.unusedVariables false
set_option linter.unusedSimpArgs false
theorem nan_nan : nanB fNaN = true := by decide +kernel
def cmV (a b : Nat) : Int := if nanB a = true ∨ nanB b = true then 0 else cmpZ a b
def cmB (a b : Nat) : Bool := !(nanB a || nanB b)
set_option maxRecDepth 100000 in
theorem cmp_any (a b : Nat) (w : World) : Calls Tryz.prog 80 #[.int .u64 (a : Int), .int .u64 (b : Int)] w fun e w' => e = .returned (.tuple #[.int .i64 (cmV a b), .bool (cmB a b)]) ∧ w = w' := by
  have HW := Lib.hid (show w = w from rfl)
  by_cases hn : nanB a = true ∨ nanB b = true
  · have h1 : (FloatKind.f64.format.order a b == some .lt) = false := cmp_nan hn _
    have h2 : (FloatKind.f64.format.order a b == some .gt) = false := cmp_nan hn _
    have h3 : (FloatKind.f64.format.order a b == some .eq) = false := cmp_nan hn _
    have HV := Lib.hid (show cmV a b = 0 ∧ cmB a b = false by
      refine ⟨by unfold cmV; rw [if_pos hn], ?_⟩
      unfold cmB; rcases hn with hn | hn <;> simp [hn])
    clear hn
    go_enter Tryz.func80, Tryz.ntmps80
    go_wp2_with (first | (go_at_call 66; (with_reducible refine (number_any _ _).mono ?_); rintro e w9 ⟨rfl, rfl⟩) | fail)
    go_ret2
    exact ⟨by rw [HV.out.1, HV.out.2]; rfl, rfl⟩
  · have ha : nanB a = false := by cases h : nanB a <;> simp_all
    have hb : nanB b = false := by cases h : nanB b <;> simp_all
    have h1 : (FloatKind.f64.format.order a b == some .lt) = decide (placeZ a < placeZ b) := lt_d ha hb
    have h2 : (FloatKind.f64.format.order a b == some .gt) = decide (placeZ b < placeZ a) := gt_d ha hb
    have h3 : (FloatKind.f64.format.order a b == some .eq) = decide (placeZ a = placeZ b) := eq_d ha hb
    have HV := Lib.hid (show cmV a b = cmpZ a b ∧ cmB a b = true by
      refine ⟨by unfold cmV; rw [if_neg hn], by unfold cmB; simp [ha, hb]⟩)
    have HC := Lib.hid (show cmpZ a b = if placeZ a < placeZ b then -1 else if placeZ b < placeZ a then 1 else 0 from rfl)
    clear hn ha hb
    generalize placeZ a = x at *
    generalize placeZ b = y at *
    by_cases c1 : x < y
    · have d1 : decide (x < y) = true := decide_eq_true c1
      rw [d1] at h1
      rw [if_pos c1] at HC
      clear d1 c1 h2 h3
      go_enter Tryz.func80, Tryz.ntmps80
      go_wp2_with (first | (go_at_call 66; (with_reducible refine (number_any _ _).mono ?_); rintro e w9 ⟨rfl, rfl⟩) | fail)
      go_ret2
      exact ⟨by rw [HV.out.1, HV.out.2, HC.out]; rfl, rfl⟩
    · rw [decide_eq_false c1] at h1
      rw [if_neg c1] at HC
      by_cases c2 : y < x
      · rw [decide_eq_true c2] at h2
        rw [if_pos c2] at HC
        clear c1 c2 h3
        go_enter Tryz.func80, Tryz.ntmps80
        go_wp2_with (first | (go_at_call 66; (with_reducible refine (number_any _ _).mono ?_); rintro e w9 ⟨rfl, rfl⟩) | fail)
        go_ret2
        exact ⟨by rw [HV.out.1, HV.out.2, HC.out]; rfl, rfl⟩
      · rw [decide_eq_false c2] at h2
        rw [decide_eq_true (show x = y by omega)] at h3
        rw [if_neg c2] at HC
        clear c1 c2
        go_enter Tryz.func80, Tryz.ntmps80
        go_wp2_with (first | (go_at_call 66; (with_reducible refine (number_any _ _).mono ?_); rintro e w9 ⟨rfl, rfl⟩) | fail)
        go_ret2
        exact ⟨by rw [HV.out.1, HV.out.2, HC.out]; rfl, rfl⟩
end
section
open Go Go.ChangeShapes Go.WideShapes Go.RowKit
set_option linter.unusedVariables false
set_option linter.unusedSimpArgs false
set_option maxRecDepth 100000 in
theorem abs_one (b c : Nat) (hc : bits BinOp.andNot .u64 (b : Int) 9223372036854775808 = (c : Int)) (w : World) : Calls Tryz.prog 70 #[.float .f64 b] w fun e w' => e = .returned (.float .f64 c) ∧ w = w' := by
  have h1 := run_f64bits b w
  have h2 := run_frombits c w
  go_enter Tryz.func70, Tryz.ntmps70
  go_wp2_with fail
  go_ret
  exact ⟨rfl, rfl⟩
set_option maxRecDepth 100000 in
theorem isInf_two (b c : Nat) (o : Bool) (hc : bits BinOp.andNot .u64 (b : Int) 9223372036854775808 = (c : Int)) (h : (FloatKind.f64.format.order c 9218868437227405311 == some .gt) = o) (w : World) : Calls Tryz.prog 68 #[.float .f64 b, .int .i64 0] w fun e w' => e = .returned (.bool o) ∧ w = w' := by
  have HA := Lib.hid (abs_one b c hc w)
  clear hc
  go_enter Tryz.func68, Tryz.ntmps68
  go_wp2_with (first
    | (go_at_call 70; (with_reducible refine HA.out.mono ?_); rintro e w9 ⟨rfl, rfl⟩)
    | fail)
  go_ret
  exact ⟨rfl, rfl⟩
end
section
open Go Go.ChangeShapes Go.WideShapes Go.RowKit
set_option linter.unusedVariables false
set_option linter.unusedSimpArgs false
theorem andNot_u (b : Nat) (hb : b < 18446744073709551616) : bits .andNot .u64 (b : Int) 9223372036854775808 = ((b % fSG : Nat) : Int) := by
  have h := u64_andNot_nat b 9223372036854775808 hb (by omega)
  rw [show (18446744073709551615 - 9223372036854775808 : Nat) = 9223372036854775807 from rfl, and_low63] at h
  exact h
theorem inf_d (b : Nat) (hn : nanB b = false) : (FloatKind.f64.format.order (b % fSG) 9218868437227405311 == some .gt) = infB b := by
  have e1 : fSG = 9223372036854775808 := rfl
  have e2 : fIN = 9218868437227405312 := rfl
  have h1 : nanB (b % fSG) = false := by unfold nanB at hn ⊢; rw [Nat.mod_mod]; exact hn
  have h2 : nanB 9218868437227405311 = false := by decide +kernel
  have h3 : placeZ 9218868437227405311 = 9218868437227405311 := by decide +kernel
  have h4 : placeZ (b % fSG) = ((b % fSG : Nat) : Int) := by
    unfold placeZ negB
    rw [Nat.mod_mod, Nat.div_eq_of_lt (Nat.mod_lt b (by decide)), if_neg (by decide)]
  rw [fmt_double, gt_d h1 h2, h3, h4]
  unfold infB
  unfold nanB at hn
  rw [decide_eq_false_iff_not] at hn
  rw [Bool.eq_iff_iff, decide_eq_true_eq, decide_eq_true_eq]
  omega
theorem isInf0 (b : Nat) (hb : b < 18446744073709551616) (hn : nanB b = false) (w : World) : Calls Tryz.prog 68 #[.float .f64 b, .int .i64 0] w fun e w' => e = .returned (.bool (infB b)) ∧ w = w' :=
  isInf_two b (b % fSG) (infB b) (andNot_u b hb) (inf_d b hn) w
end
section
open Go Go.ChangeShapes Go.WideShapes Go.RowKit
set_option linter.unusedVariables false
set_option linter.unusedSimpArgs false
structure HF (b m1 p q hs : Nat) (r : Int) : Prop where
  f1 : ((manB b : Nat) : Int).tmod 2147483647 = (m1 : Int)
  l1 : m1 < 2147483647
  f2 : (exqB b).tmod 31 = r
  l2 : -31 < r ∧ r < 31
  f3 : (r + 31).tmod 31 = (p : Int)
  l3 : p < 31
  f4 : wrap64 ((2 : Int) ^ p) = (q : Int)
  f5 : ((m1 : Int) * (q : Int)).tmod 2147483647 = (hs : Int)
  l5 : hs < 2147483647
  l6 : 0 ≤ (m1 : Int) * (q : Int) ∧ (m1 : Int) * (q : Int) ≤ 4611686018427387904
  eq : hsB b = hs
end
end Go.Proofs.YtpebnofjcodikaaGreatDoor
