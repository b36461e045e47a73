/- Layer 3: the document's sums and quotients; Div, Cmp. Layer 3: the chapter's examples, run: Text. Layer 3: the chapter's examples, run: Mod. math.IsInf at any number; the parts of a pattern; hashes: of floats. -/
import Derived.Test.YtadcbefjelmodaaGreatDoorPRlF
import Derived.Test.YtadcbefjelmodaaGreatDoorPGRlE
import Derived.Test.YtadcbefjelmodaaGreatDoorPGRlB
namespace Go.Proofs.YtadcbefjelmodaaGreatDoor
section
open Go Go.ChangeShapes Go.WideShapes Go.RowKit
set_option linter.unusedVariables false
set_option linter.unusedSimpArgs false
theorem nan_nan : nanB fNaN = true := by decide +kernel
theorem add_neg (a b : Nat) (hb : b < 18446744073709551616) : addB a (negV b) = subB a b := by
  rcases rneg_eq b hb with ⟨h, e⟩ | ⟨h, e⟩
  · rw [e]
    unfold addB subB
    rw [nan_add (.inr nan_nan), nan_sub (.inr h)]
  · rw [e]
    unfold addB subB
    rw [sub_add hb]
theorem negV_lt (b : Nat) (hb : b < 18446744073709551616) : negV b < 18446744073709551616 := patB_lt (flip_lt hb)
def dvV (a b : Nat) : Nat := if zeroB b = true then 0 else divB a b
def dvE (b : Nat) : Int := if zeroB b = true then 6 else 0
def cmV (a b : Nat) : Int := if nanB a = true ∨ nanB b = true then 0 else cmpZ a b
def cmB (a b : Nat) : Bool := !(nanB a || nanB b)
set_option maxRecDepth 100000 in
theorem cmp_any (a b : Nat) (w : World) : Calls Tryz.prog 4 #[.int .u64 (a : Int), .int .u64 (b : Int)] w fun e w' => e = .returned (.tuple #[.int .i64 (cmV a b), .bool (cmB a b)]) ∧ w = w' := by
  have HW := Lib.hid (show w = w from rfl)
  by_cases hn : nanB a = true ∨ nanB b = true
  · have h1 : (FloatKind.f64.format.order a b == some .lt) = false := cmp_nan hn _
    have h2 : (FloatKind.f64.format.order a b == some .gt) = false := cmp_nan hn _
    have h3 : (FloatKind.f64.format.order a b == some .eq) = false := cmp_nan hn _
    have HV := Lib.hid (show cmV a b = 0 ∧ cmB a b = false by
      refine ⟨by unfold cmV; rw [if_pos hn], ?_⟩
      unfold cmB; rcases hn with hn | hn <;> simp [hn])
    clear hn
    go_enter Tryz.func4, Tryz.ntmps4
    go_wp2_with (first | (go_at_call 9; (with_reducible refine (number_any _ _).mono ?_); rintro e w9 ⟨rfl, rfl⟩) | fail)
    go_ret2
    exact ⟨by rw [HV.out.1, HV.out.2]; rfl, rfl⟩
  · have ha : nanB a = false := by cases h : nanB a <;> simp_all
    have hb : nanB b = false := by cases h : nanB b <;> simp_all
    have h1 : (FloatKind.f64.format.order a b == some .lt) = decide (placeZ a < placeZ b) := lt_d ha hb
    have h2 : (FloatKind.f64.format.order a b == some .gt) = decide (placeZ b < placeZ a) := gt_d ha hb
    have h3 : (FloatKind.f64.format.order a b == some .eq) = decide (placeZ a = placeZ b) := eq_d ha hb
    have HV := Lib.hid (show cmV a b = cmpZ a b ∧ cmB a b = true by
      refine ⟨by unfold cmV; rw [if_neg hn], by unfold cmB; simp [ha, hb]⟩)
    have HC := Lib.hid (show cmpZ a b = if placeZ a < placeZ b then -1 else if placeZ b < placeZ a then 1 else 0 from rfl)
    clear hn ha hb
    generalize placeZ a = x at *
    generalize placeZ b = y at *
    by_cases c1 : x < y
    · have d1 : decide (x < y) = true := decide_eq_true c1
      rw [d1] at h1
      rw [if_pos c1] at HC
      clear d1 c1 h2 h3
      go_enter Tryz.func4, Tryz.ntmps4
      go_wp2_with (first | (go_at_call 9; (with_reducible refine (number_any _ _).mono ?_); rintro e w9 ⟨rfl, rfl⟩) | fail)
      go_ret2
      exact ⟨by rw [HV.out.1, HV.out.2, HC.out]; rfl, rfl⟩
    · rw [decide_eq_false c1] at h1
      rw [if_neg c1] at HC
      by_cases c2 : y < x
      · rw [decide_eq_true c2] at h2
        rw [if_pos c2] at HC
        clear c1 c2 h3
        go_enter Tryz.func4, Tryz.ntmps4
        go_wp2_with (first | (go_at_call 9; (with_reducible refine (number_any _ _).mono ?_); rintro e w9 ⟨rfl, rfl⟩) | fail)
        go_ret2
        exact ⟨by rw [HV.out.1, HV.out.2, HC.out]; rfl, rfl⟩
      · rw [decide_eq_false c2] at h2
        rw [decide_eq_true (show x = y by omega)] at h3
        rw [if_neg c2] at HC
        clear c1 c2
        go_enter Tryz.func4, Tryz.ntmps4
        go_wp2_with (first | (go_at_call 9; (with_reducible refine (number_any _ _).mono ?_); rintro e w9 ⟨rfl, rfl⟩) | fail)
        go_ret2
        exact ⟨by rw [HV.out.1, HV.out.2, HC.out]; rfl, rfl⟩
end
section
open Go Go.ChangeShapes Go.WideShapes Go.RowKit
set_option linter.unusedVariables false
set_option linter.unusedSimpArgs false
theorem number_one (w : World) : Calls Tryz.prog 9 #[.int .u64 4607182418800017408] w fun e w' => e = .returned (.float .f64 4607182418800017408) ∧ w = w' := number_any 4607182418800017408 w
theorem number_sg (w : World) : Calls Tryz.prog 9 #[.int .u64 9223372036854775808] w fun e w' => e = .returned (.float .f64 9223372036854775808) ∧ w = w' := number_any 9223372036854775808 w
theorem isNaN_no (b : Nat) (h : nanB b = false) (w : World) : Calls Tryz.prog 16 #[.float .f64 b] w fun e w' => e = .returned (.bool false) ∧ w = w' := by
  refine (isNaN_any b w).mono ?_
  rintro e w' ⟨rfl, rfl⟩
  exact ⟨by rw [h], rfl⟩
set_option maxRecDepth 100000 in
theorem isInf_up (b : Nat) (o : Bool) (h : (FloatKind.f64.format.order b 9218868437227405311 == some .gt) = o) (w : World) : Calls Tryz.prog 18 #[.float .f64 b, .int .i64 1] w fun e w' => e = .returned (.bool o) ∧ w = w' := by
  go_enter Tryz.func18, Tryz.ntmps18
  go_wp2_with fail
  go_ret
  exact ⟨rfl, rfl⟩
set_option maxRecDepth 100000 in
theorem isInf_dn (b c : Nat) (o : Bool) (hc : ∀ W, (Op.unary UnOp.neg (.float .f64 b)).run Tryz.prog W = .ok (.float .f64 c) W) (h : (FloatKind.f64.format.order c 9218868437227405311 == some .gt) = o) (w : World) : Calls Tryz.prog 18 #[.float .f64 b, .int .i64 (-1)] w fun e w' => e = .returned (.bool o) ∧ w = w' := by
  go_enter Tryz.func18, Tryz.ntmps18
  go_wp2_with fail
  go_ret
  exact ⟨rfl, rfl⟩
set_option maxRecDepth 100000 in
theorem contains_one (w : World) : Calls Tryz.prog 39 #[.string ⟨#[49]⟩, .string ⟨#[46]⟩] w fun e w' => e = .returned (.bool false) ∧ w = w' := by
  refine (Tryz.strings_Contains_one ⟨#[49]⟩ 46 w).mono ?_
  rintro e w' ⟨rfl, rfl⟩
  exact ⟨by rw [show decide (0 ≤ Lib.indexByte [49] 46) = false by decide +kernel], rfl⟩
set_option maxRecDepth 100000 in
theorem text_one (w : World) (ht : PT w) (hp : P10R w) : Calls Tryz.prog 15 #[.int .u64 4607182418800017408] w fun e w' => e = .returned (.string ⟨#[49, 46, 48]⟩) ∧ Below w.heap.size w w' := by
  have h1 : (FloatKind.f64.format.order 4607182418800017408 0 == some .eq) = false := by rfl
  have HN := Lib.hid (fun W => isNaN_no 4607182418800017408 (by rfl) W)
  have HU := Lib.hid (fun W => isInf_up 4607182418800017408 false (by rfl) W)
  have HD := Lib.hid (fun W => isInf_dn 4607182418800017408 13830554455654793216 false (fun _ => by rfl) (by rfl) W)
  have HE := Lib.hid (formatE_one w ht hp)
  have HT := Lib.hid ht
  have HP := Lib.hid hp
  clear ht hp
  go_enter Tryz.func15, Tryz.ntmps15
  go_wp2_with (first
    | (go_at_call 9; (with_reducible refine (number_one _).mono ?_); rintro e w9 ⟨rfl, rfl⟩)
    | (go_at_call 16; (with_reducible refine (HN.out _).mono ?_); rintro e w9 ⟨rfl, rfl⟩)
    | (go_at_call 18; first | ((with_reducible refine (HU.out _).mono ?_); rintro e w9 ⟨rfl, rfl⟩) | ((with_reducible refine (HD.out _).mono ?_); rintro e w9 ⟨rfl, rfl⟩))
    | (go_at_call 36; (with_reducible refine HE.out.mono ?_); rintro e w1 ⟨rfl, hb⟩; have HB1 := Lib.hid hb; clear hb HE)
    | (go_at_call 37; (with_reducible refine (cut_one _).mono ?_); rintro e w2 ⟨rfl, hb⟩; have HB2 := Lib.hid (HB1.out.trans (hb.mono HB1.out.size)); clear hb)
    | (go_at_call 38; (with_reducible refine (atoi_one _).mono ?_); rintro e w3 ⟨rfl, hb⟩; have HB3 := Lib.hid (HB2.out.trans (hb.mono HB2.out.size)); have HF := Lib.hid (formatF_one w3 (HT.out.keep HB3.out) (HP.out.keep HB3.out)); clear hb)
    | (go_at_call 36; (with_reducible refine HF.out.mono ?_); rintro e w4 ⟨rfl, hb⟩; have HB4 := Lib.hid (HB3.out.trans (hb.mono HB3.out.size)); clear hb HF)
    | (go_at_call 39; (with_reducible refine (contains_one _).mono ?_); rintro e w9 ⟨rfl, rfl⟩)
    | fail)
  go_ret
  exact ⟨rfl, HB4.out⟩
set_option maxRecDepth 100000 in
theorem text_sign (w : World) : Calls Tryz.prog 15 #[.int .u64 9223372036854775808] w fun e w' => e = .returned (.string ⟨#[45, 48, 46, 48]⟩) ∧ w = w' := by
  have h1 : (FloatKind.f64.format.order 9223372036854775808 0 == some .eq) = true := by rfl
  have h2 := run_f64bits 9223372036854775808
  have h3 : bits BinOp.and .u64 9223372036854775808 9223372036854775808 = 9223372036854775808 := by rfl
  have HN := Lib.hid (fun W => isNaN_no 9223372036854775808 (by rfl) W)
  have HU := Lib.hid (fun W => isInf_up 9223372036854775808 false (by rfl) W)
  have HD := Lib.hid (fun W => isInf_dn 9223372036854775808 0 false (fun _ => by rfl) (by rfl) W)
  have HS : Hid (∀ W, Calls Tryz.prog 35 #[.float .f64 9223372036854775808] W fun e w' => e = .returned (.bool true) ∧ W = w') := Lib.hid (fun W => by
    have h2 := run_f64bits 9223372036854775808 W
    have h3 : bits BinOp.and .u64 9223372036854775808 9223372036854775808 = 9223372036854775808 := by rfl
    go_enter Tryz.func35, Tryz.ntmps35
    go_wp2_with fail
    go_ret
    exact ⟨by rfl, rfl⟩)
  go_enter Tryz.func15, Tryz.ntmps15
  go_wp2_with (first
    | (go_at_call 9; (with_reducible refine (number_sg _).mono ?_); rintro e w9 ⟨rfl, rfl⟩)
    | (go_at_call 16; (with_reducible refine (HN.out _).mono ?_); rintro e w9 ⟨rfl, rfl⟩)
    | (go_at_call 18; first | ((with_reducible refine (HU.out _).mono ?_); rintro e w9 ⟨rfl, rfl⟩) | ((with_reducible refine (HD.out _).mono ?_); rintro e w9 ⟨rfl, rfl⟩))
    | (go_at_call 35; (with_reducible refine (HS.out _).mono ?_); rintro e w9 ⟨rfl, rfl⟩)
    | fail)
  go_ret
  exact ⟨rfl, rfl⟩
set_option maxRecDepth 100000 in
theorem parse_nan (w : World) : Calls Tryz.prog 14 #[.string ⟨#[45, 110, 97, 110]⟩] w fun e w' => e = .returned (.tuple #[.int .u64 9221120237041090560, .int .i64 0]) ∧ w = w' := by
  have hc : Calls Tryz.prog 31 #[.string ⟨#[45, 110, 97, 110]⟩, .string ⟨#[45]⟩] w fun e w' => e = .returned (.tuple #[.string ⟨#[110, 97, 110]⟩, .bool true]) ∧ w = w' := by
    refine (Tryz.strings_CutPrefix ⟨#[45, 110, 97, 110]⟩ ⟨#[45]⟩ w).mono ?_
    rintro e w' ⟨rfl, rfl⟩
    exact ⟨by rfl, rfl⟩
  have HC := Lib.hid hc
  clear hc
  go_enter Tryz.func14, Tryz.ntmps14
  go_wp2_with (first
    | (go_at_call 31; (with_reducible refine HC.out.mono ?_); rintro e w9 ⟨rfl, rfl⟩)
    | fail)
  go_ret2
  exact ⟨rfl, rfl⟩
end
section
open Go Go.ChangeShapes Go.WideShapes Go.RowKit
set_option linter.unusedVariables false
set_option linter.unusedSimpArgs false
set_option maxRecDepth 100000 in
theorem abs_one (b c : Nat) (hc : bits BinOp.andNot .u64 (b : Int) 9223372036854775808 = (c : Int)) (w : World) : Calls Tryz.prog 40 #[.float .f64 b] w fun e w' => e = .returned (.float .f64 c) ∧ w = w' := by
  have h1 := run_f64bits b w
  have h2 := run_frombits c w
  go_enter Tryz.func40, Tryz.ntmps40
  go_wp2_with fail
  go_ret
  exact ⟨rfl, rfl⟩
set_option maxRecDepth 100000 in
theorem isInf_two (b c : Nat) (o : Bool) (hc : bits BinOp.andNot .u64 (b : Int) 9223372036854775808 = (c : Int)) (h : (FloatKind.f64.format.order c 9218868437227405311 == some .gt) = o) (w : World) : Calls Tryz.prog 18 #[.float .f64 b, .int .i64 0] w fun e w' => e = .returned (.bool o) ∧ w = w' := by
  have HA := Lib.hid (abs_one b c hc w)
  clear hc
  go_enter Tryz.func18, Tryz.ntmps18
  go_wp2_with (first
    | (go_at_call 40; (with_reducible refine HA.out.mono ?_); rintro e w9 ⟨rfl, rfl⟩)
    | fail)
  go_ret
  exact ⟨rfl, rfl⟩
set_option maxRecDepth 100000 in
theorem mIsNaN_no (b : Nat) (h : (FloatKind.f64.format.order b b != some .eq) = false) (w : World) : Calls Tryz.prog 88 #[.float .f64 b] w fun e w' => e = .returned (.bool false) ∧ w = w' := by
  go_enter Tryz.func88, Tryz.ntmps88
  go_wp2_with fail
  go_ret
  exact ⟨rfl, rfl⟩
theorem inf_inf (w : World) : Calls Tryz.prog 18 #[.float .f64 9218868437227405312, .int .i64 0] w fun e w' => e = .returned (.bool true) ∧ w = w' := isInf_two 9218868437227405312 9218868437227405312 true (by rfl) (by rfl) w
theorem inf_m5 (w : World) : Calls Tryz.prog 18 #[.float .f64 13840687554816376832, .int .i64 0] w fun e w' => e = .returned (.bool false) ∧ w = w' := isInf_two 13840687554816376832 4617315517961601024 false (by rfl) (by rfl) w
theorem inf_m1 (w : World) : Calls Tryz.prog 18 #[.float .f64 13830554455654793216, .int .i64 0] w fun e w' => e = .returned (.bool false) ∧ w = w' := isInf_two 13830554455654793216 4607182418800017408 false (by rfl) (by rfl) w
theorem abs_inf (w : World) : Calls Tryz.prog 40 #[.float .f64 9218868437227405312] w fun e w' => e = .returned (.float .f64 9218868437227405312) ∧ w = w' := abs_one 9218868437227405312 9218868437227405312 (by rfl) w
theorem nanm_m5 (w : World) : Calls Tryz.prog 88 #[.float .f64 13840687554816376832] w fun e w' => e = .returned (.bool false) ∧ w = w' := mIsNaN_no 13840687554816376832 (by rfl) w
theorem nanm_inf (w : World) : Calls Tryz.prog 88 #[.float .f64 9218868437227405312] w fun e w' => e = .returned (.bool false) ∧ w = w' := mIsNaN_no 9218868437227405312 (by rfl) w
set_option maxRecDepth 100000 in
theorem frexp_inf (w : World) : Calls Tryz.prog 122 #[.float .f64 9218868437227405312] w fun e w' => e = .returned (.tuple #[.float .f64 9218868437227405312, .int .i64 0]) ∧ w = w' := by
  have h1 : (FloatKind.f64.format.order 9218868437227405312 0 == some .eq) = false := by rfl
  go_enter Tryz.func122, Tryz.ntmps122
  go_wp2_with (first
    | (go_at_call 18; (with_reducible refine (inf_inf _).mono ?_); rintro e w9 ⟨rfl, rfl⟩)
    | fail)
  go_ret2
  exact ⟨rfl, rfl⟩
set_option maxRecDepth 100000 in
theorem Frexp_inf (w : World) : Calls Tryz.prog 90 #[.float .f64 9218868437227405312] w fun e w' => e = .returned (.tuple #[.float .f64 9218868437227405312, .int .i64 0]) ∧ w = w' := by
  go_enter Tryz.func90, Tryz.ntmps90
  go_wp2_with (first
    | (go_at_call 122; (with_reducible refine (frexp_inf _).mono ?_); rintro e w9 ⟨rfl, rfl⟩)
    | fail)
  go_ret2
  exact ⟨rfl, rfl⟩
set_option maxRecDepth 100000 in
theorem mod_one (w : World) : Calls Tryz.prog 74 #[.float .f64 13840687554816376832, .float .f64 9218868437227405312] w fun e w' => e = .returned (.float .f64 13840687554816376832) ∧ w = w' := by
  have h1 : (FloatKind.f64.format.order 9218868437227405312 0 == some .eq) = false := by rfl
  have h2 : (FloatKind.f64.format.order 13840687554816376832 0 == some .lt) = true := by rfl
  have h3 : ∀ W, (Op.unary UnOp.neg (.float .f64 13840687554816376832)).run Tryz.prog W = .ok (.float .f64 4617315517961601024) W := fun _ => by rfl
  have h4 : ∀ W, (Op.unary UnOp.neg (.float .f64 4617315517961601024)).run Tryz.prog W = .ok (.float .f64 13840687554816376832) W := fun _ => by rfl
  have h5 : (FloatKind.f64.format.order 4617315517961601024 9218868437227405312 == some .gt) = false := by rfl
  have h6 : (FloatKind.f64.format.order 4617315517961601024 9218868437227405312 == some .eq) = false := by rfl
  go_enter Tryz.func74, Tryz.ntmps74
  go_wp2_with (first
    | (go_at_call 18; (with_reducible refine (inf_m5 _).mono ?_); rintro e w9 ⟨rfl, rfl⟩)
    | (go_at_call 88; first | ((with_reducible refine (nanm_m5 _).mono ?_); rintro e w9 ⟨rfl, rfl⟩) | ((with_reducible refine (nanm_inf _).mono ?_); rintro e w9 ⟨rfl, rfl⟩))
    | (go_at_call 40; (with_reducible refine (abs_inf _).mono ?_); rintro e w9 ⟨rfl, rfl⟩)
    | (go_at_call 90; (with_reducible refine (Frexp_inf _).mono ?_); rintro e w9 ⟨rfl, rfl⟩)
    | fail)
  go_loopw [7] (fun s7 wr => s7 = .float .f64 4617315517961601024 ∧ w = wr) (fun s7 wr => 0)
  case atStart => exact ⟨rfl, rfl⟩
  case round =>
    obtain ⟨rfl, rfl⟩ := hrel
    go_wp2_with fail
    go_ret
    exact ⟨rfl, rfl⟩
theorem Mod_one (w : World) : Calls Tryz.prog 55 #[.float .f64 13840687554816376832, .float .f64 9218868437227405312] w fun e w' => e = .returned (.float .f64 13840687554816376832) ∧ w = w' := by
  go_enter Tryz.func55, Tryz.ntmps55
  go_wp2_with (first
    | (go_at_call 74; (with_reducible refine (mod_one _).mono ?_); rintro e w9 ⟨rfl, rfl⟩)
    | fail)
  go_ret
  exact ⟨rfl, rfl⟩
set_option maxRecDepth 100000 in
theorem run_afloor (w : World) : (callFunc 75 #[.float .f64 13830554455654793216]).run Tryz.prog w = .ok (.value (.float .f64 13830554455654793216)) w := by
  rw [run_callFunc_extern Tryz.func75 (by kernel_rfl) (by kernel_rfl) (by kernel_rfl) (e := Extern.MathFloor.toIntegral "math.archFloor" .down) (by kernel_rfl)]
  rfl
set_option maxRecDepth 100000 in
theorem floor_m1 (w : World) : Calls Tryz.prog 57 #[.float .f64 13830554455654793216] w fun e w' => e = .returned (.float .f64 13830554455654793216) ∧ w = w' := by
  have h1 := run_afloor w
  go_enter Tryz.func57, Tryz.ntmps57
  go_wp2_with fail
  go_ret
  exact ⟨rfl, rfl⟩
theorem isNaN_m5 (w : World) : Calls Tryz.prog 16 #[.float .f64 13840687554816376832] w fun e w' => e = .returned (.bool false) ∧ w = w' := isNaN_no 13840687554816376832 (by rfl) w
theorem isNaN_inf (w : World) : Calls Tryz.prog 16 #[.float .f64 9218868437227405312] w fun e w' => e = .returned (.bool false) ∧ w = w' := isNaN_no 9218868437227405312 (by rfl) w
theorem arith {P : Program} (op : BinOp) (t : TypeId) (x y r : Nat) (h : floatBits op .f64 x y = some r) (w : World) : (binOp op t (.float .f64 x) (.float .f64 y)).run P w = .ok (.float .f64 r) w := run_float_arith w op t .f64 x y r h
set_option maxRecDepth 100000 in
theorem divide_one (w : World) : Calls Tryz.prog 30 #[.float .f64 13840687554816376832, .float .f64 9218868437227405312] w fun e w' => e = .returned (.tuple #[.float .f64 13830554455654793216, .float .f64 9218868437227405312]) ∧ w = w' := by
  have a1 := fun W => arith (P := Tryz.prog) .sub 31 13840687554816376832 13840687554816376832 0 (by rfl) W
  have a2 := fun W => arith (P := Tryz.prog) .quo 31 0 9218868437227405312 0 (by rfl) W
  have a3 := fun W => arith (P := Tryz.prog) .add 31 13840687554816376832 9218868437227405312 9218868437227405312 (by rfl) W
  have a4 := fun W => arith (P := Tryz.prog) .sub 31 0 4607182418800017408 13830554455654793216 (by rfl) W
  have a5 := fun W => arith (P := Tryz.prog) .sub 31 13830554455654793216 13830554455654793216 0 (by rfl) W
  have h1 : (FloatKind.f64.format.order 13840687554816376832 0 == some .eq) = false := by rfl
  have h2 : (FloatKind.f64.format.order 13840687554816376832 0 == some .lt) = true := by rfl
  have h3 : (FloatKind.f64.format.order 9218868437227405312 0 == some .lt) = false := by rfl
  have h4 : (FloatKind.f64.format.order 13830554455654793216 0 == some .eq) = false := by rfl
  have h5 : (FloatKind.f64.format.order 0 4602678819172646912 == some .gt) = false := by rfl
  go_enter Tryz.func30, Tryz.ntmps30
  go_wp2_with (first
    | (go_at_call 16; first | ((with_reducible refine (isNaN_m5 _).mono ?_); rintro e w9 ⟨rfl, rfl⟩) | ((with_reducible refine (isNaN_inf _).mono ?_); rintro e w9 ⟨rfl, rfl⟩))
    | (go_at_call 18; first | ((with_reducible refine (inf_m5 _).mono ?_); rintro e w9 ⟨rfl, rfl⟩) | ((with_reducible refine (inf_m1 _).mono ?_); rintro e w9 ⟨rfl, rfl⟩))
    | (go_at_call 55; (with_reducible refine (Mod_one _).mono ?_); rintro e w9 ⟨rfl, rfl⟩)
    | (go_at_call 57; (with_reducible refine (floor_m1 _).mono ?_); rintro e w9 ⟨rfl, rfl⟩)
    | fail)
  go_ret2
  exact ⟨rfl, rfl⟩
theorem number_m5 (w : World) : Calls Tryz.prog 9 #[.int .u64 13840687554816376832] w fun e w' => e = .returned (.float .f64 13840687554816376832) ∧ w = w' := number_any 13840687554816376832 w
theorem number_inf (w : World) : Calls Tryz.prog 9 #[.int .u64 9218868437227405312] w fun e w' => e = .returned (.float .f64 9218868437227405312) ∧ w = w' := number_any 9218868437227405312 w
theorem pattern_inf (w : World) : Calls Tryz.prog 21 #[.float .f64 9218868437227405312] w fun e w' => e = .returned (.int .u64 9218868437227405312) ∧ w = w' := by
  refine (pattern_any 9218868437227405312 w).mono ?_
  rintro e w' ⟨rfl, rfl⟩
  exact ⟨by rfl, rfl⟩
set_option maxRecDepth 100000 in
theorem rmod_one (w : World) : Calls Tryz.prog 13 #[.int .u64 13840687554816376832, .int .u64 9218868437227405312] w fun e w' => e = .returned (.tuple #[.int .u64 9218868437227405312, .int .i64 0]) ∧ w = w' := by
  have h1 : (FloatKind.f64.format.order 9218868437227405312 0 == some .eq) = false := by rfl
  go_enter Tryz.func13, Tryz.ntmps13
  go_wp2_with (first
    | (go_at_call 9; first | ((with_reducible refine (number_m5 _).mono ?_); rintro e w9 ⟨rfl, rfl⟩) | ((with_reducible refine (number_inf _).mono ?_); rintro e w9 ⟨rfl, rfl⟩))
    | (go_at_call 30; (with_reducible refine (divide_one _).mono ?_); rintro e w9 ⟨rfl, rfl⟩)
    | (go_at_call 21; (with_reducible refine (pattern_inf _).mono ?_); rintro e w9 ⟨rfl, rfl⟩)
    | fail)
  go_ret2
  exact ⟨rfl, rfl⟩
set_option maxRecDepth 100000 in
theorem known03 (w : World) (ht : PT w) (hp : P10R w) : Calls Tryz.prog 6 #[] w fun e w' => e = .returned (.bool true) ∧ Below w.heap.size w w' := by
  have HT := Lib.hid (text_one w ht hp)
  clear ht hp
  go_enter Tryz.func6, Tryz.ntmps6
  go_wp2_with (first
    | (go_at_call 13; (with_reducible refine (rmod_one _).mono ?_); rintro e w9 ⟨rfl, rfl⟩)
    | (go_at_call 14; (with_reducible refine (parse_nan _).mono ?_); rintro e w9 ⟨rfl, rfl⟩)
    | (go_at_call 15; first | ((with_reducible refine (text_sign _).mono ?_); rintro e w9 ⟨rfl, rfl⟩) | ((with_reducible refine HT.out.mono ?_); rintro e w1 ⟨rfl, hb⟩; have HB := Lib.hid hb; clear hb))
    | fail)
  go_ret
  exact ⟨rfl, HB.out⟩
end
section
open Go Go.ChangeShapes Go.WideShapes Go.RowKit
set_option linter.unusedVariables false
set_option linter.unusedSimpArgs false
theorem andNot_u (b : Nat) (hb : b < 18446744073709551616) : bits .andNot .u64 (b : Int) 9223372036854775808 = ((b % fSG : Nat) : Int) := by
  have h := u64_andNot_nat b 9223372036854775808 hb (by omega)
  rw [show (18446744073709551615 - 9223372036854775808 : Nat) = 9223372036854775807 from rfl, and_low63] at h
  exact h
theorem inf_d (b : Nat) (hn : nanB b = false) : (FloatKind.f64.format.order (b % fSG) 9218868437227405311 == some .gt) = infB b := by
  have e1 : fSG = 9223372036854775808 := rfl
  have e2 : fIN = 9218868437227405312 := rfl
  have h1 : nanB (b % fSG) = false := by unfold nanB at hn ⊢; rw [Nat.mod_mod]; exact hn
  have h2 : nanB 9218868437227405311 = false := by decide +kernel
  have h3 : placeZ 9218868437227405311 = 9218868437227405311 := by decide +kernel
  have h4 : placeZ (b % fSG) = ((b % fSG : Nat) : Int) := by
    unfold placeZ negB
    rw [Nat.mod_mod, Nat.div_eq_of_lt (Nat.mod_lt b (by decide)), if_neg (by decide)]
  rw [fmt_double, gt_d h1 h2, h3, h4]
  unfold infB
  unfold nanB at hn
  rw [decide_eq_false_iff_not] at hn
  rw [Bool.eq_iff_iff, decide_eq_true_eq, decide_eq_true_eq]
  omega
theorem isInf0 (b : Nat) (hb : b < 18446744073709551616) (hn : nanB b = false) (w : World) : Calls Tryz.prog 18 #[.float .f64 b, .int .i64 0] w fun e w' => e = .returned (.bool (infB b)) ∧ w = w' :=
  isInf_two b (b % fSG) (infB b) (andNot_u b hb) (inf_d b hn) w
theorem and_sign (b : Nat) (hb : b < 18446744073709551616) : bits .and .u64 (b : Int) 9223372036854775808 = if negB b = true then 9223372036854775808 else 0 := by
  have h := u64_and_nat b 9223372036854775808 hb (by omega)
  rw [show b &&& 9223372036854775808 = if negB b = true then 9223372036854775808 else 0 from ?_] at h
  · refine Eq.trans h ?_
    split <;> rfl
  · have e1 : (b &&& 9223372036854775808) % 2 ^ 63 = 0 := by rw [Nat.and_mod_two_pow]; simp
    have e2 : (b &&& 9223372036854775808) / 2 ^ 63 = (b / 2 ^ 63) &&& 1 := by rw [Nat.and_div_two_pow]
    have e3 : fSG = 9223372036854775808 := rfl
    have h2 : b / 2 ^ 63 = 0 ∨ b / 2 ^ 63 = 1 := by omega
    unfold negB
    simp only [beq_iff_eq, e3]
    rcases h2 with h2 | h2
    · rw [h2, show (0 &&& 1 : Nat) = 0 from rfl] at e2
      rw [if_neg (by omega)]; omega
    · rw [h2, show (1 &&& 1 : Nat) = 1 from rfl] at e2
      rw [if_pos (by omega)]; omega
set_option maxRecDepth 100000 in
theorem signed_any (b : Nat) (hb : b < 18446744073709551616) (w : World) : Calls Tryz.prog 35 #[.float .f64 b] w fun e w' => e = .returned (.bool (negB b)) ∧ w = w' := by
  have h2 := run_f64bits b w
  have h3 := and_sign b hb
  cases hn : negB b
  · rw [hn, if_neg (by simp)] at h3
    clear hn
    go_enter Tryz.func35, Tryz.ntmps35
    go_wp2_with fail
    go_ret
    exact ⟨by rfl, rfl⟩
  · rw [hn, if_pos rfl] at h3
    clear hn
    go_enter Tryz.func35, Tryz.ntmps35
    go_wp2_with fail
    go_ret
    exact ⟨by rfl, rfl⟩
end
end Go.Proofs.YtadcbefjelmodaaGreatDoor
