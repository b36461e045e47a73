/- Layer 3: the chapter's examples, run: Text. Layer 3: the chapter's examples, run: Mod. -/
import Derived.Test.YtbhommcpgejbfaaGreatDoorPGRlE
import Derived.Test.YtbhommcpgejbfaaGreatDoorPGRlG
namespace Go.Proofs.YtbhommcpgejbfaaGreatDoor
section
open Go Go.ChangeShapes Go.WideShapes Go.RowKit
set_option linter.unusedVariables false
set_option linter.unusedSimpArgs false
theorem number_one (w : World) : Calls Tryz.prog 23 #[.int .u64 4607182418800017408] w fun e w' => e = .returned (.float .f64 4607182418800017408) ∧ w = w' := number_any 4607182418800017408 w
theorem number_sg (w : World) : Calls Tryz.prog 23 #[.int .u64 9223372036854775808] w fun e w' => e = .returned (.float .f64 9223372036854775808) ∧ w = w' := number_any 9223372036854775808 w
theorem isNaN_no (b : Nat) (h : nanB b = false) (w : World) : Calls Tryz.prog 24 #[.float .f64 b] w fun e w' => e = .returned (.bool false) ∧ w = w' := by
  refine (isNaN_any b w).mono ?_
  rintro e w' ⟨rfl, rfl⟩
  exact ⟨by rw [h], rfl⟩
set_option maxRecDepth 100000 in
theorem contains_one (w : World) : Calls Tryz.prog 49 #[.string ⟨#[49]⟩, .string ⟨#[46]⟩] w fun e w' => e = .returned (.bool false) ∧ w = w' := by
  refine (Tryz.strings_Contains_one ⟨#[49]⟩ 46 w).mono ?_
  rintro e w' ⟨rfl, rfl⟩
  exact ⟨by rw [show decide (0 ≤ Lib.indexByte [49] 46) = false by decide +kernel], rfl⟩
set_option maxRecDepth 100000 in
theorem text_one (w : World) (ht : PT w) (hp : P10R w) : Calls Tryz.prog 22 #[.int .u64 4607182418800017408] w fun e w' => e = .returned (.string ⟨#[49, 46, 48]⟩) ∧ Below w.heap.size w w' := by
  have h1 : (FloatKind.f64.format.order 4607182418800017408 0 == some .eq) = false := by rfl
  have HN := Lib.hid (fun W => isNaN_no 4607182418800017408 (by rfl) W)
  have HU := Lib.hid (fun W => isInf_up 4607182418800017408 false (by rfl) W)
  have HD := Lib.hid (fun W => isInf_dn 4607182418800017408 13830554455654793216 false (fun _ => by rfl) (by rfl) W)
  have HE := Lib.hid (formatE_one w ht hp)
  have HT := Lib.hid ht
  have HP := Lib.hid hp
  clear ht hp
  go_enter Tryz.func22, Tryz.ntmps22
  go_wp2_with (first
    | (go_at_call 23; (with_reducible refine (number_one _).mono ?_); rintro e w9 ⟨rfl, rfl⟩)
    | (go_at_call 24; (with_reducible refine (HN.out _).mono ?_); rintro e w9 ⟨rfl, rfl⟩)
    | (go_at_call 13; first | ((with_reducible refine (HU.out _).mono ?_); rintro e w9 ⟨rfl, rfl⟩) | ((with_reducible refine (HD.out _).mono ?_); rintro e w9 ⟨rfl, rfl⟩))
    | (go_at_call 46; (with_reducible refine HE.out.mono ?_); rintro e w1 ⟨rfl, hb⟩; have HB1 := Lib.hid hb; clear hb HE)
    | (go_at_call 47; (with_reducible refine (cut_one _).mono ?_); rintro e w2 ⟨rfl, hb⟩; have HB2 := Lib.hid (HB1.out.trans (hb.mono HB1.out.size)); clear hb)
    | (go_at_call 48; (with_reducible refine (atoi_one _).mono ?_); rintro e w3 ⟨rfl, hb⟩; have HB3 := Lib.hid (HB2.out.trans (hb.mono HB2.out.size)); have HF := Lib.hid (formatF_one w3 (HT.out.keep HB3.out) (HP.out.keep HB3.out)); clear hb)
    | (go_at_call 46; (with_reducible refine HF.out.mono ?_); rintro e w4 ⟨rfl, hb⟩; have HB4 := Lib.hid (HB3.out.trans (hb.mono HB3.out.size)); clear hb HF)
    | (go_at_call 49; (with_reducible refine (contains_one _).mono ?_); rintro e w9 ⟨rfl, rfl⟩)
    | fail)
  go_ret
  exact ⟨rfl, HB4.out⟩
set_option maxRecDepth 100000 in
theorem text_sign (w : World) : Calls Tryz.prog 22 #[.int .u64 9223372036854775808] w fun e w' => e = .returned (.string ⟨#[45, 48, 46, 48]⟩) ∧ w = w' := by
  have h1 : (FloatKind.f64.format.order 9223372036854775808 0 == some .eq) = true := by rfl
  have h2 := run_f64bits 9223372036854775808
  have h3 : bits BinOp.and .u64 9223372036854775808 9223372036854775808 = 9223372036854775808 := by rfl
  have HN := Lib.hid (fun W => isNaN_no 9223372036854775808 (by rfl) W)
  have HU := Lib.hid (fun W => isInf_up 9223372036854775808 false (by rfl) W)
  have HD := Lib.hid (fun W => isInf_dn 9223372036854775808 0 false (fun _ => by rfl) (by rfl) W)
  have HS : Hid (∀ W, Calls Tryz.prog 31 #[.float .f64 9223372036854775808] W fun e w' => e = .returned (.bool true) ∧ W = w') := Lib.hid (fun W => by
    have h2 := run_f64bits 9223372036854775808 W
    have h3 : bits BinOp.and .u64 9223372036854775808 9223372036854775808 = 9223372036854775808 := by rfl
    go_enter Tryz.func31, Tryz.ntmps31
    go_wp2_with fail
    go_ret
    exact ⟨by rfl, rfl⟩)
  go_enter Tryz.func22, Tryz.ntmps22
  go_wp2_with (first
    | (go_at_call 23; (with_reducible refine (number_sg _).mono ?_); rintro e w9 ⟨rfl, rfl⟩)
    | (go_at_call 24; (with_reducible refine (HN.out _).mono ?_); rintro e w9 ⟨rfl, rfl⟩)
    | (go_at_call 13; first | ((with_reducible refine (HU.out _).mono ?_); rintro e w9 ⟨rfl, rfl⟩) | ((with_reducible refine (HD.out _).mono ?_); rintro e w9 ⟨rfl, rfl⟩))
    | (go_at_call 31; (with_reducible refine (HS.out _).mono ?_); rintro e w9 ⟨rfl, rfl⟩)
    | fail)
  go_ret
  exact ⟨rfl, rfl⟩
set_option maxRecDepth 100000 in
theorem parse_nan (w : World) : Calls Tryz.prog 21 #[.string ⟨#[45, 110, 97, 110]⟩] w fun e w' => e = .returned (.tuple #[.int .u64 9221120237041090560, .int .i64 0]) ∧ w = w' := by
  have hc : Calls Tryz.prog 43 #[.string ⟨#[45, 110, 97, 110]⟩, .string ⟨#[45]⟩] w fun e w' => e = .returned (.tuple #[.string ⟨#[110, 97, 110]⟩, .bool true]) ∧ w = w' := by
    refine (Tryz.strings_CutPrefix ⟨#[45, 110, 97, 110]⟩ ⟨#[45]⟩ w).mono ?_
    rintro e w' ⟨rfl, rfl⟩
    exact ⟨by rfl, rfl⟩
  have HC := Lib.hid hc
  clear hc
  go_enter Tryz.func21, Tryz.ntmps21
  go_wp2_with (first
    | (go_at_call 43; (with_reducible refine HC.out.mono ?_); rintro e w9 ⟨rfl, rfl⟩)
    | fail)
  go_ret2
  exact ⟨rfl, rfl⟩
end
section
open Go Go.ChangeShapes Go.WideShapes Go.RowKit
set_option linter.unusedVariables false
set_option linter.unusedSimpArgs false
set_option maxRecDepth 100000 in
theorem mIsNaN_no (b : Nat) (h : (FloatKind.f64.format.order b b != some .eq) = false) (w : World) : Calls Tryz.prog 123 #[.float .f64 b] w fun e w' => e = .returned (.bool false) ∧ w = w' := by
  go_enter Tryz.func123, Tryz.ntmps123
  go_wp2_with fail
  go_ret
  exact ⟨rfl, rfl⟩
theorem inf_inf (w : World) : Calls Tryz.prog 13 #[.float .f64 9218868437227405312, .int .i64 0] w fun e w' => e = .returned (.bool true) ∧ w = w' := isInf_two 9218868437227405312 9218868437227405312 true (by rfl) (by rfl) w
theorem inf_m5 (w : World) : Calls Tryz.prog 13 #[.float .f64 13840687554816376832, .int .i64 0] w fun e w' => e = .returned (.bool false) ∧ w = w' := isInf_two 13840687554816376832 4617315517961601024 false (by rfl) (by rfl) w
theorem inf_m1 (w : World) : Calls Tryz.prog 13 #[.float .f64 13830554455654793216, .int .i64 0] w fun e w' => e = .returned (.bool false) ∧ w = w' := isInf_two 13830554455654793216 4607182418800017408 false (by rfl) (by rfl) w
theorem abs_inf (w : World) : Calls Tryz.prog 26 #[.float .f64 9218868437227405312] w fun e w' => e = .returned (.float .f64 9218868437227405312) ∧ w = w' := abs_one 9218868437227405312 9218868437227405312 (by rfl) w
theorem nanm_m5 (w : World) : Calls Tryz.prog 123 #[.float .f64 13840687554816376832] w fun e w' => e = .returned (.bool false) ∧ w = w' := mIsNaN_no 13840687554816376832 (by rfl) w
theorem nanm_inf (w : World) : Calls Tryz.prog 123 #[.float .f64 9218868437227405312] w fun e w' => e = .returned (.bool false) ∧ w = w' := mIsNaN_no 9218868437227405312 (by rfl) w
set_option maxRecDepth 100000 in
theorem frexp_inf (w : World) : Calls Tryz.prog 163 #[.float .f64 9218868437227405312] w fun e w' => e = .returned (.tuple #[.float .f64 9218868437227405312, .int .i64 0]) ∧ w = w' := by
  have h1 : (FloatKind.f64.format.order 9218868437227405312 0 == some .eq) = false := by rfl
  go_enter Tryz.func163, Tryz.ntmps163
  go_wp2_with (first
    | (go_at_call 13; (with_reducible refine (inf_inf _).mono ?_); rintro e w9 ⟨rfl, rfl⟩)
    | fail)
  go_ret2
  exact ⟨rfl, rfl⟩
set_option maxRecDepth 100000 in
theorem Frexp_inf (w : World) : Calls Tryz.prog 125 #[.float .f64 9218868437227405312] w fun e w' => e = .returned (.tuple #[.float .f64 9218868437227405312, .int .i64 0]) ∧ w = w' := by
  go_enter Tryz.func125, Tryz.ntmps125
  go_wp2_with (first
    | (go_at_call 163; (with_reducible refine (frexp_inf _).mono ?_); rintro e w9 ⟨rfl, rfl⟩)
    | fail)
  go_ret2
  exact ⟨rfl, rfl⟩
set_option maxRecDepth 100000 in
theorem mod_one (w : World) : Calls Tryz.prog 93 #[.float .f64 13840687554816376832, .float .f64 9218868437227405312] w fun e w' => e = .returned (.float .f64 13840687554816376832) ∧ w = w' := by
  have h1 : (FloatKind.f64.format.order 9218868437227405312 0 == some .eq) = false := by rfl
  have h2 : (FloatKind.f64.format.order 13840687554816376832 0 == some .lt) = true := by rfl
  have h3 : ∀ W, (Op.unary UnOp.neg (.float .f64 13840687554816376832)).run Tryz.prog W = .ok (.float .f64 4617315517961601024) W := fun _ => by rfl
  have h4 : ∀ W, (Op.unary UnOp.neg (.float .f64 4617315517961601024)).run Tryz.prog W = .ok (.float .f64 13840687554816376832) W := fun _ => by rfl
  have h5 : (FloatKind.f64.format.order 4617315517961601024 9218868437227405312 == some .gt) = false := by rfl
  have h6 : (FloatKind.f64.format.order 4617315517961601024 9218868437227405312 == some .eq) = false := by rfl
  go_enter Tryz.func93, Tryz.ntmps93
  go_wp2_with (first
    | (go_at_call 13; (with_reducible refine (inf_m5 _).mono ?_); rintro e w9 ⟨rfl, rfl⟩)
    | (go_at_call 123; first | ((with_reducible refine (nanm_m5 _).mono ?_); rintro e w9 ⟨rfl, rfl⟩) | ((with_reducible refine (nanm_inf _).mono ?_); rintro e w9 ⟨rfl, rfl⟩))
    | (go_at_call 26; (with_reducible refine (abs_inf _).mono ?_); rintro e w9 ⟨rfl, rfl⟩)
    | (go_at_call 125; (with_reducible refine (Frexp_inf _).mono ?_); rintro e w9 ⟨rfl, rfl⟩)
    | fail)
  go_loopw [7] (fun s7 wr => s7 = .float .f64 4617315517961601024 ∧ w = wr) (fun s7 wr => 0)
  case atStart => exact ⟨rfl, rfl⟩
  case round =>
    obtain ⟨rfl, rfl⟩ := hrel
    go_wp2_with fail
    go_ret
    exact ⟨rfl, rfl⟩
theorem Mod_one (w : World) : Calls Tryz.prog 69 #[.float .f64 13840687554816376832, .float .f64 9218868437227405312] w fun e w' => e = .returned (.float .f64 13840687554816376832) ∧ w = w' := by
  go_enter Tryz.func69, Tryz.ntmps69
  go_wp2_with (first
    | (go_at_call 93; (with_reducible refine (mod_one _).mono ?_); rintro e w9 ⟨rfl, rfl⟩)
    | fail)
  go_ret
  exact ⟨rfl, rfl⟩
set_option maxRecDepth 100000 in
theorem run_afloor (w : World) : (callFunc 94 #[.float .f64 13830554455654793216]).run Tryz.prog w = .ok (.value (.float .f64 13830554455654793216)) w := by
  rw [run_callFunc_extern Tryz.func94 (by kernel_rfl) (by kernel_rfl) (by kernel_rfl) (e := Extern.MathFloor.toIntegral "math.archFloor" .down) (by kernel_rfl)]
  rfl
set_option maxRecDepth 100000 in
theorem floor_m1 (w : World) : Calls Tryz.prog 71 #[.float .f64 13830554455654793216] w fun e w' => e = .returned (.float .f64 13830554455654793216) ∧ w = w' := by
  have h1 := run_afloor w
  go_enter Tryz.func71, Tryz.ntmps71
  go_wp2_with fail
  go_ret
  exact ⟨rfl, rfl⟩
theorem isNaN_m5 (w : World) : Calls Tryz.prog 24 #[.float .f64 13840687554816376832] w fun e w' => e = .returned (.bool false) ∧ w = w' := isNaN_no 13840687554816376832 (by rfl) w
theorem isNaN_inf (w : World) : Calls Tryz.prog 24 #[.float .f64 9218868437227405312] w fun e w' => e = .returned (.bool false) ∧ w = w' := isNaN_no 9218868437227405312 (by rfl) w
theorem arith {P : Program} (op : BinOp) (t : TypeId) (x y r : Nat) (h : floatBits op .f64 x y = some r) (w : World) : (binOp op t (.float .f64 x) (.float .f64 y)).run P w = .ok (.float .f64 r) w := run_float_arith w op t .f64 x y r h
set_option maxRecDepth 100000 in
theorem divide_one (w : World) : Calls Tryz.prog 42 #[.float .f64 13840687554816376832, .float .f64 9218868437227405312] w fun e w' => e = .returned (.tuple #[.float .f64 13830554455654793216, .float .f64 9218868437227405312]) ∧ w = w' := by
  have a1 := fun W => arith (P := Tryz.prog) .sub 39 13840687554816376832 13840687554816376832 0 (by rfl) W
  have a2 := fun W => arith (P := Tryz.prog) .quo 39 0 9218868437227405312 0 (by rfl) W
  have a3 := fun W => arith (P := Tryz.prog) .add 39 13840687554816376832 9218868437227405312 9218868437227405312 (by rfl) W
  have a4 := fun W => arith (P := Tryz.prog) .sub 39 0 4607182418800017408 13830554455654793216 (by rfl) W
  have a5 := fun W => arith (P := Tryz.prog) .sub 39 13830554455654793216 13830554455654793216 0 (by rfl) W
  have h1 : (FloatKind.f64.format.order 13840687554816376832 0 == some .eq) = false := by rfl
  have h2 : (FloatKind.f64.format.order 13840687554816376832 0 == some .lt) = true := by rfl
  have h3 : (FloatKind.f64.format.order 9218868437227405312 0 == some .lt) = false := by rfl
  have h4 : (FloatKind.f64.format.order 13830554455654793216 0 == some .eq) = false := by rfl
  have h5 : (FloatKind.f64.format.order 0 4602678819172646912 == some .gt) = false := by rfl
  go_enter Tryz.func42, Tryz.ntmps42
  go_wp2_with (first
    | (go_at_call 24; first | ((with_reducible refine (isNaN_m5 _).mono ?_); rintro e w9 ⟨rfl, rfl⟩) | ((with_reducible refine (isNaN_inf _).mono ?_); rintro e w9 ⟨rfl, rfl⟩))
    | (go_at_call 13; first | ((with_reducible refine (inf_m5 _).mono ?_); rintro e w9 ⟨rfl, rfl⟩) | ((with_reducible refine (inf_m1 _).mono ?_); rintro e w9 ⟨rfl, rfl⟩))
    | (go_at_call 69; (with_reducible refine (Mod_one _).mono ?_); rintro e w9 ⟨rfl, rfl⟩)
    | (go_at_call 71; (with_reducible refine (floor_m1 _).mono ?_); rintro e w9 ⟨rfl, rfl⟩)
    | fail)
  go_ret2
  exact ⟨rfl, rfl⟩
theorem number_m5 (w : World) : Calls Tryz.prog 23 #[.int .u64 13840687554816376832] w fun e w' => e = .returned (.float .f64 13840687554816376832) ∧ w = w' := number_any 13840687554816376832 w
theorem number_inf (w : World) : Calls Tryz.prog 23 #[.int .u64 9218868437227405312] w fun e w' => e = .returned (.float .f64 9218868437227405312) ∧ w = w' := number_any 9218868437227405312 w
theorem pattern_inf (w : World) : Calls Tryz.prog 14 #[.float .f64 9218868437227405312] w fun e w' => e = .returned (.int .u64 9218868437227405312) ∧ w = w' := by
  refine (pattern_any 9218868437227405312 w).mono ?_
  rintro e w' ⟨rfl, rfl⟩
  exact ⟨by rfl, rfl⟩
set_option maxRecDepth 100000 in
theorem rmod_one (w : World) : Calls Tryz.prog 20 #[.int .u64 13840687554816376832, .int .u64 9218868437227405312] w fun e w' => e = .returned (.tuple #[.int .u64 9218868437227405312, .int .i64 0]) ∧ w = w' := by
  have h1 : (FloatKind.f64.format.order 9218868437227405312 0 == some .eq) = false := by rfl
  go_enter Tryz.func20, Tryz.ntmps20
  go_wp2_with (first
    | (go_at_call 23; first | ((with_reducible refine (number_m5 _).mono ?_); rintro e w9 ⟨rfl, rfl⟩) | ((with_reducible refine (number_inf _).mono ?_); rintro e w9 ⟨rfl, rfl⟩))
    | (go_at_call 42; (with_reducible refine (divide_one _).mono ?_); rintro e w9 ⟨rfl, rfl⟩)
    | (go_at_call 14; (with_reducible refine (pattern_inf _).mono ?_); rintro e w9 ⟨rfl, rfl⟩)
    | fail)
  go_ret2
  exact ⟨rfl, rfl⟩
set_option maxRecDepth 100000 in
theorem known03 (w : World) (ht : PT w) (hp : P10R w) : Calls Tryz.prog 6 #[] w fun e w' => e = .returned (.bool true) ∧ Below w.heap.size w w' := by
  have HT := Lib.hid (text_one w ht hp)
  clear ht hp
  go_enter Tryz.func6, Tryz.ntmps6
  go_wp2_with (first
    | (go_at_call 20; (with_reducible refine (rmod_one _).mono ?_); rintro e w9 ⟨rfl, rfl⟩)
    | (go_at_call 21; (with_reducible refine (parse_nan _).mono ?_); rintro e w9 ⟨rfl, rfl⟩)
    | (go_at_call 22; first | ((with_reducible refine (text_sign _).mono ?_); rintro e w9 ⟨rfl, rfl⟩) | ((with_reducible refine HT.out.mono ?_); rintro e w1 ⟨rfl, hb⟩; have HB := Lib.hid hb; clear hb))
    | fail)
  go_ret
  exact ⟨rfl, HB.out⟩
end
end Go.Proofs.YtbhommcpgejbfaaGreatDoor
