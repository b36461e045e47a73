/- Layer 3: the chapter's examples, run: Mod. -/
import Derived.Test.YtdkbhliafilghaaGreatDoorRlZ
namespace Go.Proofs.YtdkbhliafilghaaGreatDoor
open Go Go.ChangeShapes Go.WideShapes Go.RowKit
set_option linter.unusedVariables false
set_option linter.unusedSimpArgs false
set_option maxRecDepth 100000 in
theorem mIsNaN_no (b : Nat) (h : (FloatKind.f64.format.order b b != some .eq) = false) (w : World) : Calls Tryz.prog 56 #[.float .f64 b] w fun e w' => e = .returned (.bool false) ∧ w = w' := by
  go_enter Tryz.func56, Tryz.ntmps56
  go_wp2_with fail
  go_ret
  exact ⟨rfl, rfl⟩
theorem inf_inf (w : World) : Calls Tryz.prog 18 #[.float .f64 9218868437227405312, .int .i64 0] w fun e w' => e = .returned (.bool true) ∧ w = w' := isInf_two 9218868437227405312 9218868437227405312 true (by rfl) (by rfl) w
theorem inf_m5 (w : World) : Calls Tryz.prog 18 #[.float .f64 13840687554816376832, .int .i64 0] w fun e w' => e = .returned (.bool false) ∧ w = w' := isInf_two 13840687554816376832 4617315517961601024 false (by rfl) (by rfl) w
theorem inf_m1 (w : World) : Calls Tryz.prog 18 #[.float .f64 13830554455654793216, .int .i64 0] w fun e w' => e = .returned (.bool false) ∧ w = w' := isInf_two 13830554455654793216 4607182418800017408 false (by rfl) (by rfl) w
theorem abs_inf (w : World) : Calls Tryz.prog 41 #[.float .f64 9218868437227405312] w fun e w' => e = .returned (.float .f64 9218868437227405312) ∧ w = w' := abs_one 9218868437227405312 9218868437227405312 (by rfl) w
theorem nanm_m5 (w : World) : Calls Tryz.prog 56 #[.float .f64 13840687554816376832] w fun e w' => e = .returned (.bool false) ∧ w = w' := mIsNaN_no 13840687554816376832 (by rfl) w
theorem nanm_inf (w : World) : Calls Tryz.prog 56 #[.float .f64 9218868437227405312] w fun e w' => e = .returned (.bool false) ∧ w = w' := mIsNaN_no 9218868437227405312 (by rfl) w
set_option maxRecDepth 100000 in
theorem frexp_inf (w : World) : Calls Tryz.prog 72 #[.float .f64 9218868437227405312] w fun e w' => e = .returned (.tuple #[.float .f64 9218868437227405312, .int .i64 0]) ∧ w = w' := by
  have h1 : (FloatKind.f64.format.order 9218868437227405312 0 == some .eq) = false := by rfl
  go_enter Tryz.func72, Tryz.ntmps72
  go_wp2_with (first
    | (go_at_call 18; (with_reducible refine (inf_inf _).mono ?_); rintro e w9 ⟨rfl, rfl⟩)
    | fail)
  go_ret2
  exact ⟨rfl, rfl⟩
set_option maxRecDepth 100000 in
theorem Frexp_inf (w : World) : Calls Tryz.prog 58 #[.float .f64 9218868437227405312] w fun e w' => e = .returned (.tuple #[.float .f64 9218868437227405312, .int .i64 0]) ∧ w = w' := by
  go_enter Tryz.func58, Tryz.ntmps58
  go_wp2_with (first
    | (go_at_call 72; (with_reducible refine (frexp_inf _).mono ?_); rintro e w9 ⟨rfl, rfl⟩)
    | fail)
  go_ret2
  exact ⟨rfl, rfl⟩
set_option maxRecDepth 100000 in
theorem mod_one (w : World) : Calls Tryz.prog 43 #[.float .f64 13840687554816376832, .float .f64 9218868437227405312] w fun e w' => e = .returned (.float .f64 13840687554816376832) ∧ w = w' := by
  have h1 : (FloatKind.f64.format.order 9218868437227405312 0 == some .eq) = false := by rfl
  have h2 : (FloatKind.f64.format.order 13840687554816376832 0 == some .lt) = true := by rfl
  have h3 : ∀ W, (Op.unary UnOp.neg (.float .f64 13840687554816376832)).run Tryz.prog W = .ok (.float .f64 4617315517961601024) W := fun _ => by rfl
  have h4 : ∀ W, (Op.unary UnOp.neg (.float .f64 4617315517961601024)).run Tryz.prog W = .ok (.float .f64 13840687554816376832) W := fun _ => by rfl
  have h5 : (FloatKind.f64.format.order 4617315517961601024 9218868437227405312 == some .gt) = false := by rfl
  have h6 : (FloatKind.f64.format.order 4617315517961601024 9218868437227405312 == some .eq) = false := by rfl
  go_enter Tryz.func43, Tryz.ntmps43
  go_wp2_with (first
    | (go_at_call 18; (with_reducible refine (inf_m5 _).mono ?_); rintro e w9 ⟨rfl, rfl⟩)
    | (go_at_call 56; first | ((with_reducible refine (nanm_m5 _).mono ?_); rintro e w9 ⟨rfl, rfl⟩) | ((with_reducible refine (nanm_inf _).mono ?_); rintro e w9 ⟨rfl, rfl⟩))
    | (go_at_call 41; (with_reducible refine (abs_inf _).mono ?_); rintro e w9 ⟨rfl, rfl⟩)
    | (go_at_call 58; (with_reducible refine (Frexp_inf _).mono ?_); rintro e w9 ⟨rfl, rfl⟩)
    | fail)
  go_loopw [7] (fun s7 wr => s7 = .float .f64 4617315517961601024 ∧ w = wr) (fun s7 wr => 0)
  case atStart => exact ⟨rfl, rfl⟩
  case round =>
    obtain ⟨rfl, rfl⟩ := hrel
    go_wp2_with fail
    go_ret
    exact ⟨rfl, rfl⟩
theorem Mod_one (w : World) : Calls Tryz.prog 19 #[.float .f64 13840687554816376832, .float .f64 9218868437227405312] w fun e w' => e = .returned (.float .f64 13840687554816376832) ∧ w = w' := by
  go_enter Tryz.func19, Tryz.ntmps19
  go_wp2_with (first
    | (go_at_call 43; (with_reducible refine (mod_one _).mono ?_); rintro e w9 ⟨rfl, rfl⟩)
    | fail)
  go_ret
  exact ⟨rfl, rfl⟩
set_option maxRecDepth 100000 in
theorem run_afloor (w : World) : (callFunc 44 #[.float .f64 13830554455654793216]).run Tryz.prog w = .ok (.value (.float .f64 13830554455654793216)) w := by
  rw [run_callFunc_extern Tryz.func44 (by kernel_rfl) (by kernel_rfl) (by kernel_rfl) (e := Extern.MathFloor.toIntegral "math.archFloor" .down) (by kernel_rfl)]
  rfl
set_option maxRecDepth 100000 in
theorem floor_m1 (w : World) : Calls Tryz.prog 21 #[.float .f64 13830554455654793216] w fun e w' => e = .returned (.float .f64 13830554455654793216) ∧ w = w' := by
  have h1 := run_afloor w
  go_enter Tryz.func21, Tryz.ntmps21
  go_wp2_with fail
  go_ret
  exact ⟨rfl, rfl⟩
theorem isNaN_m5 (w : World) : Calls Tryz.prog 17 #[.float .f64 13840687554816376832] w fun e w' => e = .returned (.bool false) ∧ w = w' := isNaN_no 13840687554816376832 (by rfl) w
theorem isNaN_inf (w : World) : Calls Tryz.prog 17 #[.float .f64 9218868437227405312] w fun e w' => e = .returned (.bool false) ∧ w = w' := isNaN_no 9218868437227405312 (by rfl) w
theorem arith {P : Program} (op : BinOp) (t : TypeId) (x y r : Nat) (h : floatBits op .f64 x y = some r) (w : World) : (binOp op t (.float .f64 x) (.float .f64 y)).run P w = .ok (.float .f64 r) w := run_float_arith w op t .f64 x y r h
set_option maxRecDepth 100000 in
theorem divide_one (w : World) : Calls Tryz.prog 10 #[.float .f64 13840687554816376832, .float .f64 9218868437227405312] w fun e w' => e = .returned (.tuple #[.float .f64 13830554455654793216, .float .f64 9218868437227405312]) ∧ w = w' := by
  have a1 := fun W => arith (P := Tryz.prog) .sub 30 13840687554816376832 13840687554816376832 0 (by rfl) W
  have a2 := fun W => arith (P := Tryz.prog) .quo 30 0 9218868437227405312 0 (by rfl) W
  have a3 := fun W => arith (P := Tryz.prog) .add 30 13840687554816376832 9218868437227405312 9218868437227405312 (by rfl) W
  have a4 := fun W => arith (P := Tryz.prog) .sub 30 0 4607182418800017408 13830554455654793216 (by rfl) W
  have a5 := fun W => arith (P := Tryz.prog) .sub 30 13830554455654793216 13830554455654793216 0 (by rfl) W
  have h1 : (FloatKind.f64.format.order 13840687554816376832 0 == some .eq) = false := by rfl
  have h2 : (FloatKind.f64.format.order 13840687554816376832 0 == some .lt) = true := by rfl
  have h3 : (FloatKind.f64.format.order 9218868437227405312 0 == some .lt) = false := by rfl
  have h4 : (FloatKind.f64.format.order 13830554455654793216 0 == some .eq) = false := by rfl
  have h5 : (FloatKind.f64.format.order 0 4602678819172646912 == some .gt) = false := by rfl
  go_enter Tryz.func10, Tryz.ntmps10
  go_wp2_with (first
    | (go_at_call 17; first | ((with_reducible refine (isNaN_m5 _).mono ?_); rintro e w9 ⟨rfl, rfl⟩) | ((with_reducible refine (isNaN_inf _).mono ?_); rintro e w9 ⟨rfl, rfl⟩))
    | (go_at_call 18; first | ((with_reducible refine (inf_m5 _).mono ?_); rintro e w9 ⟨rfl, rfl⟩) | ((with_reducible refine (inf_m1 _).mono ?_); rintro e w9 ⟨rfl, rfl⟩))
    | (go_at_call 19; (with_reducible refine (Mod_one _).mono ?_); rintro e w9 ⟨rfl, rfl⟩)
    | (go_at_call 21; (with_reducible refine (floor_m1 _).mono ?_); rintro e w9 ⟨rfl, rfl⟩)
    | fail)
  go_ret2
  exact ⟨rfl, rfl⟩
theorem number_m5 (w : World) : Calls Tryz.prog 9 #[.int .u64 13840687554816376832] w fun e w' => e = .returned (.float .f64 13840687554816376832) ∧ w = w' := number_any 13840687554816376832 w
theorem number_inf (w : World) : Calls Tryz.prog 9 #[.int .u64 9218868437227405312] w fun e w' => e = .returned (.float .f64 9218868437227405312) ∧ w = w' := number_any 9218868437227405312 w
theorem pattern_inf (w : World) : Calls Tryz.prog 11 #[.float .f64 9218868437227405312] w fun e w' => e = .returned (.int .u64 9218868437227405312) ∧ w = w' := by
  refine (pattern_any 9218868437227405312 w).mono ?_
  rintro e w' ⟨rfl, rfl⟩
  exact ⟨by rfl, rfl⟩
set_option maxRecDepth 100000 in
theorem rmod_one (w : World) : Calls Tryz.prog 6 #[.int .u64 13840687554816376832, .int .u64 9218868437227405312] w fun e w' => e = .returned (.tuple #[.int .u64 9218868437227405312, .int .i64 0]) ∧ w = w' := by
  have h1 : (FloatKind.f64.format.order 9218868437227405312 0 == some .eq) = false := by rfl
  go_enter Tryz.func6, Tryz.ntmps6
  go_wp2_with (first
    | (go_at_call 9; first | ((with_reducible refine (number_m5 _).mono ?_); rintro e w9 ⟨rfl, rfl⟩) | ((with_reducible refine (number_inf _).mono ?_); rintro e w9 ⟨rfl, rfl⟩))
    | (go_at_call 10; (with_reducible refine (divide_one _).mono ?_); rintro e w9 ⟨rfl, rfl⟩)
    | (go_at_call 11; (with_reducible refine (pattern_inf _).mono ?_); rintro e w9 ⟨rfl, rfl⟩)
    | fail)
  go_ret2
  exact ⟨rfl, rfl⟩
set_option maxRecDepth 100000 in
theorem known03 (w : World) (ht : PT w) (hp : P10R w) : Calls Tryz.prog 8 #[] w fun e w' => e = .returned (.bool true) ∧ Below w.heap.size w w' := by
  have HT := Lib.hid (text_one w ht hp)
  clear ht hp
  go_enter Tryz.func8, Tryz.ntmps8
  go_wp2_with (first
    | (go_at_call 6; (with_reducible refine (rmod_one _).mono ?_); rintro e w9 ⟨rfl, rfl⟩)
    | (go_at_call 14; (with_reducible refine (parse_nan _).mono ?_); rintro e w9 ⟨rfl, rfl⟩)
    | (go_at_call 15; first | ((with_reducible refine (text_sign _).mono ?_); rintro e w9 ⟨rfl, rfl⟩) | ((with_reducible refine HT.out.mono ?_); rintro e w1 ⟨rfl, hb⟩; have HB := Lib.hid hb; clear hb))
    | fail)
  go_ret
  exact ⟨rfl, HB.out⟩
end Go.Proofs.YtdkbhliafilghaaGreatDoor
