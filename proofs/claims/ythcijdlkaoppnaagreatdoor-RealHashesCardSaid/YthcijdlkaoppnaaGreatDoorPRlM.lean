/- Layer 3: the chapter's examples, run: Mod. -/
import Derived.Test.YthcijdlkaoppnaaGreatDoorPRlZ
namespace Go.Proofs.YthcijdlkaoppnaaGreatDoor
open Go Go.ChangeShapes Go.WideShapes Go.RowKit
set_option linter.unusedVariables false
set_option linter.unusedSimpArgs false
set_option maxRecDepth 100000 in
theorem abs_one (b c : Nat) (hc : bits BinOp.andNot .u64 (b : Int) 9223372036854775808 = (c : Int)) (w : World) : Calls Tryz.prog 35 #[.float .f64 b] w fun e w' => e = .returned (.float .f64 c) ∧ w = w' := by
  have h1 := run_f64bits b w
  have h2 := run_frombits c w
  go_enter Tryz.func35, Tryz.ntmps35
  go_wp2_with fail
  go_ret
  exact ⟨rfl, rfl⟩
set_option maxRecDepth 100000 in
theorem isInf_two (b c : Nat) (o : Bool) (hc : bits BinOp.andNot .u64 (b : Int) 9223372036854775808 = (c : Int)) (h : (FloatKind.f64.format.order c 9218868437227405311 == some .gt) = o) (w : World) : Calls Tryz.prog 14 #[.float .f64 b, .int .i64 0] w fun e w' => e = .returned (.bool o) ∧ w = w' := by
  have HA := Lib.hid (abs_one b c hc w)
  clear hc
  go_enter Tryz.func14, Tryz.ntmps14
  go_wp2_with (first
    | (go_at_call 35; (with_reducible refine HA.out.mono ?_); rintro e w9 ⟨rfl, rfl⟩)
    | fail)
  go_ret
  exact ⟨rfl, rfl⟩
set_option maxRecDepth 100000 in
theorem mIsNaN_no (b : Nat) (h : (FloatKind.f64.format.order b b != some .eq) = false) (w : World) : Calls Tryz.prog 63 #[.float .f64 b] w fun e w' => e = .returned (.bool false) ∧ w = w' := by
  go_enter Tryz.func63, Tryz.ntmps63
  go_wp2_with fail
  go_ret
  exact ⟨rfl, rfl⟩
theorem inf_inf (w : World) : Calls Tryz.prog 14 #[.float .f64 9218868437227405312, .int .i64 0] w fun e w' => e = .returned (.bool true) ∧ w = w' := isInf_two 9218868437227405312 9218868437227405312 true (by rfl) (by rfl) w
theorem inf_m5 (w : World) : Calls Tryz.prog 14 #[.float .f64 13840687554816376832, .int .i64 0] w fun e w' => e = .returned (.bool false) ∧ w = w' := isInf_two 13840687554816376832 4617315517961601024 false (by rfl) (by rfl) w
theorem inf_m1 (w : World) : Calls Tryz.prog 14 #[.float .f64 13830554455654793216, .int .i64 0] w fun e w' => e = .returned (.bool false) ∧ w = w' := isInf_two 13830554455654793216 4607182418800017408 false (by rfl) (by rfl) w
theorem abs_inf (w : World) : Calls Tryz.prog 35 #[.float .f64 9218868437227405312] w fun e w' => e = .returned (.float .f64 9218868437227405312) ∧ w = w' := abs_one 9218868437227405312 9218868437227405312 (by rfl) w
theorem nanm_m5 (w : World) : Calls Tryz.prog 63 #[.float .f64 13840687554816376832] w fun e w' => e = .returned (.bool false) ∧ w = w' := mIsNaN_no 13840687554816376832 (by rfl) w
theorem nanm_inf (w : World) : Calls Tryz.prog 63 #[.float .f64 9218868437227405312] w fun e w' => e = .returned (.bool false) ∧ w = w' := mIsNaN_no 9218868437227405312 (by rfl) w
set_option maxRecDepth 100000 in
theorem frexp_inf (w : World) : Calls Tryz.prog 94 #[.float .f64 9218868437227405312] w fun e w' => e = .returned (.tuple #[.float .f64 9218868437227405312, .int .i64 0]) ∧ w = w' := by
  have h1 : (FloatKind.f64.format.order 9218868437227405312 0 == some .eq) = false := by rfl
  go_enter Tryz.func94, Tryz.ntmps94
  go_wp2_with (first
    | (go_at_call 14; (with_reducible refine (inf_inf _).mono ?_); rintro e w9 ⟨rfl, rfl⟩)
    | fail)
  go_ret2
  exact ⟨rfl, rfl⟩
set_option maxRecDepth 100000 in
theorem Frexp_inf (w : World) : Calls Tryz.prog 65 #[.float .f64 9218868437227405312] w fun e w' => e = .returned (.tuple #[.float .f64 9218868437227405312, .int .i64 0]) ∧ w = w' := by
  go_enter Tryz.func65, Tryz.ntmps65
  go_wp2_with (first
    | (go_at_call 94; (with_reducible refine (frexp_inf _).mono ?_); rintro e w9 ⟨rfl, rfl⟩)
    | fail)
  go_ret2
  exact ⟨rfl, rfl⟩
set_option maxRecDepth 100000 in
theorem mod_one (w : World) : Calls Tryz.prog 50 #[.float .f64 13840687554816376832, .float .f64 9218868437227405312] w fun e w' => e = .returned (.float .f64 13840687554816376832) ∧ w = w' := by
  have h1 : (FloatKind.f64.format.order 9218868437227405312 0 == some .eq) = false := by rfl
  have h2 : (FloatKind.f64.format.order 13840687554816376832 0 == some .lt) = true := by rfl
  have h3 : ∀ W, (Op.unary UnOp.neg (.float .f64 13840687554816376832)).run Tryz.prog W = .ok (.float .f64 4617315517961601024) W := fun _ => by rfl
  have h4 : ∀ W, (Op.unary UnOp.neg (.float .f64 4617315517961601024)).run Tryz.prog W = .ok (.float .f64 13840687554816376832) W := fun _ => by rfl
  have h5 : (FloatKind.f64.format.order 4617315517961601024 9218868437227405312 == some .gt) = false := by rfl
  have h6 : (FloatKind.f64.format.order 4617315517961601024 9218868437227405312 == some .eq) = false := by rfl
  go_enter Tryz.func50, Tryz.ntmps50
  go_wp2_with (first
    | (go_at_call 14; (with_reducible refine (inf_m5 _).mono ?_); rintro e w9 ⟨rfl, rfl⟩)
    | (go_at_call 63; first | ((with_reducible refine (nanm_m5 _).mono ?_); rintro e w9 ⟨rfl, rfl⟩) | ((with_reducible refine (nanm_inf _).mono ?_); rintro e w9 ⟨rfl, rfl⟩))
    | (go_at_call 35; (with_reducible refine (abs_inf _).mono ?_); rintro e w9 ⟨rfl, rfl⟩)
    | (go_at_call 65; (with_reducible refine (Frexp_inf _).mono ?_); rintro e w9 ⟨rfl, rfl⟩)
    | fail)
  go_loopw [7] (fun s7 wr => s7 = .float .f64 4617315517961601024 ∧ w = wr) (fun s7 wr => 0)
  case atStart => exact ⟨rfl, rfl⟩
  case round =>
    obtain ⟨rfl, rfl⟩ := hrel
    go_wp2_with fail
    go_ret
    exact ⟨rfl, rfl⟩
theorem Mod_one (w : World) : Calls Tryz.prog 38 #[.float .f64 13840687554816376832, .float .f64 9218868437227405312] w fun e w' => e = .returned (.float .f64 13840687554816376832) ∧ w = w' := by
  go_enter Tryz.func38, Tryz.ntmps38
  go_wp2_with (first
    | (go_at_call 50; (with_reducible refine (mod_one _).mono ?_); rintro e w9 ⟨rfl, rfl⟩)
    | fail)
  go_ret
  exact ⟨rfl, rfl⟩
set_option maxRecDepth 100000 in
theorem run_afloor (w : World) : (callFunc 51 #[.float .f64 13830554455654793216]).run Tryz.prog w = .ok (.value (.float .f64 13830554455654793216)) w := by
  rw [run_callFunc_extern Tryz.func51 (by kernel_rfl) (by kernel_rfl) (by kernel_rfl) (e := Extern.MathFloor.toIntegral "math.archFloor" .down) (by kernel_rfl)]
  rfl
set_option maxRecDepth 100000 in
theorem floor_m1 (w : World) : Calls Tryz.prog 40 #[.float .f64 13830554455654793216] w fun e w' => e = .returned (.float .f64 13830554455654793216) ∧ w = w' := by
  have h1 := run_afloor w
  go_enter Tryz.func40, Tryz.ntmps40
  go_wp2_with fail
  go_ret
  exact ⟨rfl, rfl⟩
theorem isNaN_m5 (w : World) : Calls Tryz.prog 13 #[.float .f64 13840687554816376832] w fun e w' => e = .returned (.bool false) ∧ w = w' := isNaN_no 13840687554816376832 (by rfl) w
theorem isNaN_inf (w : World) : Calls Tryz.prog 13 #[.float .f64 9218868437227405312] w fun e w' => e = .returned (.bool false) ∧ w = w' := isNaN_no 9218868437227405312 (by rfl) w
theorem arith {P : Program} (op : BinOp) (t : TypeId) (x y r : Nat) (h : floatBits op .f64 x y = some r) (w : World) : (binOp op t (.float .f64 x) (.float .f64 y)).run P w = .ok (.float .f64 r) w := run_float_arith w op t .f64 x y r h
set_option maxRecDepth 100000 in
theorem divide_one (w : World) : Calls Tryz.prog 24 #[.float .f64 13840687554816376832, .float .f64 9218868437227405312] w fun e w' => e = .returned (.tuple #[.float .f64 13830554455654793216, .float .f64 9218868437227405312]) ∧ w = w' := by
  have a1 := fun W => arith (P := Tryz.prog) .sub 35 13840687554816376832 13840687554816376832 0 (by rfl) W
  have a2 := fun W => arith (P := Tryz.prog) .quo 35 0 9218868437227405312 0 (by rfl) W
  have a3 := fun W => arith (P := Tryz.prog) .add 35 13840687554816376832 9218868437227405312 9218868437227405312 (by rfl) W
  have a4 := fun W => arith (P := Tryz.prog) .sub 35 0 4607182418800017408 13830554455654793216 (by rfl) W
  have a5 := fun W => arith (P := Tryz.prog) .sub 35 13830554455654793216 13830554455654793216 0 (by rfl) W
  have h1 : (FloatKind.f64.format.order 13840687554816376832 0 == some .eq) = false := by rfl
  have h2 : (FloatKind.f64.format.order 13840687554816376832 0 == some .lt) = true := by rfl
  have h3 : (FloatKind.f64.format.order 9218868437227405312 0 == some .lt) = false := by rfl
  have h4 : (FloatKind.f64.format.order 13830554455654793216 0 == some .eq) = false := by rfl
  have h5 : (FloatKind.f64.format.order 0 4602678819172646912 == some .gt) = false := by rfl
  go_enter Tryz.func24, Tryz.ntmps24
  go_wp2_with (first
    | (go_at_call 13; first | ((with_reducible refine (isNaN_m5 _).mono ?_); rintro e w9 ⟨rfl, rfl⟩) | ((with_reducible refine (isNaN_inf _).mono ?_); rintro e w9 ⟨rfl, rfl⟩))
    | (go_at_call 14; first | ((with_reducible refine (inf_m5 _).mono ?_); rintro e w9 ⟨rfl, rfl⟩) | ((with_reducible refine (inf_m1 _).mono ?_); rintro e w9 ⟨rfl, rfl⟩))
    | (go_at_call 38; (with_reducible refine (Mod_one _).mono ?_); rintro e w9 ⟨rfl, rfl⟩)
    | (go_at_call 40; (with_reducible refine (floor_m1 _).mono ?_); rintro e w9 ⟨rfl, rfl⟩)
    | fail)
  go_ret2
  exact ⟨rfl, rfl⟩
theorem number_m5 (w : World) : Calls Tryz.prog 12 #[.int .u64 13840687554816376832] w fun e w' => e = .returned (.float .f64 13840687554816376832) ∧ w = w' := number_any 13840687554816376832 w
theorem number_inf (w : World) : Calls Tryz.prog 12 #[.int .u64 9218868437227405312] w fun e w' => e = .returned (.float .f64 9218868437227405312) ∧ w = w' := number_any 9218868437227405312 w
theorem pattern_inf (w : World) : Calls Tryz.prog 25 #[.float .f64 9218868437227405312] w fun e w' => e = .returned (.int .u64 9218868437227405312) ∧ w = w' := by
  refine (pattern_any 9218868437227405312 w).mono ?_
  rintro e w' ⟨rfl, rfl⟩
  exact ⟨by rfl, rfl⟩
set_option maxRecDepth 100000 in
theorem rmod_one (w : World) : Calls Tryz.prog 9 #[.int .u64 13840687554816376832, .int .u64 9218868437227405312] w fun e w' => e = .returned (.tuple #[.int .u64 9218868437227405312, .int .i64 0]) ∧ w = w' := by
  have h1 : (FloatKind.f64.format.order 9218868437227405312 0 == some .eq) = false := by rfl
  go_enter Tryz.func9, Tryz.ntmps9
  go_wp2_with (first
    | (go_at_call 12; first | ((with_reducible refine (number_m5 _).mono ?_); rintro e w9 ⟨rfl, rfl⟩) | ((with_reducible refine (number_inf _).mono ?_); rintro e w9 ⟨rfl, rfl⟩))
    | (go_at_call 24; (with_reducible refine (divide_one _).mono ?_); rintro e w9 ⟨rfl, rfl⟩)
    | (go_at_call 25; (with_reducible refine (pattern_inf _).mono ?_); rintro e w9 ⟨rfl, rfl⟩)
    | fail)
  go_ret2
  exact ⟨rfl, rfl⟩
set_option maxRecDepth 100000 in
theorem known03 (w : World) (ht : PT w) (hp : P10R w) : Calls Tryz.prog 4 #[] w fun e w' => e = .returned (.bool true) ∧ Below w.heap.size w w' := by
  have HT := Lib.hid (text_one w ht hp)
  clear ht hp
  go_enter Tryz.func4, Tryz.ntmps4
  go_wp2_with (first
    | (go_at_call 9; (with_reducible refine (rmod_one _).mono ?_); rintro e w9 ⟨rfl, rfl⟩)
    | (go_at_call 10; (with_reducible refine (parse_nan _).mono ?_); rintro e w9 ⟨rfl, rfl⟩)
    | (go_at_call 11; first | ((with_reducible refine (text_sign _).mono ?_); rintro e w9 ⟨rfl, rfl⟩) | ((with_reducible refine HT.out.mono ?_); rintro e w1 ⟨rfl, hb⟩; have HB := Lib.hid hb; clear hb))
    | fail)
  go_ret
  exact ⟨rfl, HB.out⟩
end Go.Proofs.YthcijdlkaoppnaaGreatDoor
