/- Layer 3: the chapter's examples, run: Text. -/
import Derived.Test.YtdkbhliafilghaaGreatDoorRlX
import Derived.Test.YtdkbhliafilghaaGreatDoorRlAb
namespace Go.Proofs.YtdkbhliafilghaaGreatDoor
open Go Go.ChangeShapes Go.WideShapes Go.RowKit
set_option linter.unusedVariables false
set_option linter.unusedSimpArgs false
theorem number_one (w : World) : Calls Tryz.prog 9 #[.int .u64 4607182418800017408] w fun e w' => e = .returned (.float .f64 4607182418800017408) ∧ w = w' := number_any 4607182418800017408 w
theorem number_sg (w : World) : Calls Tryz.prog 9 #[.int .u64 9223372036854775808] w fun e w' => e = .returned (.float .f64 9223372036854775808) ∧ w = w' := number_any 9223372036854775808 w
theorem isNaN_no (b : Nat) (h : nanB b = false) (w : World) : Calls Tryz.prog 17 #[.float .f64 b] w fun e w' => e = .returned (.bool false) ∧ w = w' := by
  refine (isNaN_any b w).mono ?_
  rintro e w' ⟨rfl, rfl⟩
  exact ⟨by rw [h], rfl⟩
set_option maxRecDepth 100000 in
theorem contains_one (w : World) : Calls Tryz.prog 40 #[.string ⟨#[49]⟩, .string ⟨#[46]⟩] w fun e w' => e = .returned (.bool false) ∧ w = w' := by
  refine (Tryz.strings_Contains_one ⟨#[49]⟩ 46 w).mono ?_
  rintro e w' ⟨rfl, rfl⟩
  exact ⟨by rw [show decide (0 ≤ Lib.indexByte [49] 46) = false by decide +kernel], rfl⟩
set_option maxRecDepth 100000 in
theorem text_one (w : World) (ht : PT w) (hp : P10R w) : Calls Tryz.prog 15 #[.int .u64 4607182418800017408] w fun e w' => e = .returned (.string ⟨#[49, 46, 48]⟩) ∧ Below w.heap.size w w' := by
  have h1 : (FloatKind.f64.format.order 4607182418800017408 0 == some .eq) = false := by rfl
  have HN := Lib.hid (fun W => isNaN_no 4607182418800017408 (by rfl) W)
  have HU := Lib.hid (fun W => isInf_up 4607182418800017408 false (by rfl) W)
  have HD := Lib.hid (fun W => isInf_dn 4607182418800017408 13830554455654793216 false (fun _ => by rfl) (by rfl) W)
  have HE := Lib.hid (formatE_one w ht hp)
  have HT := Lib.hid ht
  have HP := Lib.hid hp
  clear ht hp
  go_enter Tryz.func15, Tryz.ntmps15
  go_wp2_with (first
    | (go_at_call 9; (with_reducible refine (number_one _).mono ?_); rintro e w9 ⟨rfl, rfl⟩)
    | (go_at_call 17; (with_reducible refine (HN.out _).mono ?_); rintro e w9 ⟨rfl, rfl⟩)
    | (go_at_call 18; first | ((with_reducible refine (HU.out _).mono ?_); rintro e w9 ⟨rfl, rfl⟩) | ((with_reducible refine (HD.out _).mono ?_); rintro e w9 ⟨rfl, rfl⟩))
    | (go_at_call 37; (with_reducible refine HE.out.mono ?_); rintro e w1 ⟨rfl, hb⟩; have HB1 := Lib.hid hb; clear hb HE)
    | (go_at_call 38; (with_reducible refine (cut_one _).mono ?_); rintro e w2 ⟨rfl, hb⟩; have HB2 := Lib.hid (HB1.out.trans (hb.mono HB1.out.size)); clear hb)
    | (go_at_call 39; (with_reducible refine (atoi_one _).mono ?_); rintro e w3 ⟨rfl, hb⟩; have HB3 := Lib.hid (HB2.out.trans (hb.mono HB2.out.size)); have HF := Lib.hid (formatF_one w3 (HT.out.keep HB3.out) (HP.out.keep HB3.out)); clear hb)
    | (go_at_call 37; (with_reducible refine HF.out.mono ?_); rintro e w4 ⟨rfl, hb⟩; have HB4 := Lib.hid (HB3.out.trans (hb.mono HB3.out.size)); clear hb HF)
    | (go_at_call 40; (with_reducible refine (contains_one _).mono ?_); rintro e w9 ⟨rfl, rfl⟩)
    | fail)
  go_ret
  exact ⟨rfl, HB4.out⟩
set_option maxRecDepth 100000 in
theorem text_sign (w : World) : Calls Tryz.prog 15 #[.int .u64 9223372036854775808] w fun e w' => e = .returned (.string ⟨#[45, 48, 46, 48]⟩) ∧ w = w' := by
  have h1 : (FloatKind.f64.format.order 9223372036854775808 0 == some .eq) = true := by rfl
  have h2 := run_f64bits 9223372036854775808
  have h3 : bits BinOp.and .u64 9223372036854775808 9223372036854775808 = 9223372036854775808 := by rfl
  have HN := Lib.hid (fun W => isNaN_no 9223372036854775808 (by rfl) W)
  have HU := Lib.hid (fun W => isInf_up 9223372036854775808 false (by rfl) W)
  have HD := Lib.hid (fun W => isInf_dn 9223372036854775808 0 false (fun _ => by rfl) (by rfl) W)
  have HS : Hid (∀ W, Calls Tryz.prog 36 #[.float .f64 9223372036854775808] W fun e w' => e = .returned (.bool true) ∧ W = w') := Lib.hid (fun W => by
    have h2 := run_f64bits 9223372036854775808 W
    have h3 : bits BinOp.and .u64 9223372036854775808 9223372036854775808 = 9223372036854775808 := by rfl
    go_enter Tryz.func36, Tryz.ntmps36
    go_wp2_with fail
    go_ret
    exact ⟨by rfl, rfl⟩)
  go_enter Tryz.func15, Tryz.ntmps15
  go_wp2_with (first
    | (go_at_call 9; (with_reducible refine (number_sg _).mono ?_); rintro e w9 ⟨rfl, rfl⟩)
    | (go_at_call 17; (with_reducible refine (HN.out _).mono ?_); rintro e w9 ⟨rfl, rfl⟩)
    | (go_at_call 18; first | ((with_reducible refine (HU.out _).mono ?_); rintro e w9 ⟨rfl, rfl⟩) | ((with_reducible refine (HD.out _).mono ?_); rintro e w9 ⟨rfl, rfl⟩))
    | (go_at_call 36; (with_reducible refine (HS.out _).mono ?_); rintro e w9 ⟨rfl, rfl⟩)
    | fail)
  go_ret
  exact ⟨rfl, rfl⟩
set_option maxRecDepth 100000 in
theorem parse_nan (w : World) : Calls Tryz.prog 14 #[.string ⟨#[45, 110, 97, 110]⟩] w fun e w' => e = .returned (.tuple #[.int .u64 9221120237041090560, .int .i64 0]) ∧ w = w' := by
  have hc : Calls Tryz.prog 32 #[.string ⟨#[45, 110, 97, 110]⟩, .string ⟨#[45]⟩] w fun e w' => e = .returned (.tuple #[.string ⟨#[110, 97, 110]⟩, .bool true]) ∧ w = w' := by
    refine (Tryz.strings_CutPrefix ⟨#[45, 110, 97, 110]⟩ ⟨#[45]⟩ w).mono ?_
    rintro e w' ⟨rfl, rfl⟩
    exact ⟨by rfl, rfl⟩
  have HC := Lib.hid hc
  clear hc
  go_enter Tryz.func14, Tryz.ntmps14
  go_wp2_with (first
    | (go_at_call 32; (with_reducible refine HC.out.mono ?_); rintro e w9 ⟨rfl, rfl⟩)
    | fail)
  go_ret2
  exact ⟨rfl, rfl⟩
end Go.Proofs.YtdkbhliafilghaaGreatDoor
