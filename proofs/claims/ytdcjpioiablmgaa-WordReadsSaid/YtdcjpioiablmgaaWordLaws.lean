/- The five statements of layer 1 (word): for every integer or word the law returns true and changes nothing. No condition. -/
import Derived.Test.YtdcjpioiablmgaaWord
namespace Go.Proofs.Ytdcjpioiablmgaa
open Go.ChangeShapes Go.WideShapes Go.ChangeAt Go.RowKit
set_option linter.unusedVariables false
set_option linter.unusedSimpArgs false

theorem known_any (w : World) :
    Calls Try.prog 10 #[] w fun e w' => e = .returned (.bool true) ∧ w = w' := by
  go_enter Try.func10, Try.ntmps10
  go_wp2
  go_ret
  exact ⟨rfl, rfl⟩

theorem makes (a : Int) (w0 : (Lit.int .i64 a).wf = true) (w : World) :
    Calls Try.prog 3 #[.int .i64 a] w fun e w' => e = .returned (.bool true) ∧ w = w' := by
  have hx := wfi w0
  have b1 := addrE_lo a
  have b2 := smallE_lo a
  have b3 := constE_lo a
  go_enter Try.func3, Try.ntmps3
  go_wp2_with (first | (go_at_call 10; refine (known_any _).mono ?_; rintro e w' ⟨rfl, rfl⟩) | (go_at_call 8; refine (addr_any _ w0 _).mono ?_; rintro e w' ⟨rfl, rfl⟩) | (go_at_call 9; refine (addr_ref _ w0 _).mono ?_; rintro e w' ⟨rfl, rfl⟩) | (go_at_call 11; refine (small_any _ w0 _).mono ?_; rintro e w' ⟨rfl, rfl⟩) | (go_at_call 12; refine (small_ref _ w0 _).mono ?_; rintro e w' ⟨rfl, rfl⟩) | (go_at_call 13; refine (const_any _ w0 _).mono ?_; rintro e w' ⟨rfl, rfl⟩) | (go_at_call 14; refine (const_ref _ w0 _).mono ?_; rintro e w' ⟨rfl, rfl⟩))
  go_ret
  exact ⟨rfl, rfl⟩

theorem reads (a : Int) (w0 : (Lit.int .u64 a).wf = true) (w : World) :
    Calls Try.prog 4 #[.int .u64 a] w fun e w' => e = .returned (.bool true) ∧ w = w' := by
  have hx := wfu w0
  have b1 := atE_lo a
  have b2 := numE_lo a
  have b3 := whichE_lo a
  go_enter Try.func4, Try.ntmps4
  go_wp2_with (first | (go_at_call 10; refine (known_any _).mono ?_; rintro e w' ⟨rfl, rfl⟩) | (go_at_call 15; refine (kind_any _ w0 _).mono ?_; rintro e w' ⟨rfl, rfl⟩) | (go_at_call 16; refine (kind_ref _ w0 _).mono ?_; rintro e w' ⟨rfl, rfl⟩) | (go_at_call 17; refine (at_any _ w0 _).mono ?_; rintro e w' ⟨rfl, rfl⟩) | (go_at_call 18; refine (at_ref _ w0 _).mono ?_; rintro e w' ⟨rfl, rfl⟩) | (go_at_call 19; refine (num_any _ w0 _).mono ?_; rintro e w' ⟨rfl, rfl⟩) | (go_at_call 20; refine (num_ref _ w0 _).mono ?_; rintro e w' ⟨rfl, rfl⟩) | (go_at_call 21; refine (which_any _ w0 _).mono ?_; rintro e w' ⟨rfl, rfl⟩) | (go_at_call 22; refine (which_ref _ w0 _).mono ?_; rintro e w' ⟨rfl, rfl⟩))
  go_ret
  exact ⟨rfl, rfl⟩

theorem back (a : Int) (w0 : (Lit.int .i64 a).wf = true) (w : World) :
    Calls Try.prog 5 #[.int .i64 a] w fun e w' => e = .returned (.bool true) ∧ w = w' := by
  have hx := wfi w0
  have b1 := addr_lo a
  have b2 := smallW_lo a
  have b3 := constW_lo a
  rcases addr_cases a with ⟨p1, p2, p3, p4, p5⟩ | p1 <;> rcases small_cases a with ⟨q1, q2, q3, q4, q5⟩ | q1 <;> rcases const_cases a with ⟨r1, r2, r3, r4, r5⟩ | r1
  all_goals go_enter Try.func5, Try.ntmps5
  all_goals go_wp2_with (first | (go_at_call 10; refine (known_any _).mono ?_; rintro e w' ⟨rfl, rfl⟩) | (go_at_call 8; refine (addr_any _ (wfi_mk (by omega)) _).mono ?_; rintro e w' ⟨rfl, rfl⟩) | (go_at_call 11; refine (small_any _ (wfi_mk (by omega)) _).mono ?_; rintro e w' ⟨rfl, rfl⟩) | (go_at_call 13; refine (const_any _ (wfi_mk (by omega)) _).mono ?_; rintro e w' ⟨rfl, rfl⟩) | (go_at_call 17; refine (at_any _ (wfu_mk (by omega)) _).mono ?_; rintro e w' ⟨rfl, rfl⟩) | (go_at_call 19; refine (num_any _ (wfu_mk (by omega)) _).mono ?_; rintro e w' ⟨rfl, rfl⟩) | (go_at_call 21; refine (which_any _ (wfu_mk (by omega)) _).mono ?_; rintro e w' ⟨rfl, rfl⟩) | (go_at_call 15; refine (kind_any _ (wfu_mk (by omega)) _).mono ?_; rintro e w' ⟨rfl, rfl⟩))
  all_goals go_ret
  all_goals exact ⟨rfl, rfl⟩

theorem one (a : Int) (w0 : (Lit.int .u64 a).wf = true) (w : World) :
    Calls Try.prog 6 #[.int .u64 a] w fun e w' => e = .returned (.bool true) ∧ w = w' := by
  have hx := wfu w0
  have hk := kind_lo a
  rcases (by omega : kindOf a = 0 ∨ kindOf a = 1 ∨ kindOf a = 2 ∨ kindOf a = 3) with k | k | k | k
  · obtain ⟨p1, p2, p3, p4, p5⟩ := one_addr a k
    go_enter Try.func6, Try.ntmps6
    go_wp2_with (first | (go_at_call 10; refine (known_any _).mono ?_; rintro e w' ⟨rfl, rfl⟩) | (go_at_call 8; refine (addr_any _ (wfi_mk (by omega)) _).mono ?_; rintro e w' ⟨rfl, rfl⟩) | (go_at_call 11; refine (small_any _ (wfi_mk (by omega)) _).mono ?_; rintro e w' ⟨rfl, rfl⟩) | (go_at_call 13; refine (const_any _ (wfi_mk (by omega)) _).mono ?_; rintro e w' ⟨rfl, rfl⟩) | (go_at_call 17; refine (at_any _ (wfu_mk (by omega)) _).mono ?_; rintro e w' ⟨rfl, rfl⟩) | (go_at_call 19; refine (num_any _ (wfu_mk (by omega)) _).mono ?_; rintro e w' ⟨rfl, rfl⟩) | (go_at_call 21; refine (which_any _ (wfu_mk (by omega)) _).mono ?_; rintro e w' ⟨rfl, rfl⟩) | (go_at_call 15; refine (kind_any _ (wfu_mk (by omega)) _).mono ?_; rintro e w' ⟨rfl, rfl⟩))
    all_goals go_ret
    all_goals exact ⟨rfl, rfl⟩
  · obtain ⟨p1, p2, p3, p4, p5⟩ := one_num a hx k
    go_enter Try.func6, Try.ntmps6
    go_wp2_with (first | (go_at_call 10; refine (known_any _).mono ?_; rintro e w' ⟨rfl, rfl⟩) | (go_at_call 8; refine (addr_any _ (wfi_mk (by omega)) _).mono ?_; rintro e w' ⟨rfl, rfl⟩) | (go_at_call 11; refine (small_any _ (wfi_mk (by omega)) _).mono ?_; rintro e w' ⟨rfl, rfl⟩) | (go_at_call 13; refine (const_any _ (wfi_mk (by omega)) _).mono ?_; rintro e w' ⟨rfl, rfl⟩) | (go_at_call 17; refine (at_any _ (wfu_mk (by omega)) _).mono ?_; rintro e w' ⟨rfl, rfl⟩) | (go_at_call 19; refine (num_any _ (wfu_mk (by omega)) _).mono ?_; rintro e w' ⟨rfl, rfl⟩) | (go_at_call 21; refine (which_any _ (wfu_mk (by omega)) _).mono ?_; rintro e w' ⟨rfl, rfl⟩) | (go_at_call 15; refine (kind_any _ (wfu_mk (by omega)) _).mono ?_; rintro e w' ⟨rfl, rfl⟩))
    all_goals go_ret
    all_goals exact ⟨rfl, rfl⟩
  · obtain ⟨p1, p2, p3, p4, p5⟩ := one_const a hx.1 k
    go_enter Try.func6, Try.ntmps6
    go_wp2_with (first | (go_at_call 10; refine (known_any _).mono ?_; rintro e w' ⟨rfl, rfl⟩) | (go_at_call 8; refine (addr_any _ (wfi_mk (by omega)) _).mono ?_; rintro e w' ⟨rfl, rfl⟩) | (go_at_call 11; refine (small_any _ (wfi_mk (by omega)) _).mono ?_; rintro e w' ⟨rfl, rfl⟩) | (go_at_call 13; refine (const_any _ (wfi_mk (by omega)) _).mono ?_; rintro e w' ⟨rfl, rfl⟩) | (go_at_call 17; refine (at_any _ (wfu_mk (by omega)) _).mono ?_; rintro e w' ⟨rfl, rfl⟩) | (go_at_call 19; refine (num_any _ (wfu_mk (by omega)) _).mono ?_; rintro e w' ⟨rfl, rfl⟩) | (go_at_call 21; refine (which_any _ (wfu_mk (by omega)) _).mono ?_; rintro e w' ⟨rfl, rfl⟩) | (go_at_call 15; refine (kind_any _ (wfu_mk (by omega)) _).mono ?_; rintro e w' ⟨rfl, rfl⟩))
    all_goals go_ret
    all_goals exact ⟨rfl, rfl⟩
  · obtain ⟨p1, p2, p3⟩ := one_none a k
    go_enter Try.func6, Try.ntmps6
    go_wp2_with (first | (go_at_call 10; refine (known_any _).mono ?_; rintro e w' ⟨rfl, rfl⟩) | (go_at_call 8; refine (addr_any _ (wfi_mk (by omega)) _).mono ?_; rintro e w' ⟨rfl, rfl⟩) | (go_at_call 11; refine (small_any _ (wfi_mk (by omega)) _).mono ?_; rintro e w' ⟨rfl, rfl⟩) | (go_at_call 13; refine (const_any _ (wfi_mk (by omega)) _).mono ?_; rintro e w' ⟨rfl, rfl⟩) | (go_at_call 17; refine (at_any _ (wfu_mk (by omega)) _).mono ?_; rintro e w' ⟨rfl, rfl⟩) | (go_at_call 19; refine (num_any _ (wfu_mk (by omega)) _).mono ?_; rintro e w' ⟨rfl, rfl⟩) | (go_at_call 21; refine (which_any _ (wfu_mk (by omega)) _).mono ?_; rintro e w' ⟨rfl, rfl⟩) | (go_at_call 15; refine (kind_any _ (wfu_mk (by omega)) _).mono ?_; rintro e w' ⟨rfl, rfl⟩))
    all_goals go_ret
    all_goals exact ⟨rfl, rfl⟩

theorem rises (a : Int) (w0 : (Lit.int .i64 a).wf = true) (w : World) :
    Calls Try.prog 7 #[.int .i64 a] w fun e w' => e = .returned (.bool true) ∧ w = w' := by
  have hx := wfi w0
  have b1 := addr_lo a
  have b2 := smallW_lo a
  by_cases h1 : 4611686018427387904 < a
  · go_enter Try.func7, Try.ntmps7
    go_wp2_with (first | (go_at_call 10; refine (known_any _).mono ?_; rintro e w' ⟨rfl, rfl⟩) | (go_at_call 8; refine (addr_any _ (wfi_mk (by omega)) _).mono ?_; rintro e w' ⟨rfl, rfl⟩) | (go_at_call 11; refine (small_any _ (wfi_mk (by omega)) _).mono ?_; rintro e w' ⟨rfl, rfl⟩) | (go_at_call 13; refine (const_any _ (wfi_mk (by omega)) _).mono ?_; rintro e w' ⟨rfl, rfl⟩) | (go_at_call 17; refine (at_any _ (wfu_mk (by omega)) _).mono ?_; rintro e w' ⟨rfl, rfl⟩) | (go_at_call 19; refine (num_any _ (wfu_mk (by omega)) _).mono ?_; rintro e w' ⟨rfl, rfl⟩) | (go_at_call 21; refine (which_any _ (wfu_mk (by omega)) _).mono ?_; rintro e w' ⟨rfl, rfl⟩) | (go_at_call 15; refine (kind_any _ (wfu_mk (by omega)) _).mono ?_; rintro e w' ⟨rfl, rfl⟩))
    all_goals go_ret
    all_goals exact ⟨rfl, rfl⟩
  · by_cases h2 : a < -4611686018427387904
    · go_enter Try.func7, Try.ntmps7
      go_wp2_with (first | (go_at_call 10; refine (known_any _).mono ?_; rintro e w' ⟨rfl, rfl⟩) | (go_at_call 8; refine (addr_any _ (wfi_mk (by omega)) _).mono ?_; rintro e w' ⟨rfl, rfl⟩) | (go_at_call 11; refine (small_any _ (wfi_mk (by omega)) _).mono ?_; rintro e w' ⟨rfl, rfl⟩) | (go_at_call 13; refine (const_any _ (wfi_mk (by omega)) _).mono ?_; rintro e w' ⟨rfl, rfl⟩) | (go_at_call 17; refine (at_any _ (wfu_mk (by omega)) _).mono ?_; rintro e w' ⟨rfl, rfl⟩) | (go_at_call 19; refine (num_any _ (wfu_mk (by omega)) _).mono ?_; rintro e w' ⟨rfl, rfl⟩) | (go_at_call 21; refine (which_any _ (wfu_mk (by omega)) _).mono ?_; rintro e w' ⟨rfl, rfl⟩) | (go_at_call 15; refine (kind_any _ (wfu_mk (by omega)) _).mono ?_; rintro e w' ⟨rfl, rfl⟩))
      all_goals go_ret
      all_goals exact ⟨rfl, rfl⟩
    · rcases rises_small a with ⟨p1, p2, p3⟩ | p1 | ⟨p1, p2⟩ <;> rcases rises_addr a with ⟨q1, q2, q3⟩ | q1 | ⟨q1, q2⟩
      all_goals go_enter Try.func7, Try.ntmps7
      all_goals go_wp2_with (first | (go_at_call 10; refine (known_any _).mono ?_; rintro e w' ⟨rfl, rfl⟩) | (go_at_call 8; refine (addr_any _ (wfi_mk (by omega)) _).mono ?_; rintro e w' ⟨rfl, rfl⟩) | (go_at_call 11; refine (small_any _ (wfi_mk (by omega)) _).mono ?_; rintro e w' ⟨rfl, rfl⟩) | (go_at_call 13; refine (const_any _ (wfi_mk (by omega)) _).mono ?_; rintro e w' ⟨rfl, rfl⟩) | (go_at_call 17; refine (at_any _ (wfu_mk (by omega)) _).mono ?_; rintro e w' ⟨rfl, rfl⟩) | (go_at_call 19; refine (num_any _ (wfu_mk (by omega)) _).mono ?_; rintro e w' ⟨rfl, rfl⟩) | (go_at_call 21; refine (which_any _ (wfu_mk (by omega)) _).mono ?_; rintro e w' ⟨rfl, rfl⟩) | (go_at_call 15; refine (kind_any _ (wfu_mk (by omega)) _).mono ?_; rintro e w' ⟨rfl, rfl⟩))
      all_goals go_ret
      all_goals exact ⟨rfl, rfl⟩
end Go.Proofs.Ytdcjpioiablmgaa
