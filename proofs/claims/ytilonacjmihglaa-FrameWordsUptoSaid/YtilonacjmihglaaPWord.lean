/- Contracts of the functions of layer 1 (word) and of the document's answer to it: what each call returns, in every world, which stays as it was. -/
import Derived.Test.YtilonacjmihglaaRows
import Derived.Test.YtilonacjmihglaaPWordPure
import Derived.ProofKit
import Derived.OpenShut
import Derived.OwnWalk
import Derived.Lib.Hide
namespace Go.Proofs.Ytilonacjmihglaa
open Go.ChangeShapes Go.WideShapes Go.ChangeAt Go.RowKit
set_option linter.unusedVariables false
set_option linter.unusedSimpArgs false

theorem addr_any (a : Int) (w0 : (Lit.int .i64 a).wf = true) (w : World) :
    Calls Try.prog 30 #[.int .i64 a] w fun e w' => e = .returned (.tuple #[.int .u64 (addrW a), .int .i64 (addrE a)]) ∧ w = w' := by
  have hx := wfi w0
  go_enter Try.func30, Try.ntmps30
  go_wp2
  all_goals go_ret2
  all_goals refine ⟨ret_two ?_ ?_, rfl⟩ <;> simp only [addrW, addrE] <;> split <;> omega

theorem small_any (a : Int) (w0 : (Lit.int .i64 a).wf = true) (w : World) :
    Calls Try.prog 26 #[.int .i64 a] w fun e w' => e = .returned (.tuple #[.int .u64 (smallW a), .int .i64 (smallE a)]) ∧ w = w' := by
  have hx := wfi w0
  go_enter Try.func26, Try.ntmps26
  go_wp2
  all_goals go_ret2
  all_goals refine ⟨ret_two ?_ ?_, rfl⟩ <;> simp only [smallW, smallE, u64w] <;> split <;> omega

theorem const_any (a : Int) (w0 : (Lit.int .i64 a).wf = true) (w : World) :
    Calls Try.prog 48 #[.int .i64 a] w fun e w' => e = .returned (.tuple #[.int .u64 (constW a), .int .i64 (constE a)]) ∧ w = w' := by
  have hx := wfi w0
  go_enter Try.func48, Try.ntmps48
  go_wp2
  all_goals go_ret2
  all_goals refine ⟨ret_two ?_ ?_, rfl⟩ <;> simp only [constW, constE] <;> split <;> omega

theorem kind_any (a : Int) (w0 : (Lit.int .u64 a).wf = true) (w : World) :
    Calls Try.prog 53 #[.int .u64 a] w fun e w' => e = .returned (.int .i64 (kindOf a)) ∧ w = w' := by
  have hx := wfu w0
  have h4 := and3 a hx.1 hx.2
  have hn : wrap64 a / 4 = numOf a := by rw [i64w]; unfold numOf; split <;> omega
  go_enter Try.func53, Try.ntmps53
  go_wp2
  all_goals go_ret
  all_goals refine ⟨ret_one ?_, rfl⟩
  all_goals simp only [kindOf]
  all_goals simp only [beq_iff_eq, beq_eq_false_iff_ne, ne_eq] at *
  all_goals (repeat' split) <;> omega

theorem num_ref_number (a : Int) (w0 : (Lit.int .u64 a).wf = true) (h1 : (a % 4 == 1) = true) (w : World) :
    Calls Try.prog 46 #[.int .u64 a] w fun e w' => e = .returned (.int .i64 (numOf a)) ∧ w = w' := by
  have hx := wfu w0
  have h2 := Lib.hid h1
  clear h1
  go_enter Try.func46, Try.ntmps46
  go_wp2
  all_goals go_ret
  all_goals refine ⟨ret_one ?_, rfl⟩
  all_goals have h1 := h2.out
  all_goals simp only [beq_iff_eq] at h1
  all_goals simp only [numOf, i64w, u64w]
  · rw [Int.tdiv_eq_ediv_of_nonneg (by omega)]
    split <;> omega
  · split <;> omega

theorem kind_num {a : Int} (h : (kindOf a != 1) = false) : (a % 4 == 1) = true := by
  simp only [bne_eq_false_iff_eq, kindOf] at h
  simp only [beq_iff_eq]
  revert h
  repeat' split
  all_goals omega

theorem kind_ref (a : Int) (w0 : (Lit.int .u64 a).wf = true) (w : World) :
    Calls Try.prog 21 #[.int .u64 a] w fun e w' => e = .returned (.int .i64 (kindOf a)) ∧ w = w' := by
  have hx := wfu w0
  go_enter Try.func21, Try.ntmps21
  go_wp2_with (go_at_call 46; refine (num_ref_number _ w0 (by assumption) _).mono ?_; rintro e w' ⟨rfl, rfl⟩)
  all_goals go_ret
  all_goals refine ⟨ret_one ?_, rfl⟩
  all_goals simp only [kindOf]
  all_goals simp only [beq_iff_eq, beq_eq_false_iff_ne, ne_eq] at *
  all_goals (repeat' split) <;> omega

theorem at_any (a : Int) (w0 : (Lit.int .u64 a).wf = true) (w : World) :
    Calls Try.prog 62 #[.int .u64 a] w fun e w' => e = .returned (.tuple #[.int .i64 (atV a), .int .i64 (atE a)]) ∧ w = w' := by
  have hx := wfu w0
  have hk := kind_lo a
  go_enter Try.func62, Try.ntmps62
  go_wp2_with (go_at_call 53; refine (kind_any _ w0 _).mono ?_; rintro e w' ⟨rfl, rfl⟩)
  all_goals go_ret2
  all_goals refine ⟨ret_two ?_ ?_, rfl⟩
  all_goals simp only [atV, atE]
  all_goals simp only [beq_iff_eq, bne_iff_ne, bne_eq_false_iff_eq, beq_eq_false_iff_ne, ne_eq] at *
  all_goals (repeat' split) <;> omega

theorem at_ref (a : Int) (w0 : (Lit.int .u64 a).wf = true) (w : World) :
    Calls Try.prog 22 #[.int .u64 a] w fun e w' => e = .returned (.tuple #[.int .i64 (atV a), .int .i64 (atE a)]) ∧ w = w' := by
  have hx := wfu w0
  have hk := kind_lo a
  go_enter Try.func22, Try.ntmps22
  go_wp2_with (go_at_call 21; refine (kind_ref _ w0 _).mono ?_; rintro e w' ⟨rfl, rfl⟩)
  all_goals go_ret2
  all_goals refine ⟨ret_two ?_ ?_, rfl⟩
  all_goals simp only [atV, atE]
  all_goals simp only [beq_iff_eq, bne_iff_ne, bne_eq_false_iff_eq, beq_eq_false_iff_ne, ne_eq] at *
  all_goals (repeat' split) <;> omega

end Go.Proofs.Ytilonacjmihglaa
