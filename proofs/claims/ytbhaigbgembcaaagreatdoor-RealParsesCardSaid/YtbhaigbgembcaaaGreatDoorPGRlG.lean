/- Layer 3: the document's sums and quotients; Div, Cmp. math.Abs and math.IsInf, at any number. math.IsInf at any number; the parts of a pattern; hashes: of floats. -/
import Derived.Test.YtbhaigbgembcaaaGreatDoorPRlF
import Derived.Test.YtbhaigbgembcaaaGreatDoorPGRlB
namespace Go.Proofs.YtbhaigbgembcaaaGreatDoor
section
open Go Go.ChangeShapes Go.WideShapes Go.RowKit
set_option linter.unusedVariables false
set_option linter.unusedSimpArgs false
theorem nan_nan : nanB fNaN = true := by decide +kernel
theorem add_neg (a b : Nat) (hb : b < 18446744073709551616) : addB a (negV b) = subB a b := by
  rcases rneg_eq b hb with ⟨h, e⟩ | ⟨h, e⟩
  · rw [e]
    unfold addB subB
    rw [nan_add (.inr nan_nan), nan_sub (.inr h)]
  · rw [e]
    unfold addB subB
    rw [sub_add hb]
theorem negV_lt (b : Nat) (hb : b < 18446744073709551616) : negV b < 18446744073709551616 := patB_lt (flip_lt hb)
def dvV (a b : Nat) : Nat := if zeroB b = true then 0 else divB a b
def dvE (b : Nat) : Int := if zeroB b = true then 6 else 0
def cmV (a b : Nat) : Int := if nanB a = true ∨ nanB b = true then 0 else cmpZ a b
def cmB (a b : Nat) : Bool := !(nanB a || nanB b)
end
section
open Go Go.ChangeShapes Go.WideShapes Go.RowKit
set_option linter.unusedVariables false
set_option linter.unusedSimpArgs false
set_option maxRecDepth 100000 in
theorem abs_one (b c : Nat) (hc : bits BinOp.andNot .u64 (b : Int) 9223372036854775808 = (c : Int)) (w : World) : Calls Tryz.prog 40 #[.float .f64 b] w fun e w' => e = .returned (.float .f64 c) ∧ w = w' := by
  have h1 := run_f64bits b w
  have h2 := run_frombits c w
  go_enter Tryz.func40, Tryz.ntmps40
  go_wp2_with fail
  go_ret
  exact ⟨rfl, rfl⟩
set_option maxRecDepth 100000 in
theorem isInf_two (b c : Nat) (o : Bool) (hc : bits BinOp.andNot .u64 (b : Int) 9223372036854775808 = (c : Int)) (h : (FloatKind.f64.format.order c 9218868437227405311 == some .gt) = o) (w : World) : Calls Tryz.prog 25 #[.float .f64 b, .int .i64 0] w fun e w' => e = .returned (.bool o) ∧ w = w' := by
  have HA := Lib.hid (abs_one b c hc w)
  clear hc
  go_enter Tryz.func25, Tryz.ntmps25
  go_wp2_with (first
    | (go_at_call 40; (with_reducible refine HA.out.mono ?_); rintro e w9 ⟨rfl, rfl⟩)
    | fail)
  go_ret
  exact ⟨rfl, rfl⟩
set_option maxRecDepth 100000 in
theorem isInf_up (b : Nat) (o : Bool) (h : (FloatKind.f64.format.order b 9218868437227405311 == some .gt) = o) (w : World) : Calls Tryz.prog 25 #[.float .f64 b, .int .i64 1] w fun e w' => e = .returned (.bool o) ∧ w = w' := by
  go_enter Tryz.func25, Tryz.ntmps25
  go_wp2_with fail
  go_ret
  exact ⟨rfl, rfl⟩
set_option maxRecDepth 100000 in
theorem isInf_dn (b c : Nat) (o : Bool) (hc : ∀ W, (Op.unary UnOp.neg (.float .f64 b)).run Tryz.prog W = .ok (.float .f64 c) W) (h : (FloatKind.f64.format.order c 9218868437227405311 == some .gt) = o) (w : World) : Calls Tryz.prog 25 #[.float .f64 b, .int .i64 (-1)] w fun e w' => e = .returned (.bool o) ∧ w = w' := by
  go_enter Tryz.func25, Tryz.ntmps25
  go_wp2_with fail
  go_ret
  exact ⟨rfl, rfl⟩
end
section
open Go Go.ChangeShapes Go.WideShapes Go.RowKit
set_option linter.unusedVariables false
set_option linter.unusedSimpArgs false
theorem andNot_u (b : Nat) (hb : b < 18446744073709551616) : bits .andNot .u64 (b : Int) 9223372036854775808 = ((b % fSG : Nat) : Int) := by
  have h := u64_andNot_nat b 9223372036854775808 hb (by omega)
  rw [show (18446744073709551615 - 9223372036854775808 : Nat) = 9223372036854775807 from rfl, and_low63] at h
  exact h
theorem inf_d (b : Nat) (hn : nanB b = false) : (FloatKind.f64.format.order (b % fSG) 9218868437227405311 == some .gt) = infB b := by
  have e1 : fSG = 9223372036854775808 := rfl
  have e2 : fIN = 9218868437227405312 := rfl
  have h1 : nanB (b % fSG) = false := by unfold nanB at hn ⊢; rw [Nat.mod_mod]; exact hn
  have h2 : nanB 9218868437227405311 = false := by decide +kernel
  have h3 : placeZ 9218868437227405311 = 9218868437227405311 := by decide +kernel
  have h4 : placeZ (b % fSG) = ((b % fSG : Nat) : Int) := by
    unfold placeZ negB
    rw [Nat.mod_mod, Nat.div_eq_of_lt (Nat.mod_lt b (by decide)), if_neg (by decide)]
  rw [fmt_double, gt_d h1 h2, h3, h4]
  unfold infB
  unfold nanB at hn
  rw [decide_eq_false_iff_not] at hn
  rw [Bool.eq_iff_iff, decide_eq_true_eq, decide_eq_true_eq]
  omega
theorem isInf0 (b : Nat) (hb : b < 18446744073709551616) (hn : nanB b = false) (w : World) : Calls Tryz.prog 25 #[.float .f64 b, .int .i64 0] w fun e w' => e = .returned (.bool (infB b)) ∧ w = w' :=
  isInf_two b (b % fSG) (infB b) (andNot_u b hb) (inf_d b hn) w
theorem and_sign (b : Nat) (hb : b < 18446744073709551616) : bits .and .u64 (b : Int) 9223372036854775808 = if negB b = true then 9223372036854775808 else 0 := by
  have h := u64_and_nat b 9223372036854775808 hb (by omega)
  rw [show b &&& 9223372036854775808 = if negB b = true then 9223372036854775808 else 0 from ?_] at h
  · refine Eq.trans h ?_
    split <;> rfl
  · have e1 : (b &&& 9223372036854775808) % 2 ^ 63 = 0 := by rw [Nat.and_mod_two_pow]; simp
    have e2 : (b &&& 9223372036854775808) / 2 ^ 63 = (b / 2 ^ 63) &&& 1 := by rw [Nat.and_div_two_pow]
    have e3 : fSG = 9223372036854775808 := rfl
    have h2 : b / 2 ^ 63 = 0 ∨ b / 2 ^ 63 = 1 := by omega
    unfold negB
    simp only [beq_iff_eq, e3]
    rcases h2 with h2 | h2
    · rw [h2, show (0 &&& 1 : Nat) = 0 from rfl] at e2
      rw [if_neg (by omega)]; omega
    · rw [h2, show (1 &&& 1 : Nat) = 1 from rfl] at e2
      rw [if_pos (by omega)]; omega
set_option maxRecDepth 100000 in
theorem signed_any (b : Nat) (hb : b < 18446744073709551616) (w : World) : Calls Tryz.prog 26 #[.float .f64 b] w fun e w' => e = .returned (.bool (negB b)) ∧ w = w' := by
  have h2 := run_f64bits b w
  have h3 := and_sign b hb
  cases hn : negB b
  · rw [hn, if_neg (by simp)] at h3
    clear hn
    go_enter Tryz.func26, Tryz.ntmps26
    go_wp2_with fail
    go_ret
    exact ⟨by rfl, rfl⟩
  · rw [hn, if_pos rfl] at h3
    clear hn
    go_enter Tryz.func26, Tryz.ntmps26
    go_wp2_with fail
    go_ret
    exact ⟨by rfl, rfl⟩
end
end Go.Proofs.YtbhaigbgembcaaaGreatDoor
