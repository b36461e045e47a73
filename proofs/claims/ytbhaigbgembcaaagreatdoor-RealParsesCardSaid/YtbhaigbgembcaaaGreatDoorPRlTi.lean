/- math.IsInf upwards, downwards, at any number. -/
import Derived.Test.YtbhaigbgembcaaaGreatDoorPGRlG
namespace Go.Proofs.YtbhaigbgembcaaaGreatDoor
open Go Go.ChangeShapes Go.WideShapes Go.RowKit
set_option linter.unusedVariables false
set_option linter.unusedSimpArgs false
theorem place_max : placeZ 9218868437227405311 = 9218868437227405311 := by decide +kernel
theorem up_d (b : Nat) (hn : nanB b = false) : (FloatKind.f64.format.order b 9218868437227405311 == some .gt) = (infB b && !negB b) := by
  have e1 : fSG = 9223372036854775808 := rfl
  have e2 : fIN = 9218868437227405312 := rfl
  have h2 : nanB 9218868437227405311 = false := by decide +kernel
  rw [fmt_double, gt_d hn h2, place_max]
  unfold infB placeZ
  unfold nanB at hn
  rw [decide_eq_false_iff_not] at hn
  cases negB b
  · simp only [Bool.false_eq_true, if_false, Bool.not_false, Bool.and_true]
    rw [Bool.eq_iff_iff, decide_eq_true_eq, decide_eq_true_eq]
    omega
  · simp only [if_true, Bool.not_true, Bool.and_false]
    rw [decide_eq_false_iff_not]
    omega
theorem isInf_up_any (b : Nat) (hn : nanB b = false) (w : World) : Calls Tryz.prog 25 #[.float .f64 b, .int .i64 1] w fun e w' => e = .returned (.bool (infB b && !negB b)) ∧ w = w' := isInf_up b _ (up_d b hn) w
theorem inf_flip {b : Nat} (h : b < 18446744073709551616) : infB (flipB b) = infB b := by unfold infB; rw [(flip_mod h).1]
theorem run_neg (b : Nat) (hb : b < 18446744073709551616) (hn : nanB b = false) (w : World) : (Op.unary UnOp.neg (.float .f64 b)).run Tryz.prog w = .ok (.float .f64 (flipB b)) w := by
  simp [Op.unary, go_sem]
  have h : Op.negFloat FloatKind.f64 b = b ^^^ 9223372036854775808 := by rfl
  rw [h, xor_top hb]
theorem isInf_dn_any (b : Nat) (hb : b < 18446744073709551616) (hn : nanB b = false) (w : World) : Calls Tryz.prog 25 #[.float .f64 b, .int .i64 (-1)] w fun e w' => e = .returned (.bool (infB b && negB b)) ∧ w = w' := by
  have h1 := up_d (flipB b) (by rw [nan_flip hb]; exact hn)
  rw [inf_flip hb, (flip_mod hb).2, Bool.not_not] at h1
  exact isInf_dn b (flipB b) _ (fun W => run_neg b hb hn W) h1 w
end Go.Proofs.YtbhaigbgembcaaaGreatDoor
