/- Sums, differences, products, quotients of floats, run: an answer, of which the one pattern of NaN is made. -/
import Derived.Test.YtlhfemgimieooaaGreatDoorPGRlA
import Derived.Laws.NewFold
import Derived.RowKit
import Derived.WalkKit
import Derived.Deep.Draws
import Derived.Test.YtlhfemgimieooaaGreatDoorPWordPure
import Derived.Test.YtlhfemgimieooaaGreatDoorRows
import Derived.Lib.Hide
import Derived.BigRegion
import Derived.Deep.DeepCutAuto
import Derived.Deep.RegionHeld3
import Derived.RegionTactic
import Derived.WalkSpells
import Derived.WalkLawsBesides
set_option linter.unusedVariables false
set_option linter.unusedSimpArgs false
set_option maxRecDepth 100000
namespace Go.Proofs.YtlhfemgimieooaaGreatDoor
open Go.Lib (hid)
section
open Go Ieee Go.RowKit
end
section
open Go Go.ChangeShapes Go.WideShapes Go.RowKit
@[go_sem] theorem run_frombits (b : Nat) (w : World) : (callFunc 105 #[.int .u64 (b : Int)]).run Tryz.prog w = .ok (.value (.float .f64 b)) w := by
 rw [run_callFunc_extern Tryz.func105 (by kernel_rfl) (by kernel_rfl) (by kernel_rfl) (e := Extern.MathFloatBits.float64frombits) (by kernel_rfl)]
 rfl
@[go_sem] theorem run_f64bits (b : Nat) (w : World) : (callFunc 86 #[.float .f64 b]).run Tryz.prog w = .ok (.value (.int .u64 (b : Int))) w := by
 rw [run_callFunc_extern Tryz.func86 (by kernel_rfl) (by kernel_rfl) (by kernel_rfl) (e := Extern.MathFloatBits.float64bits) (by kernel_rfl)]
 rfl
theorem number_any (b : Nat) (w : World) : Calls Tryz.prog 62 #[.int .u64 (b : Int)] w fun e w' => e = .returned (.float .f64 b) ∧ w = w' := by
 have h1 := run_frombits b w
 go_enter Tryz.func62, Tryz.ntmps62
 go_wp2_with fail
 go_ret
 exact ⟨rfl, rfl⟩
theorem fmt_double : FloatKind.f64.format = Ieee.double := rfl
theorem isNaN_any (b : Nat) (w : World) : Calls Tryz.prog 66 #[.float .f64 b] w fun e w' => e = .returned (.bool (nanB b)) ∧ w = w' := by
 have h1 : (FloatKind.f64.format.order b b != some .eq) = nanB b := self_neq b
 go_enter Tryz.func66, Tryz.ntmps66
 go_wp2_with fail
 go_ret
 exact ⟨rfl, rfl⟩
theorem pattern_any (b : Nat) (w : World) : Calls Tryz.prog 61 #[.float .f64 b] w fun e w' => e = .returned (.int .u64 (patB b : Nat)) ∧ w = w' := by
 have h1 := run_f64bits b w
 have HN := hid (isNaN_any b)
 have HP := hid (show patB b = if nanB b = true then fNaN else b from rfl)
 cases hn : nanB b
 · rw [hn] at HN HP
   go_enter Tryz.func61, Tryz.ntmps61
   go_wp2_with (first | (go_at_call 66; (with_reducible refine (HN.out _).mono ?_); rintro e w9 ⟨rfl, rfl⟩) | fail)
   go_ret
   exact ⟨by rw [HP.out]; rfl, rfl⟩
 · rw [hn] at HN HP
   go_enter Tryz.func61, Tryz.ntmps61
   go_wp2_with (first | (go_at_call 66; (with_reducible refine (HN.out _).mono ?_); rintro e w9 ⟨rfl, rfl⟩) | fail)
   go_ret
   exact ⟨by rw [HP.out]; rfl, rfl⟩
def infB (b : Nat) : Bool := decide (b % fSG = fIN)
def zeroB (b : Nat) : Bool := decide (b % fSG = 0)
theorem and_u (b : Nat) (hb : b < 18446744073709551616) : bits .and .u64 (b : Int) 9223372036854775807 = ((b % fSG : Nat) : Int) := by
 have h := u64_and_nat b 9223372036854775807 hb (by omega)
 rw [and_low63] at h
 exact h
theorem xor_u (b : Nat) (hb : b < 18446744073709551616) : bits .xor .u64 (b : Int) 9223372036854775808 = ((flipB b : Nat) : Int) := by
 have h := u64_xor_nat b 9223372036854775808 hb (by omega)
 rw [xor_top hb] at h
 exact h
theorem risNaN_any (b : Nat) (hb : b < 18446744073709551616) (w : World) : Calls Tryz.prog 59 #[.int .u64 (b : Int)] w fun e w' => e = .returned (.bool (nanB b)) ∧ w = w' := by
 have h1 := and_u b hb
 have HB := hid (show nanB b = decide ((9218868437227405312 : Int) < ((b % fSG : Nat) : Int)) by
   unfold nanB; rw [show fIN = 9218868437227405312 from rfl, Bool.eq_iff_iff, decide_eq_true_eq, decide_eq_true_eq]; omega)
 obtain ⟨z, hz⟩ : ∃ z, b % fSG = z := ⟨_, rfl⟩
 rw [hz] at h1 HB
 clear hz
 go_enter Tryz.func59, Tryz.ntmps59
 go_wp2_with fail
 go_ret
 exact ⟨by rw [HB.out]; simp, rfl⟩
theorem risInf_any (b : Nat) (hb : b < 18446744073709551616) (w : World) : Calls Tryz.prog 81 #[.int .u64 (b : Int)] w fun e w' => e = .returned (.bool (infB b)) ∧ w = w' := by
 have h1 := and_u b hb
 have HB := hid (show infB b = (((b % fSG : Nat) : Int) == 9218868437227405312) by
   unfold infB; rw [show fIN = 9218868437227405312 from rfl, Bool.eq_iff_iff, decide_eq_true_eq, beq_iff_eq]; omega)
 obtain ⟨z, hz⟩ : ∃ z, b % fSG = z := ⟨_, rfl⟩
 rw [hz] at h1 HB
 clear hz
 go_enter Tryz.func81, Tryz.ntmps81
 go_wp2_with fail
 go_ret
 exact ⟨by rw [HB.out]; rfl, rfl⟩
theorem patB_lt {b : Nat} (h : b < 18446744073709551616) : patB b < 18446744073709551616 := by
 unfold patB; split
 · decide
 · exact h
theorem neg_any (b : Nat) (hb : b < 18446744073709551616) (w : World) : Calls Tryz.prog 26 #[.int .u64 (b : Int)] w fun e w' => e = .returned (.int .u64 (negV b : Nat)) ∧ w = w' := by
 have h1 := xor_u b hb
 have HK := hid (show negV b = patB (flipB b) from rfl)
 obtain ⟨z, hz⟩ : ∃ z, flipB b = z := ⟨_, rfl⟩
 rw [hz] at h1 HK
 clear hz
 go_enter Tryz.func26, Tryz.ntmps26
 go_wp2_with (first | (go_at_call 62; (with_reducible refine (number_any z _).mono ?_); rintro e w9 ⟨rfl, rfl⟩) | (go_at_call 61; (with_reducible refine (pattern_any z _).mono ?_); rintro e w9 ⟨rfl, rfl⟩) | fail)
 go_ret
 exact ⟨by rw [HK.out]; rfl, rfl⟩
theorem rneg_eq (b : Nat) (hb : b < 18446744073709551616) : (nanB b = true ∧ negV b = fNaN) ∨ (nanB b = false ∧ negV b = flipB b) := by
 cases h : nanB b
 · right; refine ⟨rfl, ?_⟩; unfold negV patB; rw [nan_flip hb, h, if_neg (by simp)]
 · left; refine ⟨rfl, ?_⟩; unfold negV patB; rw [nan_flip hb, h, if_pos rfl]
theorem rneg_any (b : Nat) (hb : b < 18446744073709551616) (w : World) : Calls Tryz.prog 39 #[.int .u64 (b : Int)] w fun e w' => e = .returned (.int .u64 (negV b : Nat)) ∧ w = w' := by
 have h1 := xor_u b hb
 have HN := hid (risNaN_any b hb)
 rcases rneg_eq b hb with ⟨hn, hv⟩ | ⟨hn, hv⟩
 · have HV := hid hv
   rw [hn] at HN
   clear hv hn
   go_enter Tryz.func39, Tryz.ntmps39
   go_wp2_with (first | (go_at_call 59; (with_reducible refine (HN.out _).mono ?_); rintro e w9 ⟨rfl, rfl⟩) | fail)
   go_ret
   exact ⟨by rw [HV.out]; rfl, rfl⟩
 · have HV := hid hv
   rw [hn] at HN
   clear hv hn
   go_enter Tryz.func39, Tryz.ntmps39
   go_wp2_with (first | (go_at_call 59; (with_reducible refine (HN.out _).mono ?_); rintro e w9 ⟨rfl, rfl⟩) | fail)
   go_ret
   exact ⟨by rw [HV.out]; rfl, rfl⟩
end
end Go.Proofs.YtlhfemgimieooaaGreatDoor
