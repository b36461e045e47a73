/- Layer 3: patterns and floats: number, isNaN, pattern, Neg, Add, Sub, Mul, Div, Cmp, the program's and the document's. -/
import Derived.Test.YtbhaigbgembcaaaGreatDoorPRlOp
import Derived.Test.YtbhaigbgembcaaaGreatDoorPGRlA
import Derived.Test.YtbhaigbgembcaaaGreatDoorPWordPure
import Derived.Test.YtbhaigbgembcaaaGreatDoorRows
import Derived.Lib.Hide
import Derived.WalkKit
import Derived.BigRegion
import Derived.Deep.DeepCutAuto
import Derived.Deep.RegionHeld3
import Derived.RegionTactic
import Derived.WalkSpells
import Derived.WalkLawsBesides
namespace Go.Proofs.YtbhaigbgembcaaaGreatDoor
open Go Go.ChangeShapes Go.WideShapes Go.RowKit
set_option linter.unusedVariables false
set_option linter.unusedSimpArgs false
@[go_sem] theorem run_frombits (b : Nat) (w : World) : (callFunc 17 #[.int .u64 (b : Int)]).run Tryz.prog w = .ok (.value (.float .f64 b)) w := by
  rw [run_callFunc_extern Tryz.func17 (by kernel_rfl) (by kernel_rfl) (by kernel_rfl) (e := Extern.MathFloatBits.float64frombits) (by kernel_rfl)]
  rfl
@[go_sem] theorem run_f64bits (b : Nat) (w : World) : (callFunc 13 #[.float .f64 b]).run Tryz.prog w = .ok (.value (.int .u64 (b : Int))) w := by
  rw [run_callFunc_extern Tryz.func13 (by kernel_rfl) (by kernel_rfl) (by kernel_rfl) (e := Extern.MathFloatBits.float64bits) (by kernel_rfl)]
  rfl
set_option maxRecDepth 100000 in
theorem number_any (b : Nat) (w : World) : Calls Tryz.prog 23 #[.int .u64 (b : Int)] w fun e w' => e = .returned (.float .f64 b) ∧ w = w' := by
  have h1 := run_frombits b w
  go_enter Tryz.func23, Tryz.ntmps23
  go_wp2_with fail
  go_ret
  exact ⟨rfl, rfl⟩
theorem fmt_double : FloatKind.f64.format = Ieee.double := rfl
set_option maxRecDepth 100000 in
theorem isNaN_any (b : Nat) (w : World) : Calls Tryz.prog 21 #[.float .f64 b] w fun e w' => e = .returned (.bool (nanB b)) ∧ w = w' := by
  have h1 : (FloatKind.f64.format.order b b != some .eq) = nanB b := self_neq b
  go_enter Tryz.func21, Tryz.ntmps21
  go_wp2_with fail
  go_ret
  exact ⟨rfl, rfl⟩
set_option maxRecDepth 100000 in
theorem pattern_any (b : Nat) (w : World) : Calls Tryz.prog 11 #[.float .f64 b] w fun e w' => e = .returned (.int .u64 (patB b : Nat)) ∧ w = w' := by
  have h1 := run_f64bits b w
  have HN := Lib.hid (isNaN_any b)
  have HP := Lib.hid (show patB b = if nanB b = true then fNaN else b from rfl)
  cases hn : nanB b
  · rw [hn] at HN HP
    go_enter Tryz.func11, Tryz.ntmps11
    go_wp2_with (first | (go_at_call 21; (with_reducible refine (HN.out _).mono ?_); rintro e w9 ⟨rfl, rfl⟩) | fail)
    go_ret
    exact ⟨by rw [HP.out]; rfl, rfl⟩
  · rw [hn] at HN HP
    go_enter Tryz.func11, Tryz.ntmps11
    go_wp2_with (first | (go_at_call 21; (with_reducible refine (HN.out _).mono ?_); rintro e w9 ⟨rfl, rfl⟩) | fail)
    go_ret
    exact ⟨by rw [HP.out]; rfl, rfl⟩
/-- The document's: is the pattern none of a number? an infinity? nought? -/
def infB (b : Nat) : Bool := decide (b % fSG = fIN)
def zeroB (b : Nat) : Bool := decide (b % fSG = 0)
theorem and_u (b : Nat) (hb : b < 18446744073709551616) : bits .and .u64 (b : Int) 9223372036854775807 = ((b % fSG : Nat) : Int) := by
  have h := u64_and_nat b 9223372036854775807 hb (by omega)
  rw [and_low63] at h
  exact h
theorem xor_u (b : Nat) (hb : b < 18446744073709551616) : bits .xor .u64 (b : Int) 9223372036854775808 = ((flipB b : Nat) : Int) := by
  have h := u64_xor_nat b 9223372036854775808 hb (by omega)
  rw [xor_top hb] at h
  exact h
theorem patB_lt {b : Nat} (h : b < 18446744073709551616) : patB b < 18446744073709551616 := by
  unfold patB; split
  · decide
  · exact h
theorem rneg_eq (b : Nat) (hb : b < 18446744073709551616) : (nanB b = true ∧ negV b = fNaN) ∨ (nanB b = false ∧ negV b = flipB b) := by
  cases h : nanB b
  · right; refine ⟨rfl, ?_⟩; unfold negV patB; rw [nan_flip hb, h, if_neg (by simp)]
  · left; refine ⟨rfl, ?_⟩; unfold negV patB; rw [nan_flip hb, h, if_pos rfl]
theorem bits_add (x y : Nat) : floatBits .add .f64 x y = Ieee.double.add x y := rfl
theorem bits_sub (x y : Nat) : floatBits .sub .f64 x y = Ieee.double.sub x y := rfl
theorem bits_mul (x y : Nat) : floatBits .mul .f64 x y = Ieee.double.mul x y := rfl
theorem bits_quo (x y : Nat) : floatBits .quo .f64 x y = Ieee.double.div x y := rfl
end Go.Proofs.YtbhaigbgembcaaaGreatDoor
