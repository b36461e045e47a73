/- Sums, differences, products, quotients of floats, run: an answer, of which the one pattern of NaN is made. Layer 3: patterns and floats: number, isNaN, pattern, Neg, Add, Sub, Mul, Div, Cmp, the program's and the document's. -/
import Derived.Test.YtpebnofjcodikaaGreatDoorPGRlA
import Derived.Laws.NewFold
import Derived.RowKit
import Derived.WalkKit
import Derived.Deep.Draws
import Derived.Test.YtpebnofjcodikaaGreatDoorPWordPure
import Derived.Test.YtpebnofjcodikaaGreatDoorRows
import Derived.Lib.Hide
import Derived.BigRegion
import Derived.Deep.DeepCutAuto
import Derived.Deep.RegionHeld3
import Derived.RegionTactic
import Derived.WalkSpells
import Derived.WalkLawsBesides
namespace Go.Proofs.YtpebnofjcodikaaGreatDoor
section
open Go Ieee Go.RowKit
set_option linter.unusedVariables false
set_option linter.unusedSimpArgs false
theorem nan_bits (t : Nat) : nanB (t % 2 * 2 ^ 63 + 9218868437227405312 + 1 + t / 2 % (2 ^ 52 - 1)) = true := by
  unfold nanB
  have h1 : fIN = 9218868437227405312 := rfl
  have h2 : fSG = 9223372036854775808 := rfl
  rw [decide_eq_true_eq, h1, h2]
  have h3 : t / 2 % (2 ^ 52 - 1) < 4503599627370495 := Nat.mod_lt _ (by decide)
  generalize t / 2 % (2 ^ 52 - 1) = z at h3 ⊢
  have h4 : t % 2 = 0 ∨ t % 2 = 1 := by omega
  rcases h4 with h4 | h4 <;> rw [h4] <;> omega
theorem nan_lt (t : Nat) : t % 2 * 2 ^ 63 + 9218868437227405312 + 1 + t / 2 % (2 ^ 52 - 1) < 18446744073709551616 := by
  have h3 : t / 2 % (2 ^ 52 - 1) < 4503599627370495 := Nat.mod_lt _ (by decide)
  generalize t / 2 % (2 ^ 52 - 1) = z at h3 ⊢
  have h4 : t % 2 = 0 ∨ t % 2 = 1 := by omega
  rcases h4 with h4 | h4 <;> rw [h4] <;> omega
/-- The answer of an operation: some bits, of which patB makes what outB says. -/
theorem run_fop {P : Program} (w : World) (op : BinOp) (t : TypeId) (x y : Nat) (hop : op = .add ∨ op = .sub ∨ op = .mul ∨ op = .quo) :
    ∃ r q, (binOp op t (.float .f64 x) (.float .f64 y)).run P w = .ok (.float .f64 r) (w.drewN q) ∧ patB r = outB (floatBits op .f64 x y) ∧ r < 18446744073709551616 := by
  cases h : floatBits op .f64 x y with
  | some r =>
    refine ⟨r, 0, run_float_arith w op t .f64 x y r h, rfl, ?_⟩
    have := floatBits_wf h
    simpa [Lit.wf] using this
  | none =>
    refine ⟨_, 1, ?_, ?_, nan_lt (w.tape w.drawn (.nanBits .f64 x y))⟩
    · unfold floatBits at h
      rcases hop with rfl | rfl | rfl | rfl
      all_goals simp only at h
      all_goals simp [binOp, Op.floatArith, h, run_choose_drew, Question.forced, Question.cut]
      all_goals rfl
    · unfold patB outB
      rw [nan_bits, if_pos rfl]
end
section
open Go Go.ChangeShapes Go.WideShapes Go.RowKit
set_option linter.unusedVariables false
set_option linter.unusedSimpArgs false
@[go_sem] theorem run_frombits (b : Nat) (w : World) : (callFunc 63 #[.int .u64 (b : Int)]).run Tryz.prog w = .ok (.value (.float .f64 b)) w := by
  rw [run_callFunc_extern Tryz.func63 (by kernel_rfl) (by kernel_rfl) (by kernel_rfl) (e := Extern.MathFloatBits.float64frombits) (by kernel_rfl)]
  rfl
@[go_sem] theorem run_f64bits (b : Nat) (w : World) : (callFunc 100 #[.float .f64 b]).run Tryz.prog w = .ok (.value (.int .u64 (b : Int))) w := by
  rw [run_callFunc_extern Tryz.func100 (by kernel_rfl) (by kernel_rfl) (by kernel_rfl) (e := Extern.MathFloatBits.float64bits) (by kernel_rfl)]
  rfl
set_option maxRecDepth 100000 in
theorem number_any (b : Nat) (w : World) : Calls Tryz.prog 66 #[.int .u64 (b : Int)] w fun e w' => e = .returned (.float .f64 b) ∧ w = w' := by
  have h1 := run_frombits b w
  go_enter Tryz.func66, Tryz.ntmps66
  go_wp2_with fail
  go_ret
  exact ⟨rfl, rfl⟩
theorem fmt_double : FloatKind.f64.format = Ieee.double := rfl
set_option maxRecDepth 100000 in
theorem isNaN_any (b : Nat) (w : World) : Calls Tryz.prog 67 #[.float .f64 b] w fun e w' => e = .returned (.bool (nanB b)) ∧ w = w' := by
  have h1 : (FloatKind.f64.format.order b b != some .eq) = nanB b := self_neq b
  go_enter Tryz.func67, Tryz.ntmps67
  go_wp2_with fail
  go_ret
  exact ⟨rfl, rfl⟩
set_option maxRecDepth 100000 in
theorem pattern_any (b : Nat) (w : World) : Calls Tryz.prog 91 #[.float .f64 b] w fun e w' => e = .returned (.int .u64 (patB b : Nat)) ∧ w = w' := by
  have h1 := run_f64bits b w
  have HN := Lib.hid (isNaN_any b)
  have HP := Lib.hid (show patB b = if nanB b = true then fNaN else b from rfl)
  cases hn : nanB b
  · rw [hn] at HN HP
    go_enter Tryz.func91, Tryz.ntmps91
    go_wp2_with (first | (go_at_call 67; (with_reducible refine (HN.out _).mono ?_); rintro e w9 ⟨rfl, rfl⟩) | fail)
    go_ret
    exact ⟨by rw [HP.out]; rfl, rfl⟩
  · rw [hn] at HN HP
    go_enter Tryz.func91, Tryz.ntmps91
    go_wp2_with (first | (go_at_call 67; (with_reducible refine (HN.out _).mono ?_); rintro e w9 ⟨rfl, rfl⟩) | fail)
    go_ret
    exact ⟨by rw [HP.out]; rfl, rfl⟩
/-- The document's: is the pattern none of a number? an infinity? nought? -/
def infB (b : Nat) : Bool := decide (b % fSG = fIN)
def zeroB (b : Nat) : Bool := decide (b % fSG = 0)
theorem and_u (b : Nat) (hb : b < 18446744073709551616) : bits .and .u64 (b : Int) 9223372036854775807 = ((b % fSG : Nat) : Int) := by
  have h := u64_and_nat b 9223372036854775807 hb (by omega)
  rw [and_low63] at h
  exact h
theorem xor_u (b : Nat) (hb : b < 18446744073709551616) : bits .xor .u64 (b : Int) 9223372036854775808 = ((flipB b : Nat) : Int) := by
  have h := u64_xor_nat b 9223372036854775808 hb (by omega)
  rw [xor_top hb] at h
  exact h
set_option maxRecDepth 100000 in
theorem risNaN_any (b : Nat) (hb : b < 18446744073709551616) (w : World) : Calls Tryz.prog 44 #[.int .u64 (b : Int)] w fun e w' => e = .returned (.bool (nanB b)) ∧ w = w' := by
  have h1 := and_u b hb
  have HB := Lib.hid (show nanB b = decide ((9218868437227405312 : Int) < ((b % fSG : Nat) : Int)) by
    unfold nanB; rw [show fIN = 9218868437227405312 from rfl, Bool.eq_iff_iff, decide_eq_true_eq, decide_eq_true_eq]; omega)
  obtain ⟨z, hz⟩ : ∃ z, b % fSG = z := ⟨_, rfl⟩
  rw [hz] at h1 HB
  clear hz
  go_enter Tryz.func44, Tryz.ntmps44
  go_wp2_with fail
  go_ret
  exact ⟨by rw [HB.out]; simp, rfl⟩
theorem patB_lt {b : Nat} (h : b < 18446744073709551616) : patB b < 18446744073709551616 := by
  unfold patB; split
  · decide
  · exact h
set_option maxRecDepth 100000 in
theorem neg_any (b : Nat) (hb : b < 18446744073709551616) (w : World) : Calls Tryz.prog 90 #[.int .u64 (b : Int)] w fun e w' => e = .returned (.int .u64 (negV b : Nat)) ∧ w = w' := by
  have h1 := xor_u b hb
  have HK := Lib.hid (show negV b = patB (flipB b) from rfl)
  obtain ⟨z, hz⟩ : ∃ z, flipB b = z := ⟨_, rfl⟩
  rw [hz] at h1 HK
  clear hz
  go_enter Tryz.func90, Tryz.ntmps90
  go_wp2_with (first | (go_at_call 66; (with_reducible refine (number_any z _).mono ?_); rintro e w9 ⟨rfl, rfl⟩) | (go_at_call 91; (with_reducible refine (pattern_any z _).mono ?_); rintro e w9 ⟨rfl, rfl⟩) | fail)
  go_ret
  exact ⟨by rw [HK.out]; rfl, rfl⟩
theorem rneg_eq (b : Nat) (hb : b < 18446744073709551616) : (nanB b = true ∧ negV b = fNaN) ∨ (nanB b = false ∧ negV b = flipB b) := by
  cases h : nanB b
  · right; refine ⟨rfl, ?_⟩; unfold negV patB; rw [nan_flip hb, h, if_neg (by simp)]
  · left; refine ⟨rfl, ?_⟩; unfold negV patB; rw [nan_flip hb, h, if_pos rfl]
set_option maxRecDepth 100000 in
theorem add_any (a b : Nat) (w : World) : Calls Tryz.prog 55 #[.int .u64 (a : Int), .int .u64 (b : Int)] w fun e w' => e = .returned (.int .u64 (addB a b : Nat)) ∧ Below w.heap.size w w' := by
  obtain ⟨r, q, hrun, hp, hlt⟩ := run_fop (P := Tryz.prog) w .add 88 a b (by simp)
  have HP := Lib.hid (show patB r = addB a b by rw [hp]; rfl)
  have HB := Lib.hid (below_drewN (Below.refl w.heap.size w) q)
  clear hp
  go_enter Tryz.func55, Tryz.ntmps55
  go_wp2_with (first | (go_at_call 66; (with_reducible refine (number_any _ _).mono ?_); rintro e w9 ⟨rfl, rfl⟩) | (go_at_call 91; (with_reducible refine (pattern_any r _).mono ?_); rintro e w9 ⟨rfl, rfl⟩) | fail)
  go_ret
  exact ⟨by rw [← HP.out]; rfl, HB.out⟩
set_option maxRecDepth 100000 in
theorem mul_any (a b : Nat) (w : World) : Calls Tryz.prog 57 #[.int .u64 (a : Int), .int .u64 (b : Int)] w fun e w' => e = .returned (.int .u64 (mulB a b : Nat)) ∧ Below w.heap.size w w' := by
  obtain ⟨r, q, hrun, hp, hlt⟩ := run_fop (P := Tryz.prog) w .mul 88 a b (by simp)
  have HP := Lib.hid (show patB r = mulB a b by rw [hp]; rfl)
  have HB := Lib.hid (below_drewN (Below.refl w.heap.size w) q)
  clear hp
  go_enter Tryz.func57, Tryz.ntmps57
  go_wp2_with (first | (go_at_call 66; (with_reducible refine (number_any _ _).mono ?_); rintro e w9 ⟨rfl, rfl⟩) | (go_at_call 91; (with_reducible refine (pattern_any r _).mono ?_); rintro e w9 ⟨rfl, rfl⟩) | fail)
  go_ret
  exact ⟨by rw [← HP.out]; rfl, HB.out⟩
end
end Go.Proofs.YtpebnofjcodikaaGreatDoor
