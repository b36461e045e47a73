/- Floats whose exact answer is a float: written without loss. The rest of two floats, plainly: one round; scaling by a power of two. Sums and quotients that are no NaN; Floor's and Mod's answers, plainly. math.normalize, Frexp, Ldexp at a positive number. math.Ldexp at a positive number, where the answer is a number; math.Mod. math.Mod of two numbers. math.Mod, Copysign, Floor; real.divide. -/
import Derived.Test.YtpebnofjcodikaaGreatDoorPGRlA
import Derived.Test.YtpebnofjcodikaaGreatDoorPGRlF
import Derived.Test.YtpebnofjcodikaaGreatDoorPGRlT
import Derived.LoopTactic
namespace Go.Proofs.YtpebnofjcodikaaGreatDoor
section
open Go Ieee
set_option linter.unusedVariables false
set_option linter.unusedSimpArgs false
theorem pos_facts {b : Nat} (h : b < fIN) : b % fSG = b ∧ negB b = false ∧ nanB b = false ∧ b < 18446744073709551616 := by
  have e1 : fSG = 9223372036854775808 := rfl
  have e2 : fIN = 9218868437227405312 := rfl
  have h3 := (word_d false b h)
  have h4 : double.word false b = b := rfl
  rw [h4] at h3
  exact ⟨h3.1, h3.2.1, h3.2.2.2, h3.2.2.1⟩
end
section
open Go Ieee
set_option linter.unusedVariables false
set_option linter.unusedSimpArgs false
/-- A float as a fraction of 52 bits behind a one, and a power of two. -/
def NF (b f X : Nat) : Prop := f < 4503599627370496 ∧ 4503599627370496 * magV b = (4503599627370496 + f) * 2 ^ X
theorem mag_pos {y : Nat} (h : 0 < y) : 0 < magV y := by have := mag_lt h; rw [mag_zero] at this; exact this
/-- A float of full digits, by its parts. -/
theorem nf_normal {b : Nat} (h : 4503599627370496 ≤ b) : NF b (b % 4503599627370496) (b / 4503599627370496 + 51) := by
  refine ⟨Nat.mod_lt _ (by decide), ?_⟩
  unfold magV
  rw [if_neg (by omega), Nat.mul_left_comm]
  refine congrArg _ ?_
  rw [show (4503599627370496 : Nat) = 2 ^ 52 by rfl, ← Nat.pow_add]
  congr 1; omega
theorem nf_small {b z : Nat} (h : 4503599627370496 ≤ z) (hz : magV z = magV b * 4503599627370496) : NF b (z % 4503599627370496) (z / 4503599627370496 - 1) := by
  refine ⟨Nat.mod_lt _ (by decide), ?_⟩
  rw [Nat.mul_comm, ← hz]
  unfold magV
  rw [if_neg (by omega)]
end
section
open Go Ieee
set_option linter.unusedVariables false
set_option linter.unusedSimpArgs false
/-- What a pattern that is no NaN stands for. -/
theorem read_nn {x : Nat} (h : nanB x = false) : (infB x = true ∧ double.read x = .infinity (negB x)) ∨ (infB x = false ∧ ∃ m p, double.read x = .number (negB x) m p ∧ (zeroB x = false → m ≠ 0)) := by
  rcases read_d x with ⟨h1, _⟩ | ⟨_, h1, h2⟩ | ⟨_, h1, m, e, h2, h3⟩
  · rw [h] at h1; cases h1
  · exact .inl ⟨by unfold infB; simpa using h1, h2⟩
  · refine .inr ⟨by unfold infB; simp; omega, m, _, h2, ?_⟩
    intro hz hm
    unfold zeroB at hz
    rw [decide_eq_false_iff_not] at hz
    rw [hm, Nat.zero_mul] at h3
    have := mag_pos (y := x % fSG) (by omega)
    omega
end
section
open Go Go.ChangeShapes Go.WideShapes Go.RowKit
set_option linter.unusedVariables false
set_option linter.unusedSimpArgs false
theorem place_pos {b : Nat} (h : b < fIN) : placeZ b = (b : Int) := by
  obtain ⟨p1, p2, p3, p4⟩ := pos_facts h
  unfold placeZ
  rw [p1, p2, if_neg (by simp)]
/-- What normalize answers. -/
def NmP (b z : Nat) (e : Int) : Prop := 4503599627370496 ≤ z ∧ z < fIN ∧ ((e = 0 ∧ z = b) ∨ (e = -52 ∧ b < 4503599627370496 ∧ z < 477381560501272576 ∧ magV z = magV b * 4503599627370496))
/-- What Frexp answers. -/
def FxP (b f : Nat) (x : Int) : Prop := f < 4503599627370496 ∧ ∃ X : Nat, x = (X : Int) - 1073 ∧ X ≤ 2200 ∧ NF b f X
theorem FxP.of {b z : Nat} {e : Int} (h : NmP b z e) : FxP b (z % 4503599627370496) (e + (z / 4503599627370496 : Nat) - 1022) := by
  have hI : fIN = 9218868437227405312 := rfl
  obtain ⟨h1, h2, h3⟩ := h
  refine ⟨Nat.mod_lt _ (by decide), ?_⟩
  rcases h3 with ⟨rfl, rfl⟩ | ⟨rfl, hb, hz, hm⟩
  · exact ⟨z / 4503599627370496 + 51, by omega, by omega, nf_normal h1⟩
  · exact ⟨z / 4503599627370496 - 1, by omega, by omega, nf_small h1 hm⟩
theorem or_exp {f E : Nat} (hf : f < 4503599627370496) (hE : E < 2047) : bits .or .u64 (f : Int) ((E * 4503599627370496 : Nat) : Int) = ((E * 4503599627370496 + f : Nat) : Int) := by
  have h := u64_or_nat f (E * 4503599627370496) (by omega) (by omega)
  refine h.trans (congrArg _ ?_)
  have e1 := Nat.or_comm f (E * 4503599627370496)
  have e2 := Nat.two_pow_add_eq_or_of_lt (i := 52) hf E
  rw [e1, Nat.mul_comm E, show (4503599627370496 : Nat) = 2 ^ 52 from rfl, ← e2]
end
section
open Go Go.ChangeShapes Go.WideShapes Go.RowKit
set_option linter.unusedVariables false
set_option linter.unusedSimpArgs false
theorem and_i64 {E : Nat} (h : E < 2048) : bits .and .i64 (E : Int) 2047 = (E : Int) := by
  have h1 : (E &&& 2047 : Nat) = E := by
    have := Nat.and_two_pow_sub_one_eq_mod E 11
    rw [show (2 ^ 11 - 1 : Nat) = 2047 from rfl] at this
    rw [this, Nat.mod_eq_of_lt h]
  have e1 : (BitVec.ofInt 64 (E : Int)).toNat = E := ofInt_u64 E (by omega)
  have e2 : (BitVec.ofInt 64 2047).toNat = 2047 := by decide
  show IntKind.i64.wrap ((BitVec.ofInt 64 (E : Int) &&& BitVec.ofInt 64 2047).toNat : Int) = _
  rw [BitVec.toNat_and, e1, e2, h1, IntWalk.i64_in _ (by omega)]
end
section
open Go Go.ChangeShapes Go.WideShapes Go.RowKit
set_option linter.unusedVariables false
set_option linter.unusedSimpArgs false
theorem gt_pos {a b : Nat} (ha : a < fIN) (hb : b < fIN) : (FloatKind.f64.format.order a b == some .gt) = decide (b < a) := by
  rw [fmt_double, gt_d (pos_facts ha).2.2.1 (pos_facts hb).2.2.1, place_pos ha, place_pos hb]
  rw [decide_eq_decide]; omega
end
section
open Go Go.ChangeShapes Go.WideShapes Go.RowKit
set_option linter.unusedVariables false
set_option linter.unusedSimpArgs false
theorem or_sign (x : Nat) (n : Bool) (hx : x < 9223372036854775808) : bits .or .u64 (x : Int) (if n = true then 9223372036854775808 else 0) = ((Ieee.double.word n x : Nat) : Int) := by
  cases n
  · have h := u64_or_nat x 0 (by omega) (by omega)
    rw [Nat.or_zero] at h
    exact h
  · have h := u64_or_nat x 9223372036854775808 (by omega) (by omega)
    refine h.trans (congrArg _ ?_)
    have e := Nat.two_pow_add_eq_or_of_lt (i := 63) (b := x) (by simpa using hx) 1
    rw [Nat.or_comm]
    show _ = Ieee.double.signWeight + x
    rw [sw_d, show fSG = 2 ^ 63 * 1 from rfl, e]
theorem one_mul (s t : Bool) : floatBits .mul .f64 (Ieee.double.word s 4607182418800017408) (Ieee.double.word t 4607182418800017408) = some (Ieee.double.word (s ^^ t) 4607182418800017408) := by
  cases s <;> cases t <;> decide +kernel
/- The quotient and the rest as real.divide answers them. -/
end
end Go.Proofs.YtpebnofjcodikaaGreatDoor
