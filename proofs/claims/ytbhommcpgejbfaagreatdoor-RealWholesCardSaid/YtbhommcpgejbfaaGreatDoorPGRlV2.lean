/- math.normalize, Frexp, Ldexp at a positive number. math.Ldexp at a positive number, where the answer is a number; math.Mod. math.Mod of two numbers. -/
import Derived.Test.YtbhommcpgejbfaaGreatDoorPGRlU
import Derived.Test.YtbhommcpgejbfaaGreatDoorPGRlT
import Derived.LoopTactic
namespace Go.Proofs.YtbhommcpgejbfaaGreatDoor
section
open Go Go.ChangeShapes Go.WideShapes Go.RowKit
set_option linter.unusedVariables false
set_option linter.unusedSimpArgs false
theorem abs_pos {b : Nat} (h : b < fIN) (w : World) : Calls Tryz.prog 26 #[.float .f64 b] w fun e w' => e = .returned (.float .f64 b) ∧ w = w' := by
  obtain ⟨p1, p2, p3, p4⟩ := pos_facts h
  have h1 := andNot_u b p4
  rw [p1] at h1
  exact abs_one b b h1 w
theorem place_pos {b : Nat} (h : b < fIN) : placeZ b = (b : Int) := by
  obtain ⟨p1, p2, p3, p4⟩ := pos_facts h
  unfold placeZ
  rw [p1, p2, if_neg (by simp)]
theorem lt_pos {a b : Nat} (ha : a < fIN) (hb : b < fIN) : (FloatKind.f64.format.order a b == some .lt) = decide (a < b) := by
  rw [fmt_double, lt_d (pos_facts ha).2.2.1 (pos_facts hb).2.2.1, place_pos ha, place_pos hb]
  rw [decide_eq_decide]; omega
theorem eq_pos0 {a : Nat} (ha : a < fIN) : (FloatKind.f64.format.order a 0 == some .eq) = decide (a = 0) := by
  rw [fmt_double, zero_d, (pos_facts ha).1]
/-- What normalize answers. -/
def NmP (b z : Nat) (e : Int) : Prop := 4503599627370496 ≤ z ∧ z < fIN ∧ ((e = 0 ∧ z = b) ∨ (e = -52 ∧ b < 4503599627370496 ∧ z < 477381560501272576 ∧ magV z = magV b * 4503599627370496))
theorem isInf_pos {b : Nat} (h : b < fIN) (w : World) : Calls Tryz.prog 13 #[.float .f64 b, .int .i64 0] w fun e w' => e = .returned (.bool false) ∧ w = w' := by
  obtain ⟨p1, p2, p3, p4⟩ := pos_facts h
  have h1 := isInf0 b p4 p3 w
  have h2 : infB b = false := by unfold infB; rw [p1, decide_eq_false_iff_not]; omega
  rw [h2] at h1
  exact h1
set_option maxRecDepth 100000 in
theorem mIsNaN_any (b : Nat) (hn : nanB b = false) (w : World) : Calls Tryz.prog 123 #[.float .f64 b] w fun e w' => e = .returned (.bool false) ∧ w = w' := by
  have h : (FloatKind.f64.format.order b b != some .eq) = false := by
    rw [bne, fmt_double, eq_d hn hn]; simp
  go_enter Tryz.func123, Tryz.ntmps123
  go_wp2_with fail
  go_ret
  exact ⟨rfl, rfl⟩
/-- What Frexp answers. -/
def FxP (b f : Nat) (x : Int) : Prop := f < 4503599627370496 ∧ ∃ X : Nat, x = (X : Int) - 1073 ∧ X ≤ 2200 ∧ NF b f X
theorem FxP.of {b z : Nat} {e : Int} (h : NmP b z e) : FxP b (z % 4503599627370496) (e + (z / 4503599627370496 : Nat) - 1022) := by
  have hI : fIN = 9218868437227405312 := rfl
  obtain ⟨h1, h2, h3⟩ := h
  refine ⟨Nat.mod_lt _ (by decide), ?_⟩
  rcases h3 with ⟨rfl, rfl⟩ | ⟨rfl, hb, hz, hm⟩
  · exact ⟨z / 4503599627370496 + 51, by omega, by omega, nf_normal h1⟩
  · exact ⟨z / 4503599627370496 - 1, by omega, by omega, nf_small h1 hm⟩
theorem shr52 (z : Nat) : ((z : Int) / 4503599627370496) = ((z / 4503599627370496 : Nat) : Int) := by omega
theorem and_expz {z : Nat} (hz : z < fIN) : bits .and .u64 ((z : Int) / 4503599627370496) 2047 = ((z / 4503599627370496 : Nat) : Int) := by
  have hI : fIN = 9218868437227405312 := rfl
  rw [and_exp z (by omega)]
  unfold expB
  rw [Nat.mod_eq_of_lt (by omega)]
theorem andNot_exp {z : Nat} (hz : z < fIN) : bits .andNot .u64 (z : Int) 9218868437227405312 = ((z % 4503599627370496 : Nat) : Int) := by
  have hI : fIN = 9218868437227405312 := rfl
  have h := u64_andNot_nat z 9218868437227405312 (by omega) (by omega)
  refine h.trans (congrArg _ ?_)
  have e1 : (18446744073709551615 - 9218868437227405312 : Nat) = 9223372036854775808 + 4503599627370495 := rfl
  rw [e1]
  have e2 : (z &&& (9223372036854775808 + 4503599627370495)) % 2 ^ 52 = z % 4503599627370496 := by
    rw [Nat.and_mod_two_pow, show ((9223372036854775808 + 4503599627370495) % 2 ^ 52 : Nat) = 2 ^ 52 - 1 from rfl, Nat.and_two_pow_sub_one_eq_mod, Nat.mod_mod]
  have e3 : (z &&& (9223372036854775808 + 4503599627370495)) / 2 ^ 52 = 0 := by
    rw [Nat.and_div_two_pow, show ((9223372036854775808 + 4503599627370495) / 2 ^ 52 : Nat) = 2048 from rfl]
    have h1 : z / 2 ^ 52 < 2 ^ 11 := by omega
    generalize z / 2 ^ 52 = q at h1
    have h2 : (q &&& 2048) % 2 ^ 11 = 0 := by rw [Nat.and_mod_two_pow, show (2048 % 2 ^ 11 : Nat) = 0 from rfl, Nat.and_zero]
    have h3 : (q &&& 2048) / 2 ^ 11 = 0 := by rw [Nat.and_div_two_pow, Nat.div_eq_of_lt h1, Nat.zero_and]
    omega
  omega
theorem or_exp {f E : Nat} (hf : f < 4503599627370496) (hE : E < 2047) : bits .or .u64 (f : Int) ((E * 4503599627370496 : Nat) : Int) = ((E * 4503599627370496 + f : Nat) : Int) := by
  have h := u64_or_nat f (E * 4503599627370496) (by omega) (by omega)
  refine h.trans (congrArg _ ?_)
  have e1 := Nat.or_comm f (E * 4503599627370496)
  have e2 := Nat.two_pow_add_eq_or_of_lt (i := 52) hf E
  rw [e1, Nat.mul_comm E, show (4503599627370496 : Nat) = 2 ^ 52 from rfl, ← e2]
end
section
open Go Go.ChangeShapes Go.WideShapes Go.RowKit
set_option linter.unusedVariables false
set_option linter.unusedSimpArgs false
theorem and_i64 {E : Nat} (h : E < 2048) : bits .and .i64 (E : Int) 2047 = (E : Int) := by
  have h1 : (E &&& 2047 : Nat) = E := by
    have := Nat.and_two_pow_sub_one_eq_mod E 11
    rw [show (2 ^ 11 - 1 : Nat) = 2047 from rfl] at this
    rw [this, Nat.mod_eq_of_lt h]
  have e1 : (BitVec.ofInt 64 (E : Int)).toNat = E := ofInt_u64 E (by omega)
  have e2 : (BitVec.ofInt 64 2047).toNat = 2047 := by decide
  show IntKind.i64.wrap ((BitVec.ofInt 64 (E : Int) &&& BitVec.ofInt 64 2047).toNat : Int) = _
  rw [BitVec.toNat_and, e1, e2, h1, IntWalk.i64_in _ (by omega)]
theorem ld_num2 (n E e52 : Nat) (hn : n ≤ 2200) (hE : E < 2047) (h1 : 1 ≤ E) (h : n + E ≤ e52) (he : e52 = 0 ∨ e52 = 52) : ∃ (F : Nat) (G X Y : Int), n + E + 53 - e52 = F ∧ 1 ≤ F ∧ F < 2047 ∧ X < -1022 ∧ -1075 ≤ X ∧ -1023 < Y ∧ Y ≤ 1023 ∧ -52 ≤ G ∧ G ≤ 2200 ∧ (e52 : Int) ≤ 52 ∧ (n : Int) ≤ 2200 ∧
    IntKind.i64.wrap ((n : Int) + -(e52 : Int)) = G ∧ IntKind.i64.wrap (G + ((E : Int) - 1023)) = X ∧ IntKind.i64.wrap (X + 53) = Y ∧ IntKind.i64.wrap (Y + 1023) = (F : Int) := by
  refine ⟨n + E + 53 - e52, (n : Int) + -(e52 : Int), (n : Int) + -(e52 : Int) + ((E : Int) - 1023), (n : Int) + -(e52 : Int) + ((E : Int) - 1023) + 53, rfl, by omega, by omega, by omega, by omega, by omega, by omega, by omega, by omega, by omega, by omega, ?_, ?_, ?_, ?_⟩
  · exact IntWalk.i64_in _ (by omega)
  · exact IntWalk.i64_in _ (by omega)
  · exact IntWalk.i64_in _ (by omega)
  · rw [IntWalk.i64_in _ (by omega)]; omega
end
section
open Go Go.ChangeShapes Go.WideShapes Go.RowKit
set_option linter.unusedVariables false
set_option linter.unusedSimpArgs false
def fltOf : Value → Nat
  | .float _ r => r
  | _ => 0
theorem fltOf_flt (k : FloatKind) (r : Nat) : fltOf (.float k r) = r := rfl
theorem gt_pos {a b : Nat} (ha : a < fIN) (hb : b < fIN) : (FloatKind.f64.format.order a b == some .gt) = decide (b < a) := by
  rw [fmt_double, gt_d (pos_facts ha).2.2.1 (pos_facts hb).2.2.1, place_pos ha, place_pos hb]
  rw [decide_eq_decide]; omega
theorem eq_pos {a b : Nat} (ha : a < fIN) (hb : b < fIN) : (FloatKind.f64.format.order a b == some .eq) = decide (a = b) := by
  rw [fmt_double, eq_d (pos_facts ha).2.2.1 (pos_facts hb).2.2.1, place_pos ha, place_pos hb]
  rw [decide_eq_decide]; omega
theorem lt_frac {f g : Nat} (hf : f < 4503599627370496) (hg : g < 4503599627370496) : (FloatKind.f64.format.order (4602678819172646912 + f) (4602678819172646912 + g) == some .lt) = decide (f < g) := by
  have hI : fIN = 9218868437227405312 := rfl
  rw [lt_pos (by omega) (by omega), decide_eq_decide]; omega
theorem word_f (r : Nat) : Ieee.double.word false r = r := rfl
theorem flip_pos {r : Nat} (h : r < fIN) : flipB r = Ieee.double.word true r := by
  have e1 : fSG = 9223372036854775808 := rfl
  have e2 : fIN = 9218868437227405312 := rfl
  unfold flipB
  rw [if_pos (by omega)]
  show _ = Ieee.double.signWeight + r
  rw [sw_d]; omega
theorem neg_split {a : Nat} (ha : a < 18446744073709551616) : (negB a = false → a % fSG = a) ∧ (negB a = true → a = fSG + a % fSG) := by
  unfold negB
  rw [show fSG = 9223372036854775808 from rfl]
  constructor
  · intro h; simp at h; omega
  · intro h; simp at h; omega
theorem flip_neg {a : Nat} (ha : a < 18446744073709551616) (h : negB a = true) : flipB a = a % fSG := by
  have h1 := (neg_split ha).2 h
  unfold flipB
  rw [if_neg (by omega)]; omega
end
end Go.Proofs.YtbhommcpgejbfaaGreatDoor
