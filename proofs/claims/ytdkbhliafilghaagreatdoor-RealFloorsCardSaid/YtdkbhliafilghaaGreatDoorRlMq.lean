/- math.normalize, Frexp, Ldexp at a positive number. -/
import Derived.Test.YtdkbhliafilghaaGreatDoorRlMp
import Derived.Test.YtdkbhliafilghaaGreatDoorRlTi
namespace Go.Proofs.YtdkbhliafilghaaGreatDoor
open Go Go.ChangeShapes Go.WideShapes Go.RowKit
set_option linter.unusedVariables false
set_option linter.unusedSimpArgs false
theorem abs_pos {b : Nat} (h : b < fIN) (w : World) : Calls Tryz.prog 41 #[.float .f64 b] w fun e w' => e = .returned (.float .f64 b) ∧ w = w' := by
  obtain ⟨p1, p2, p3, p4⟩ := pos_facts h
  have h1 := andNot_u b p4
  rw [p1] at h1
  exact abs_one b b h1 w
theorem place_pos {b : Nat} (h : b < fIN) : placeZ b = (b : Int) := by
  obtain ⟨p1, p2, p3, p4⟩ := pos_facts h
  unfold placeZ
  rw [p1, p2, if_neg (by simp)]
theorem lt_pos {a b : Nat} (ha : a < fIN) (hb : b < fIN) : (FloatKind.f64.format.order a b == some .lt) = decide (a < b) := by
  rw [fmt_double, lt_d (pos_facts ha).2.2.1 (pos_facts hb).2.2.1, place_pos ha, place_pos hb]
  rw [decide_eq_decide]; omega
theorem eq_pos0 {a : Nat} (ha : a < fIN) : (FloatKind.f64.format.order a 0 == some .eq) = decide (a = 0) := by
  rw [fmt_double, zero_d, (pos_facts ha).1]
/-- What normalize answers. -/
def NmP (b z : Nat) (e : Int) : Prop := 4503599627370496 ≤ z ∧ z < fIN ∧ ((e = 0 ∧ z = b) ∨ (e = -52 ∧ b < 4503599627370496 ∧ z < 477381560501272576 ∧ magV z = magV b * 4503599627370496))
set_option maxRecDepth 100000 in
theorem normalize_any (b : Nat) (h0 : 0 < b) (hb : b < fIN) (w : World) : Calls Tryz.prog 101 #[.float .f64 b] w fun e w' => (∃ z x, e = .returned (.tuple #[.float .f64 z, .int .i64 x]) ∧ NmP b z x) ∧ w = w' := by
  have HA := Lib.hid (abs_pos hb)
  have hI : fIN = 9218868437227405312 := rfl
  have h1 : (FloatKind.f64.format.order b 4503599627370496 == some .lt) = decide (b < 4503599627370496) := lt_pos hb (by omega)
  by_cases hs : b < 4503599627370496
  · have h2 : decide (b < 4503599627370496) = true := by simpa using hs
    rw [h2] at h1
    obtain ⟨z, z1, z2, z3⟩ := up52 h0 hs
    have h3 := run_float_arith (P := Tryz.prog) w .mul 30 .f64 b 4841369599423283200 z (mul_up52 h0 hs z2 z3)
    have HN := Lib.hid (show NmP b z (-52) from ⟨z1, small_lt z2, .inr ⟨rfl, hs, z2, z3⟩⟩)
    clear hs h2 z1 z2 z3 hb h0 hI
    go_enter Tryz.func101, Tryz.ntmps101
    go_wp2_with (first
      | (go_at_call 41; (with_reducible refine (HA.out _).mono ?_); rintro e w9 ⟨rfl, rfl⟩)
      | fail)
    go_ret2
    exact ⟨⟨_, _, rfl, HN.out⟩, rfl⟩
  · have h2 : decide (b < 4503599627370496) = false := by simpa using hs
    rw [h2] at h1
    have HN := Lib.hid (show NmP b b 0 from ⟨by omega, hb, .inl ⟨rfl, rfl⟩⟩)
    clear hs h2 hb h0 hI
    go_enter Tryz.func101, Tryz.ntmps101
    go_wp2_with (first
      | (go_at_call 41; (with_reducible refine (HA.out _).mono ?_); rintro e w9 ⟨rfl, rfl⟩)
      | fail)
    go_ret2
    exact ⟨⟨_, _, rfl, HN.out⟩, rfl⟩
theorem isInf_pos {b : Nat} (h : b < fIN) (w : World) : Calls Tryz.prog 18 #[.float .f64 b, .int .i64 0] w fun e w' => e = .returned (.bool false) ∧ w = w' := by
  obtain ⟨p1, p2, p3, p4⟩ := pos_facts h
  have h1 := isInf0 b p4 p3 w
  have h2 : infB b = false := by unfold infB; rw [p1, decide_eq_false_iff_not]; omega
  rw [h2] at h1
  exact h1
set_option maxRecDepth 100000 in
theorem mIsNaN_any (b : Nat) (hn : nanB b = false) (w : World) : Calls Tryz.prog 56 #[.float .f64 b] w fun e w' => e = .returned (.bool false) ∧ w = w' := by
  have h : (FloatKind.f64.format.order b b != some .eq) = false := by
    rw [bne, fmt_double, eq_d hn hn]; simp
  go_enter Tryz.func56, Tryz.ntmps56
  go_wp2_with fail
  go_ret
  exact ⟨rfl, rfl⟩
/-- What Frexp answers. -/
def FxP (b f : Nat) (x : Int) : Prop := f < 4503599627370496 ∧ ∃ X : Nat, x = (X : Int) - 1073 ∧ X ≤ 2200 ∧ NF b f X
theorem FxP.of {b z : Nat} {e : Int} (h : NmP b z e) : FxP b (z % 4503599627370496) (e + (z / 4503599627370496 : Nat) - 1022) := by
  have hI : fIN = 9218868437227405312 := rfl
  obtain ⟨h1, h2, h3⟩ := h
  refine ⟨Nat.mod_lt _ (by decide), ?_⟩
  rcases h3 with ⟨rfl, rfl⟩ | ⟨rfl, hb, hz, hm⟩
  · exact ⟨z / 4503599627370496 + 51, by omega, by omega, nf_normal h1⟩
  · exact ⟨z / 4503599627370496 - 1, by omega, by omega, nf_small h1 hm⟩
theorem shr52 (z : Nat) : ((z : Int) / 4503599627370496) = ((z / 4503599627370496 : Nat) : Int) := by omega
theorem and_expz {z : Nat} (hz : z < fIN) : bits .and .u64 ((z : Int) / 4503599627370496) 2047 = ((z / 4503599627370496 : Nat) : Int) := by
  have hI : fIN = 9218868437227405312 := rfl
  rw [and_exp z (by omega)]
  unfold expB
  rw [Nat.mod_eq_of_lt (by omega)]
theorem andNot_exp {z : Nat} (hz : z < fIN) : bits .andNot .u64 (z : Int) 9218868437227405312 = ((z % 4503599627370496 : Nat) : Int) := by
  have hI : fIN = 9218868437227405312 := rfl
  have h := u64_andNot_nat z 9218868437227405312 (by omega) (by omega)
  refine h.trans (congrArg _ ?_)
  have e1 : (18446744073709551615 - 9218868437227405312 : Nat) = 9223372036854775808 + 4503599627370495 := rfl
  rw [e1]
  have e2 : (z &&& (9223372036854775808 + 4503599627370495)) % 2 ^ 52 = z % 4503599627370496 := by
    rw [Nat.and_mod_two_pow, show ((9223372036854775808 + 4503599627370495) % 2 ^ 52 : Nat) = 2 ^ 52 - 1 from rfl, Nat.and_two_pow_sub_one_eq_mod, Nat.mod_mod]
  have e3 : (z &&& (9223372036854775808 + 4503599627370495)) / 2 ^ 52 = 0 := by
    rw [Nat.and_div_two_pow, show ((9223372036854775808 + 4503599627370495) / 2 ^ 52 : Nat) = 2048 from rfl]
    have h1 : z / 2 ^ 52 < 2 ^ 11 := by omega
    generalize z / 2 ^ 52 = q at h1
    have h2 : (q &&& 2048) % 2 ^ 11 = 0 := by rw [Nat.and_mod_two_pow, show (2048 % 2 ^ 11 : Nat) = 0 from rfl, Nat.and_zero]
    have h3 : (q &&& 2048) / 2 ^ 11 = 0 := by rw [Nat.and_div_two_pow, Nat.div_eq_of_lt h1, Nat.zero_and]
    omega
  omega
theorem or_exp {f E : Nat} (hf : f < 4503599627370496) (hE : E < 2047) : bits .or .u64 (f : Int) ((E * 4503599627370496 : Nat) : Int) = ((E * 4503599627370496 + f : Nat) : Int) := by
  have h := u64_or_nat f (E * 4503599627370496) (by omega) (by omega)
  refine h.trans (congrArg _ ?_)
  have e1 := Nat.or_comm f (E * 4503599627370496)
  have e2 := Nat.two_pow_add_eq_or_of_lt (i := 52) hf E
  rw [e1, Nat.mul_comm E, show (4503599627370496 : Nat) = 2 ^ 52 from rfl, ← e2]
set_option maxRecDepth 100000 in
theorem frexp_any (b : Nat) (h0 : 0 < b) (hb : b < fIN) (w : World) : Calls Tryz.prog 72 #[.float .f64 b] w fun e w' => (∃ f x, e = .returned (.tuple #[.float .f64 (4602678819172646912 + f), .int .i64 x]) ∧ FxP b f x) ∧ w = w' := by
  have hI : fIN = 9218868437227405312 := rfl
  have HNm := Lib.hid (normalize_any b h0 hb)
  have HI := Lib.hid (isInf_pos hb)
  have HN := Lib.hid (mIsNaN_any b (pos_facts hb).2.2.1)
  have h1 : (FloatKind.f64.format.order b 0 == some .eq) = false := by rw [eq_pos0 hb]; simp; omega
  clear h0
  go_enter Tryz.func72, Tryz.ntmps72
  go_wp2_with (first
    | (go_at_call 18; (with_reducible refine (HI.out _).mono ?_); rintro e w9 ⟨rfl, rfl⟩)
    | (go_at_call 56; (with_reducible refine (HN.out _).mono ?_); rintro e w9 ⟨rfl, rfl⟩)
    | fail)
  refine (HNm.out _).mono ?_
  rintro e w9 ⟨⟨z, x, rfl, hz⟩, rfl⟩
  have hF := FxP.of hz
  obtain ⟨z1, z2, z3⟩ := hz
  have hx : x = 0 ∨ x = -52 := by rcases z3 with ⟨h, _⟩ | ⟨h, _⟩ <;> simp [h]
  have b1 := run_f64bits z w
  have b2 := shr52 z
  have b3 := and_expz z2
  have b4 := andNot_exp z2
  have b5 := or_exp (f := z % 4503599627370496) (E := 1022) (Nat.mod_lt _ (by decide)) (by decide)
  have b6 := run_frombits (1022 * 4503599627370496 + z % 4503599627370496) w
  have b7 : z / 4503599627370496 < 2047 := by omega
  have b8 : z % 4503599627370496 < 4503599627370496 := Nat.mod_lt _ (by decide)
  have b9 : 1022 * 4503599627370496 + z % 4503599627370496 = 4602678819172646912 + z % 4503599627370496 := by omega
  rw [b2] at b3
  rw [b9] at b5 b6
  rw [show (((1022 * 4503599627370496 : Nat)) : Int) = 4602678819172646912 from rfl] at b5
  obtain ⟨q, hq⟩ : ∃ q, 4602678819172646912 + z % 4503599627370496 = q := ⟨_, rfl⟩
  rw [hq] at b5 b6
  have hFF := Lib.hid hF
  have hz1 : (z : Int) < 18446744073709551616 := by omega
  clear hF z1 z2 z3 b9
  obtain ⟨E, hE⟩ : ∃ E, z / 4503599627370496 = E := ⟨_, rfl⟩
  obtain ⟨f, hf⟩ : ∃ f, z % 4503599627370496 = f := ⟨_, rfl⟩
  rw [hE] at b2 b3 b7 hFF
  rw [hf] at b4 b5 b8 hFF hq
  have HQ := Lib.hid hq
  clear hE hf hq
  clear HNm HI HN h1 hb hI
  rcases hx with rfl | rfl
  all_goals
    go_wp2_with fail
    go_ret2
    refine ⟨⟨f, _, ?_, hFF.out⟩, rfl⟩
    rw [HQ.out]
    refine congrArg (fun x => Ending.returned (Value.tuple #[Value.float FloatKind.f64 q, Value.int IntKind.i64 x])) ?_
    omega
end Go.Proofs.YtdkbhliafilghaaGreatDoor
