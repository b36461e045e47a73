/- math.normalize, Frexp, Ldexp at a positive number. math.Ldexp at a positive number, where the answer is a number; math.Mod. math.Mod of two numbers. -/
import Derived.Test.YtbhaigbgembcaaaGreatDoorPGRlU
import Derived.Test.YtbhaigbgembcaaaGreatDoorPRlTi
import Derived.LoopTactic
namespace Go.Proofs.YtbhaigbgembcaaaGreatDoor
section
open Go Go.ChangeShapes Go.WideShapes Go.RowKit
set_option linter.unusedVariables false
set_option linter.unusedSimpArgs false
theorem abs_pos {b : Nat} (h : b < fIN) (w : World) : Calls Tryz.prog 40 #[.float .f64 b] w fun e w' => e = .returned (.float .f64 b) ∧ w = w' := by
  obtain ⟨p1, p2, p3, p4⟩ := pos_facts h
  have h1 := andNot_u b p4
  rw [p1] at h1
  exact abs_one b b h1 w
theorem place_pos {b : Nat} (h : b < fIN) : placeZ b = (b : Int) := by
  obtain ⟨p1, p2, p3, p4⟩ := pos_facts h
  unfold placeZ
  rw [p1, p2, if_neg (by simp)]
theorem lt_pos {a b : Nat} (ha : a < fIN) (hb : b < fIN) : (FloatKind.f64.format.order a b == some .lt) = decide (a < b) := by
  rw [fmt_double, lt_d (pos_facts ha).2.2.1 (pos_facts hb).2.2.1, place_pos ha, place_pos hb]
  rw [decide_eq_decide]; omega
theorem eq_pos0 {a : Nat} (ha : a < fIN) : (FloatKind.f64.format.order a 0 == some .eq) = decide (a = 0) := by
  rw [fmt_double, zero_d, (pos_facts ha).1]
/-- What normalize answers. -/
def NmP (b z : Nat) (e : Int) : Prop := 4503599627370496 ≤ z ∧ z < fIN ∧ ((e = 0 ∧ z = b) ∨ (e = -52 ∧ b < 4503599627370496 ∧ z < 477381560501272576 ∧ magV z = magV b * 4503599627370496))
set_option maxRecDepth 100000 in
theorem normalize_any (b : Nat) (h0 : 0 < b) (hb : b < fIN) (w : World) : Calls Tryz.prog 136 #[.float .f64 b] w fun e w' => (∃ z x, e = .returned (.tuple #[.float .f64 z, .int .i64 x]) ∧ NmP b z x) ∧ w = w' := by
  have HA := Lib.hid (abs_pos hb)
  have hI : fIN = 9218868437227405312 := rfl
  have h1 : (FloatKind.f64.format.order b 4503599627370496 == some .lt) = decide (b < 4503599627370496) := lt_pos hb (by omega)
  by_cases hs : b < 4503599627370496
  · have h2 : decide (b < 4503599627370496) = true := by simpa using hs
    rw [h2] at h1
    obtain ⟨z, z1, z2, z3⟩ := up52 h0 hs
    have h3 := run_float_arith (P := Tryz.prog) w .mul 32 .f64 b 4841369599423283200 z (mul_up52 h0 hs z2 z3)
    have HN := Lib.hid (show NmP b z (-52) from ⟨z1, small_lt z2, .inr ⟨rfl, hs, z2, z3⟩⟩)
    clear hs h2 z1 z2 z3 hb h0 hI
    go_enter Tryz.func136, Tryz.ntmps136
    go_wp2_with (first
      | (go_at_call 40; (with_reducible refine (HA.out _).mono ?_); rintro e w9 ⟨rfl, rfl⟩)
      | fail)
    go_ret2
    exact ⟨⟨_, _, rfl, HN.out⟩, rfl⟩
  · have h2 : decide (b < 4503599627370496) = false := by simpa using hs
    rw [h2] at h1
    have HN := Lib.hid (show NmP b b 0 from ⟨by omega, hb, .inl ⟨rfl, rfl⟩⟩)
    clear hs h2 hb h0 hI
    go_enter Tryz.func136, Tryz.ntmps136
    go_wp2_with (first
      | (go_at_call 40; (with_reducible refine (HA.out _).mono ?_); rintro e w9 ⟨rfl, rfl⟩)
      | fail)
    go_ret2
    exact ⟨⟨_, _, rfl, HN.out⟩, rfl⟩
theorem isInf_pos {b : Nat} (h : b < fIN) (w : World) : Calls Tryz.prog 25 #[.float .f64 b, .int .i64 0] w fun e w' => e = .returned (.bool false) ∧ w = w' := by
  obtain ⟨p1, p2, p3, p4⟩ := pos_facts h
  have h1 := isInf0 b p4 p3 w
  have h2 : infB b = false := by unfold infB; rw [p1, decide_eq_false_iff_not]; omega
  rw [h2] at h1
  exact h1
set_option maxRecDepth 100000 in
theorem mIsNaN_any (b : Nat) (hn : nanB b = false) (w : World) : Calls Tryz.prog 72 #[.float .f64 b] w fun e w' => e = .returned (.bool false) ∧ w = w' := by
  have h : (FloatKind.f64.format.order b b != some .eq) = false := by
    rw [bne, fmt_double, eq_d hn hn]; simp
  go_enter Tryz.func72, Tryz.ntmps72
  go_wp2_with fail
  go_ret
  exact ⟨rfl, rfl⟩
/-- What Frexp answers. -/
def FxP (b f : Nat) (x : Int) : Prop := f < 4503599627370496 ∧ ∃ X : Nat, x = (X : Int) - 1073 ∧ X ≤ 2200 ∧ NF b f X
theorem FxP.of {b z : Nat} {e : Int} (h : NmP b z e) : FxP b (z % 4503599627370496) (e + (z / 4503599627370496 : Nat) - 1022) := by
  have hI : fIN = 9218868437227405312 := rfl
  obtain ⟨h1, h2, h3⟩ := h
  refine ⟨Nat.mod_lt _ (by decide), ?_⟩
  rcases h3 with ⟨rfl, rfl⟩ | ⟨rfl, hb, hz, hm⟩
  · exact ⟨z / 4503599627370496 + 51, by omega, by omega, nf_normal h1⟩
  · exact ⟨z / 4503599627370496 - 1, by omega, by omega, nf_small h1 hm⟩
theorem shr52 (z : Nat) : ((z : Int) / 4503599627370496) = ((z / 4503599627370496 : Nat) : Int) := by omega
theorem and_expz {z : Nat} (hz : z < fIN) : bits .and .u64 ((z : Int) / 4503599627370496) 2047 = ((z / 4503599627370496 : Nat) : Int) := by
  have hI : fIN = 9218868437227405312 := rfl
  rw [and_exp z (by omega)]
  unfold expB
  rw [Nat.mod_eq_of_lt (by omega)]
theorem andNot_exp {z : Nat} (hz : z < fIN) : bits .andNot .u64 (z : Int) 9218868437227405312 = ((z % 4503599627370496 : Nat) : Int) := by
  have hI : fIN = 9218868437227405312 := rfl
  have h := u64_andNot_nat z 9218868437227405312 (by omega) (by omega)
  refine h.trans (congrArg _ ?_)
  have e1 : (18446744073709551615 - 9218868437227405312 : Nat) = 9223372036854775808 + 4503599627370495 := rfl
  rw [e1]
  have e2 : (z &&& (9223372036854775808 + 4503599627370495)) % 2 ^ 52 = z % 4503599627370496 := by
    rw [Nat.and_mod_two_pow, show ((9223372036854775808 + 4503599627370495) % 2 ^ 52 : Nat) = 2 ^ 52 - 1 from rfl, Nat.and_two_pow_sub_one_eq_mod, Nat.mod_mod]
  have e3 : (z &&& (9223372036854775808 + 4503599627370495)) / 2 ^ 52 = 0 := by
    rw [Nat.and_div_two_pow, show ((9223372036854775808 + 4503599627370495) / 2 ^ 52 : Nat) = 2048 from rfl]
    have h1 : z / 2 ^ 52 < 2 ^ 11 := by omega
    generalize z / 2 ^ 52 = q at h1
    have h2 : (q &&& 2048) % 2 ^ 11 = 0 := by rw [Nat.and_mod_two_pow, show (2048 % 2 ^ 11 : Nat) = 0 from rfl, Nat.and_zero]
    have h3 : (q &&& 2048) / 2 ^ 11 = 0 := by rw [Nat.and_div_two_pow, Nat.div_eq_of_lt h1, Nat.zero_and]
    omega
  omega
theorem or_exp {f E : Nat} (hf : f < 4503599627370496) (hE : E < 2047) : bits .or .u64 (f : Int) ((E * 4503599627370496 : Nat) : Int) = ((E * 4503599627370496 + f : Nat) : Int) := by
  have h := u64_or_nat f (E * 4503599627370496) (by omega) (by omega)
  refine h.trans (congrArg _ ?_)
  have e1 := Nat.or_comm f (E * 4503599627370496)
  have e2 := Nat.two_pow_add_eq_or_of_lt (i := 52) hf E
  rw [e1, Nat.mul_comm E, show (4503599627370496 : Nat) = 2 ^ 52 from rfl, ← e2]
set_option maxRecDepth 100000 in
theorem frexp_any (b : Nat) (h0 : 0 < b) (hb : b < fIN) (w : World) : Calls Tryz.prog 113 #[.float .f64 b] w fun e w' => (∃ f x, e = .returned (.tuple #[.float .f64 (4602678819172646912 + f), .int .i64 x]) ∧ FxP b f x) ∧ w = w' := by
  have hI : fIN = 9218868437227405312 := rfl
  have HNm := Lib.hid (normalize_any b h0 hb)
  have HI := Lib.hid (isInf_pos hb)
  have HN := Lib.hid (mIsNaN_any b (pos_facts hb).2.2.1)
  have h1 : (FloatKind.f64.format.order b 0 == some .eq) = false := by rw [eq_pos0 hb]; simp; omega
  clear h0
  go_enter Tryz.func113, Tryz.ntmps113
  go_wp2_with (first
    | (go_at_call 25; (with_reducible refine (HI.out _).mono ?_); rintro e w9 ⟨rfl, rfl⟩)
    | (go_at_call 72; (with_reducible refine (HN.out _).mono ?_); rintro e w9 ⟨rfl, rfl⟩)
    | fail)
  refine (HNm.out _).mono ?_
  rintro e w9 ⟨⟨z, x, rfl, hz⟩, rfl⟩
  have hF := FxP.of hz
  obtain ⟨z1, z2, z3⟩ := hz
  have hx : x = 0 ∨ x = -52 := by rcases z3 with ⟨h, _⟩ | ⟨h, _⟩ <;> simp [h]
  have b1 := run_f64bits z w
  have b2 := shr52 z
  have b3 := and_expz z2
  have b4 := andNot_exp z2
  have b5 := or_exp (f := z % 4503599627370496) (E := 1022) (Nat.mod_lt _ (by decide)) (by decide)
  have b6 := run_frombits (1022 * 4503599627370496 + z % 4503599627370496) w
  have b7 : z / 4503599627370496 < 2047 := by omega
  have b8 : z % 4503599627370496 < 4503599627370496 := Nat.mod_lt _ (by decide)
  have b9 : 1022 * 4503599627370496 + z % 4503599627370496 = 4602678819172646912 + z % 4503599627370496 := by omega
  rw [b2] at b3
  rw [b9] at b5 b6
  rw [show (((1022 * 4503599627370496 : Nat)) : Int) = 4602678819172646912 from rfl] at b5
  obtain ⟨q, hq⟩ : ∃ q, 4602678819172646912 + z % 4503599627370496 = q := ⟨_, rfl⟩
  rw [hq] at b5 b6
  have hFF := Lib.hid hF
  have hz1 : (z : Int) < 18446744073709551616 := by omega
  clear hF z1 z2 z3 b9
  obtain ⟨E, hE⟩ : ∃ E, z / 4503599627370496 = E := ⟨_, rfl⟩
  obtain ⟨f, hf⟩ : ∃ f, z % 4503599627370496 = f := ⟨_, rfl⟩
  rw [hE] at b2 b3 b7 hFF
  rw [hf] at b4 b5 b8 hFF hq
  have HQ := Lib.hid hq
  clear hE hf hq
  clear HNm HI HN h1 hb hI
  rcases hx with rfl | rfl
  all_goals
    go_wp2_with fail
    go_ret2
    refine ⟨⟨f, _, ?_, hFF.out⟩, rfl⟩
    rw [HQ.out]
    refine congrArg (fun x => Ending.returned (Value.tuple #[Value.float FloatKind.f64 q, Value.int IntKind.i64 x])) ?_
    omega
end
section
open Go Go.ChangeShapes Go.WideShapes Go.RowKit
set_option linter.unusedVariables false
set_option linter.unusedSimpArgs false
set_option maxRecDepth 100000 in
theorem Frexp_any (b : Nat) (h0 : 0 < b) (hb : b < fIN) (w : World) : Calls Tryz.prog 74 #[.float .f64 b] w fun e w' => (∃ f x, e = .returned (.tuple #[.float .f64 (4602678819172646912 + f), .int .i64 x]) ∧ FxP b f x) ∧ w = w' := by
  have HF := Lib.hid (frexp_any b h0 hb)
  clear h0 hb
  go_enter Tryz.func74, Tryz.ntmps74
  go_wp2_with fail
  refine (HF.out _).mono ?_
  rintro e w9 ⟨⟨f, x, rfl, hf⟩, rfl⟩
  have HX := Lib.hid hf
  clear hf
  go_wp2_with fail
  go_ret2
  exact ⟨⟨_, _, rfl, HX.out⟩, rfl⟩
theorem and_i64 {E : Nat} (h : E < 2048) : bits .and .i64 (E : Int) 2047 = (E : Int) := by
  have h1 : (E &&& 2047 : Nat) = E := by
    have := Nat.and_two_pow_sub_one_eq_mod E 11
    rw [show (2 ^ 11 - 1 : Nat) = 2047 from rfl] at this
    rw [this, Nat.mod_eq_of_lt h]
  have e1 : (BitVec.ofInt 64 (E : Int)).toNat = E := ofInt_u64 E (by omega)
  have e2 : (BitVec.ofInt 64 2047).toNat = 2047 := by decide
  show IntKind.i64.wrap ((BitVec.ofInt 64 (E : Int) &&& BitVec.ofInt 64 2047).toNat : Int) = _
  rw [BitVec.toNat_and, e1, e2, h1, IntWalk.i64_in _ (by omega)]
theorem ld_num2 (n E e52 : Nat) (hn : n ≤ 2200) (hE : E < 2047) (h1 : 1 ≤ E) (h : n + E ≤ e52) (he : e52 = 0 ∨ e52 = 52) : ∃ (F : Nat) (G X Y : Int), n + E + 53 - e52 = F ∧ 1 ≤ F ∧ F < 2047 ∧ X < -1022 ∧ -1075 ≤ X ∧ -1023 < Y ∧ Y ≤ 1023 ∧ -52 ≤ G ∧ G ≤ 2200 ∧ (e52 : Int) ≤ 52 ∧ (n : Int) ≤ 2200 ∧
    IntKind.i64.wrap ((n : Int) + -(e52 : Int)) = G ∧ IntKind.i64.wrap (G + ((E : Int) - 1023)) = X ∧ IntKind.i64.wrap (X + 53) = Y ∧ IntKind.i64.wrap (Y + 1023) = (F : Int) := by
  refine ⟨n + E + 53 - e52, (n : Int) + -(e52 : Int), (n : Int) + -(e52 : Int) + ((E : Int) - 1023), (n : Int) + -(e52 : Int) + ((E : Int) - 1023) + 53, rfl, by omega, by omega, by omega, by omega, by omega, by omega, by omega, by omega, by omega, by omega, ?_, ?_, ?_, ?_⟩
  · exact IntWalk.i64_in _ (by omega)
  · exact IntWalk.i64_in _ (by omega)
  · exact IntWalk.i64_in _ (by omega)
  · rw [IntWalk.i64_in _ (by omega)]; omega
set_option maxRecDepth 100000 in
theorem ldexp_any (y t n : Nat) (h0 : 0 < y) (hy : y < fIN) (ht : t < fIN) (ht0 : 0 < t) (hn : n ≤ 2200) (hm : magV t = magV y * 2 ^ n) (w : World) : Calls Tryz.prog 115 #[.float .f64 y, .int .i64 (n : Int)] w fun e w' => e = .returned (.float .f64 t) ∧ w = w' := by
  have hI : fIN = 9218868437227405312 := rfl
  have HNm := Lib.hid (normalize_any y h0 hy)
  have HI := Lib.hid (isInf_pos hy)
  have HN := Lib.hid (mIsNaN_any y (pos_facts hy).2.2.1)
  have h1 : (FloatKind.f64.format.order y 0 == some .eq) = false := by rw [eq_pos0 hy]; simp; omega
  go_enter Tryz.func115, Tryz.ntmps115
  go_wp2_with (first
    | (go_at_call 25; (with_reducible refine (HI.out _).mono ?_); rintro e w9 ⟨rfl, rfl⟩)
    | (go_at_call 72; (with_reducible refine (HN.out _).mono ?_); rintro e w9 ⟨rfl, rfl⟩)
    | fail)
  refine (HNm.out _).mono ?_
  rintro e w9 ⟨⟨z, x, rfl, hz⟩, rfl⟩
  obtain ⟨z1, z2, z3⟩ := hz
  obtain ⟨e52, hx, he52, hze⟩ : ∃ e52 : Nat, x = -(e52 : Int) ∧ (e52 = 0 ∨ e52 = 52) ∧ magV z = magV y * 2 ^ e52 := by
    rcases z3 with ⟨rfl, rfl⟩ | ⟨rfl, _, _, h⟩
    · exact ⟨0, by simp, .inl rfl, by simp⟩
    · exact ⟨52, by simp, .inr rfl, h⟩
  subst hx
  have b1 := run_f64bits z w
  have b2 := shr52 z
  have b3 := and_expz z2
  have b4 := andNot_exp z2
  have b7 : z / 4503599627370496 < 2047 := by omega
  have b6 : 1 ≤ z / 4503599627370496 := by omega
  have b8 : z % 4503599627370496 < 4503599627370496 := Nat.mod_lt _ (by decide)
  rw [b2] at b3
  have b3i := and_i64 (E := z / 4503599627370496) (by omega)
  have hz1 : (z : Int) < 18446744073709551616 := by omega
  obtain ⟨E, hE⟩ : ∃ E, z / 4503599627370496 = E := ⟨_, rfl⟩
  obtain ⟨f, hf⟩ : ∃ f, z % 4503599627370496 = f := ⟨_, rfl⟩
  have hL1 := @ld_normal y z t n e52 z1 hze hm
  have hL2 := @ld_small y z t n e52 z1 z2 hze hm ht
  rw [hE] at b2 b3 b3i b6 b7 hL1 hL2
  rw [hf] at b4 b8 hL1 hL2
  by_cases hc : e52 < n + E
  · have hT := hL1 hc
    have hE2 : n + E - e52 < 2047 := by omega
    have b5 := or_exp (f := f) (E := n + E - e52) b8 hE2
    have b9 := run_frombits t w
    have m1 := run_float_arith (P := Tryz.prog) w .mul 32 .f64 4607182418800017408 t t (mul_one_d ht ht0)
    rw [hT] at b5
    obtain ⟨F, hF⟩ : ∃ F, n + E - e52 = F := ⟨_, rfl⟩
    rw [hF] at b5 hE2
    rw [show ((F * 4503599627370496 : Nat) : Int) = (F : Int) * 4503599627370496 by omega] at b5
    obtain ⟨G, hG⟩ : ∃ G : Int, (n : Int) + -(e52 : Int) = G := ⟨_, rfl⟩
    obtain ⟨X, hX⟩ : ∃ X : Int, G + ((E : Int) - 1023) = X := ⟨_, rfl⟩
    have hX3 : IntKind.i64.wrap (X + 1023) = (F : Int) := by rw [IntWalk.i64_in _ (by omega)]; omega
    have hF1 : 1 ≤ F := by omega
    have hX1 : X ≤ 1023 := by omega
    have hX2 : -1022 ≤ X := by omega
    have hG1 : -52 ≤ G := by omega
    have hG2 : G ≤ 2200 := by omega
    have b10 : IntKind.i64.wrap ((n : Int) + -(e52 : Int)) = G := by rw [IntWalk.i64_in _ (by omega)]; exact hG
    have b11 : IntKind.i64.wrap (G + ((E : Int) - 1023)) = X := by rw [IntWalk.i64_in _ (by omega)]; exact hX
    have hen : (e52 : Int) ≤ 52 := by omega
    have hnn : (n : Int) ≤ 2200 := by omega
    clear hL1 hL2 hT z3 hze HNm HI HN h1 hy hm h0 hI z1 z2 hE hf ht hn hc he52 hF ht0 hG hX
    have H10 := Lib.hid b10
    have H11 := Lib.hid b11
    have H3 := Lib.hid hX3
    have H4 := Lib.hid b4
    have H5 := Lib.hid b5
    clear b10 b11 hX3 b4 b5 b3
    go_upto_region 6 with fail
    have b10 := H10.out
    go_upto_region 7 with fail
    clear b10 H10
    go_upto_region 8 with fail
    have b11 := H11.out
    go_upto_region 9 with fail
    clear b11 H11 b3i b2 hz1 b1 hnn hen hG1 hG2
    go_upto_region 11 with fail
    go_upto_region 16 with fail
    go_upto_region 19 with fail
    have b4 := H4.out
    go_upto_region 20 with fail
    clear b4 H4
    have hX3 := H3.out
    have b5 := H5.out
    go_upto_region 21 with fail
    clear hX3 H3 b5 H5
    go_wp2_with fail
    go_ret
    exact ⟨rfl, rfl⟩
  · obtain ⟨v, hv, hvI, hmul⟩ := hL2 (by omega) (by omega)
    obtain ⟨F, G, X, Y, hF, hF1, hE2, hX1, hX2, hY1, hY2, hG1, hG2, hen, hnn, b10, b11, hY3, hX3⟩ := ld_num2 n E e52 hn b7 b6 (by omega) he52
    have b5 := or_exp (f := f) (E := n + E + 53 - e52) b8 (by rw [hF]; exact hE2)
    have b9 := run_frombits v w
    have m1 := run_float_arith (P := Tryz.prog) w .mul 32 .f64 4368491638549381120 v t hmul
    rw [← hv] at b5
    rw [hF] at b5
    rw [show ((F * 4503599627370496 : Nat) : Int) = (F : Int) * 4503599627370496 by simp] at b5
    clear hL1 hL2 hv z3 hze HNm HI HN h1 hy hm h0 hI z1 z2 hE hf ht hn hc he52 hF ht0 hvI hmul
    have H10 := Lib.hid b10
    have H11 := Lib.hid b11
    have H3 := Lib.hid hX3
    have HY := Lib.hid hY3
    have H4 := Lib.hid b4
    have H5 := Lib.hid b5
    clear b10 b11 hX3 hY3 b4 b5 b3
    go_upto_region 6 with fail
    have b10 := H10.out
    go_upto_region 7 with fail
    clear b10 H10
    go_upto_region 8 with fail
    have b11 := H11.out
    go_upto_region 9 with fail
    clear b11 H11 b3i b2 hz1 b1 hnn hen hG1 hG2
    go_upto_region 11 with fail
    go_upto_region 16 with fail
    have hY3 := HY.out
    go_upto_region 18 with fail
    clear hY3 HY
    go_upto_region 19 with fail
    have b4 := H4.out
    go_upto_region 20 with fail
    clear b4 H4
    have hX3 := H3.out
    have b5 := H5.out
    go_upto_region 21 with fail
    clear hX3 H3 b5 H5
    go_wp2_with fail
    go_ret
    exact ⟨rfl, rfl⟩
end
section
open Go Go.ChangeShapes Go.WideShapes Go.RowKit
set_option linter.unusedVariables false
set_option linter.unusedSimpArgs false
set_option maxRecDepth 100000 in
theorem Ldexp_any (y t n : Nat) (h0 : 0 < y) (hy : y < fIN) (ht : t < fIN) (ht0 : 0 < t) (hn : n ≤ 2200) (hm : magV t = magV y * 2 ^ n) (w : World) : Calls Tryz.prog 75 #[.float .f64 y, .int .i64 (n : Int)] w fun e w' => e = .returned (.float .f64 t) ∧ w = w' := by
  have HL := Lib.hid (ldexp_any y t n h0 hy ht ht0 hn hm)
  clear h0 hy ht ht0 hm hn
  go_enter Tryz.func75, Tryz.ntmps75
  go_wp2_with (first
    | (go_at_call 115; (with_reducible refine (HL.out _).mono ?_); rintro e w9 ⟨rfl, rfl⟩)
    | fail)
  go_ret
  exact ⟨rfl, rfl⟩
def fltOf : Value → Nat
  | .float _ r => r
  | _ => 0
theorem fltOf_flt (k : FloatKind) (r : Nat) : fltOf (.float k r) = r := rfl
theorem gt_pos {a b : Nat} (ha : a < fIN) (hb : b < fIN) : (FloatKind.f64.format.order a b == some .gt) = decide (b < a) := by
  rw [fmt_double, gt_d (pos_facts ha).2.2.1 (pos_facts hb).2.2.1, place_pos ha, place_pos hb]
  rw [decide_eq_decide]; omega
theorem eq_pos {a b : Nat} (ha : a < fIN) (hb : b < fIN) : (FloatKind.f64.format.order a b == some .eq) = decide (a = b) := by
  rw [fmt_double, eq_d (pos_facts ha).2.2.1 (pos_facts hb).2.2.1, place_pos ha, place_pos hb]
  rw [decide_eq_decide]; omega
theorem lt_frac {f g : Nat} (hf : f < 4503599627370496) (hg : g < 4503599627370496) : (FloatKind.f64.format.order (4602678819172646912 + f) (4602678819172646912 + g) == some .lt) = decide (f < g) := by
  have hI : fIN = 9218868437227405312 := rfl
  rw [lt_pos (by omega) (by omega), decide_eq_decide]; omega
/-- One round's numbers. -/
theorem md_nums {r y fr fy : Nat} {xr xy : Int} (hrI : r < fIN) (hyI : y < fIN) (h0 : 0 < y) (hle : y ≤ r) (hr : FxP r fr xr) (hy : FxP y fy xy) :
    ∃ t r' k : Nat, t < fIN ∧ 0 < t ∧ r' < r ∧ r' < fIN ∧ k ≤ 2200 ∧ magV t = magV y * 2 ^ k ∧ magV r' % magV y = magV r % magV y ∧ Ieee.double.sub r t = some r' ∧
      (fr < fy → IntKind.i64.wrap (xr - 1 - xy) = (k : Int)) ∧ (¬ fr < fy → IntKind.i64.wrap (xr - xy) = (k : Int)) ∧ -1100 ≤ xr ∧ xr ≤ 1200 := by
  obtain ⟨f1, Xr, rfl, hX, nr⟩ := hr
  obtain ⟨f2, Xy, rfl, hY, ny⟩ := hy
  obtain ⟨l1, l2⟩ := nf_le nr ny (mag_le hle)
  obtain ⟨t, r', t1, t2, t3, t4, t5, t6⟩ := md_step hrI hyI h0 hle nr ny
  refine ⟨t, r', kS fr Xr fy Xy, t1, t2, t3, by omega, ?_, t4, t6, sub_exact hrI t1 (by omega) t5, ?_, ?_, by omega, by omega⟩
  · unfold kS; omega
  · intro h
    have := l2 h
    rw [IntWalk.i64_in _ (by omega)]
    unfold kS
    rw [if_pos h]; omega
  · intro h
    rw [IntWalk.i64_in _ (by omega)]
    unfold kS
    rw [if_neg h]; omega
theorem word_f (r : Nat) : Ieee.double.word false r = r := rfl
theorem flip_pos {r : Nat} (h : r < fIN) : flipB r = Ieee.double.word true r := by
  have e1 : fSG = 9223372036854775808 := rfl
  have e2 : fIN = 9218868437227405312 := rfl
  unfold flipB
  rw [if_pos (by omega)]
  show _ = Ieee.double.signWeight + r
  rw [sw_d]; omega
theorem neg_split {a : Nat} (ha : a < 18446744073709551616) : (negB a = false → a % fSG = a) ∧ (negB a = true → a = fSG + a % fSG) := by
  unfold negB
  rw [show fSG = 9223372036854775808 from rfl]
  constructor
  · intro h; simp at h; omega
  · intro h; simp at h; omega
theorem flip_neg {a : Nat} (ha : a < 18446744073709551616) (h : negB a = true) : flipB a = a % fSG := by
  have h1 := (neg_split ha).2 h
  unfold flipB
  rw [if_neg (by omega)]; omega
set_option maxRecDepth 100000 in
theorem mod_any (a b rr : Nat) (ha : a < 18446744073709551616) (hna : nanB a = false) (hia : a % fSG < fIN) (hb : b < 18446744073709551616) (hnb : nanB b = false) (hb0 : 0 < b % fSG) (hbI : b % fSG < fIN) (hrr : rr < fIN) (hm : magV rr = magV (a % fSG) % magV (b % fSG)) (w : World) :
    Calls Tryz.prog 51 #[.float .f64 a, .float .f64 b] w fun e w' => e = .returned (.float .f64 (Ieee.double.word (negB a) rr)) ∧ w = w' := by
  have eS : fSG = 9223372036854775808 := rfl
  have hI : fIN = 9218868437227405312 := rfl
  have z1 : (FloatKind.f64.format.order b 0 == some .eq) = false := by rw [fmt_double, zero_d]; simp; omega
  have hiA : infB a = false := by unfold infB; rw [decide_eq_false_iff_not]; omega
  have HI := Lib.hid (isInf0 a ha hna)
  rw [hiA] at HI
  have HNa := Lib.hid (mIsNaN_any a hna)
  have HNb := Lib.hid (mIsNaN_any b hnb)
  have HA := Lib.hid (fun W => abs_one b (b % fSG) (andNot_u b hb) W)
  obtain ⟨y, hy⟩ : ∃ y, b % fSG = y := ⟨_, rfl⟩
  rw [hy] at HA hb0 hbI hm
  have HFy := Lib.hid (Frexp_any y hb0 hbI)
  have key : ∃ ng : Bool, (FloatKind.f64.format.order a 0 == some .lt) = ng ∧
      ((ng = true ∧ negB a = true ∧ ∀ W, (Op.unary UnOp.neg (.float .f64 a)).run Tryz.prog W = .ok (.float .f64 (a % fSG)) W) ∨
       (ng = false ∧ negB a = false ∧ a = a % fSG) ∨ (ng = false ∧ negB a = true ∧ a = fSG)) := by
    have hz : nanB 0 = false := rfl
    have hp0 : placeZ 0 = 0 := rfl
    rw [fmt_double, lt_d hna hz, hp0]
    cases hn : negB a
    · refine ⟨_, rfl, .inr (.inl ⟨?_, rfl, ?_⟩)⟩
      · unfold placeZ; rw [hn, if_neg (by simp), decide_eq_false_iff_not]; omega
      · exact ((neg_split ha).1 hn).symm
    · by_cases h0 : a % fSG = 0
      · refine ⟨_, rfl, .inr (.inr ⟨?_, rfl, ?_⟩)⟩
        · unfold placeZ; rw [hn, if_pos rfl, decide_eq_false_iff_not]; omega
        · have := (neg_split ha).2 hn; omega
      · refine ⟨_, rfl, .inl ⟨?_, rfl, fun W => ?_⟩⟩
        · unfold placeZ; rw [hn, if_pos rfl, decide_eq_true_eq]; omega
        · rw [run_neg a ha hna W]
          rw [flip_neg ha hn]
  obtain ⟨ng, hng, hcs⟩ := key
  obtain ⟨A, hA⟩ : ∃ A, a % fSG = A := ⟨_, rfl⟩
  rw [hA] at hcs hia hm
  clear hy hiA
  have w1 : ∀ r, r < fIN → (FloatKind.f64.format.order r y == some .gt) = decide (y < r) := fun r hr => gt_pos hr hbI
  have w2 : ∀ r, r < fIN → (FloatKind.f64.format.order r y == some .eq) = decide (r = y) := fun r hr => eq_pos hr hbI
  have W1 := Lib.hid w1
  have W2 := Lib.hid w2
  clear w1 w2
  rcases hcs with ⟨rfl, hnA, hneg⟩ | ⟨rfl, hnA, haA⟩ | ⟨rfl, hnA, haA⟩
  · go_enter Tryz.func51, Tryz.ntmps51
    go_wp2_with (first
      | (go_at_call 25; (with_reducible refine (HI.out _).mono ?_); rintro e w9 ⟨rfl, rfl⟩)
      | (go_at_call 72; first | ((with_reducible refine (HNa.out _).mono ?_); rintro e w9 ⟨rfl, rfl⟩) | ((with_reducible refine (HNb.out _).mono ?_); rintro e w9 ⟨rfl, rfl⟩))
      | (go_at_call 40; (with_reducible refine (HA.out _).mono ?_); rintro e w9 ⟨rfl, rfl⟩)
      | fail)
    refine (HFy.out _).mono ?_
    rintro e w9 ⟨⟨fy, xy, rfl, hfy⟩, rfl⟩
    have HX := Lib.hid hfy
    clear hfy
    go_wp2_with fail
    have HM := Lib.hid hm
    have HIA := Lib.hid hia
    have HRR := Lib.hid hrr
    have HYI := Lib.hid hbI
    have HY0 := Lib.hid hb0
    have HNA := Lib.hid hnA
    clear hm hia hrr hbI hb0 hI eS ha hb hna hnb HI HNa HNb HA HFy z1 hnA
    obtain ⟨M, hMM⟩ : ∃ M, magV A % magV y = M := ⟨_, rfl⟩
    rw [hMM] at HM
    go_loopw [7, 8, 9] (fun s7 s8 s9 wr => ∃ r : Nat, s7 = .float .f64 r ∧ r < fIN ∧ magV r % magV y = M ∧ w = wr) (fun s7 s8 s9 wr => fltOf s7)
    case atStart => exact ⟨_, rfl, HIA.out, hMM, rfl⟩
    case round =>
      obtain ⟨r, rfl, hrI, hrM, rfl⟩ := hrel
      have w1 := W1.out r hrI
      have w2 := W2.out r hrI
      have HXd := HX.out
      by_cases hle : y ≤ r
      · have HFr := Lib.hid (Frexp_any r (by have := HY0.out; omega) hrI)
        have hcmp : (decide (y < r) = true ∧ decide (r = y) = false) ∨ (decide (y < r) = false ∧ decide (r = y) = true) := by
          rcases Nat.lt_or_eq_of_le hle with h | h
          · exact .inl ⟨by simpa using h, by simp; omega⟩
          · exact .inr ⟨by simp; omega, by simp; omega⟩
        have HRI := Lib.hid hrI
        have HLE := Lib.hid hle
        have HRM := Lib.hid hrM
        clear hrI hle hrM hMM
        rcases hcmp with ⟨c1, c2⟩ | ⟨c1, c2⟩
        all_goals
          rw [c1] at w1
          rw [c2] at w2
          clear c1 c2
          go_wp2_with fail
          refine (HFr.out _).mono ?_
          rintro e w9 ⟨⟨fr, xr, rfl, hfr⟩, rfl⟩
          obtain ⟨t, r', k, t1, t2, t3, t4, t5, t6, t7, t8, t9, t10, t11, t12⟩ := md_nums HRI.out HYI.out HY0.out HLE.out hfr HX.out
          have l1 := lt_frac hfr.1 HX.out.1
          have m1 := run_float_arith (P := Tryz.prog) w .sub 32 .f64 r t r' t8
          have HL := Lib.hid (Ldexp_any y t k HY0.out HYI.out t1 t2 t5 t6)
          have HRM2 := Lib.hid (t7.trans HRM.out)
          have HR4 := Lib.hid t4
          have HR3 := Lib.hid t3
          clear hfr HXd t1 t2 t3 t4 t5 t6 t7 t8 w1 w2
          by_cases hf : fr < fy
          · have hd : decide (fr < fy) = true := by simpa using hf
            rw [hd] at l1
            have H9 := Lib.hid (t9 hf)
            clear hf hd t9 t10
            go_upto_region 12 with fail
            have t9 := H9.out
            go_wp2_with (first
              | (go_at_call 75; (with_reducible refine (HL.out _).mono ?_); rintro e w9 ⟨rfl, rfl⟩)
              | fail)
            exact ⟨⟨r', rfl, HR4.out, HRM2.out, trivial⟩, HR3.out⟩
          · have hd : decide (fr < fy) = false := by simpa using hf
            rw [hd] at l1
            have H9 := Lib.hid (t10 hf)
            clear hf hd t9 t10
            go_upto_region 12 with fail
            have t9 := H9.out
            go_wp2_with (first
              | (go_at_call 75; (with_reducible refine (HL.out _).mono ?_); rintro e w9 ⟨rfl, rfl⟩)
              | fail)
            exact ⟨⟨r', rfl, HR4.out, HRM2.out, trivial⟩, HR3.out⟩
      · have c1 : decide (y < r) = false := by simp; omega
        have c2 : decide (r = y) = false := by simp; omega
        rw [c1] at w1
        rw [c2] at w2
        have hfin : r = rr := by
          refine mag_inj ?_
          rw [HM.out, ← hrM, Nat.mod_eq_of_lt (mag_lt (by omega))]
        subst hfin
        have HNG := Lib.hid (fun W => run_neg r (pos_facts hrI).2.2.2 (pos_facts hrI).2.2.1 W)
        have HFP := Lib.hid (flip_pos hrI)
        have hng3 := fun W => (show (Op.unary UnOp.neg (.float .f64 r)).run Tryz.prog W = .ok (.float .f64 (Ieee.double.word true r)) W by rw [HNG.out W, HFP.out])
        obtain ⟨q, hq⟩ : ∃ q, Ieee.double.word true r = q := ⟨_, rfl⟩
        rw [hq] at hng3
        have HQ := Lib.hid hq
        clear hq c1 c2 HFP HNG
        go_wp2_with fail
        go_ret
        exact ⟨by rw [HNA.out, HQ.out]; rfl, rfl⟩
  · subst haA
    go_enter Tryz.func51, Tryz.ntmps51
    go_wp2_with (first
      | (go_at_call 25; (with_reducible refine (HI.out _).mono ?_); rintro e w9 ⟨rfl, rfl⟩)
      | (go_at_call 72; first | ((with_reducible refine (HNa.out _).mono ?_); rintro e w9 ⟨rfl, rfl⟩) | ((with_reducible refine (HNb.out _).mono ?_); rintro e w9 ⟨rfl, rfl⟩))
      | (go_at_call 40; (with_reducible refine (HA.out _).mono ?_); rintro e w9 ⟨rfl, rfl⟩)
      | fail)
    refine (HFy.out _).mono ?_
    rintro e w9 ⟨⟨fy, xy, rfl, hfy⟩, rfl⟩
    have HX := Lib.hid hfy
    clear hfy
    go_wp2_with fail
    have HM := Lib.hid hm
    have HIA := Lib.hid hia
    have HRR := Lib.hid hrr
    have HYI := Lib.hid hbI
    have HY0 := Lib.hid hb0
    have HNA := Lib.hid hnA
    clear hm hia hrr hbI hb0 hI eS ha hb hna hnb HI HNa HNb HA HFy z1 hnA
    obtain ⟨M, hMM⟩ : ∃ M, magV a % magV y = M := ⟨_, rfl⟩
    rw [hMM] at HM
    go_loopw [7, 8, 9] (fun s7 s8 s9 wr => ∃ r : Nat, s7 = .float .f64 r ∧ r < fIN ∧ magV r % magV y = M ∧ w = wr) (fun s7 s8 s9 wr => fltOf s7)
    case atStart => exact ⟨_, rfl, HIA.out, hMM, rfl⟩
    case round =>
      obtain ⟨r, rfl, hrI, hrM, rfl⟩ := hrel
      have w1 := W1.out r hrI
      have w2 := W2.out r hrI
      have HXd := HX.out
      by_cases hle : y ≤ r
      · have HFr := Lib.hid (Frexp_any r (by have := HY0.out; omega) hrI)
        have hcmp : (decide (y < r) = true ∧ decide (r = y) = false) ∨ (decide (y < r) = false ∧ decide (r = y) = true) := by
          rcases Nat.lt_or_eq_of_le hle with h | h
          · exact .inl ⟨by simpa using h, by simp; omega⟩
          · exact .inr ⟨by simp; omega, by simp; omega⟩
        have HRI := Lib.hid hrI
        have HLE := Lib.hid hle
        have HRM := Lib.hid hrM
        clear hrI hle hrM hMM
        rcases hcmp with ⟨c1, c2⟩ | ⟨c1, c2⟩
        all_goals
          rw [c1] at w1
          rw [c2] at w2
          clear c1 c2
          go_wp2_with fail
          refine (HFr.out _).mono ?_
          rintro e w9 ⟨⟨fr, xr, rfl, hfr⟩, rfl⟩
          obtain ⟨t, r', k, t1, t2, t3, t4, t5, t6, t7, t8, t9, t10, t11, t12⟩ := md_nums HRI.out HYI.out HY0.out HLE.out hfr HX.out
          have l1 := lt_frac hfr.1 HX.out.1
          have m1 := run_float_arith (P := Tryz.prog) w .sub 32 .f64 r t r' t8
          have HL := Lib.hid (Ldexp_any y t k HY0.out HYI.out t1 t2 t5 t6)
          have HRM2 := Lib.hid (t7.trans HRM.out)
          have HR4 := Lib.hid t4
          have HR3 := Lib.hid t3
          clear hfr HXd t1 t2 t3 t4 t5 t6 t7 t8 w1 w2
          by_cases hf : fr < fy
          · have hd : decide (fr < fy) = true := by simpa using hf
            rw [hd] at l1
            have H9 := Lib.hid (t9 hf)
            clear hf hd t9 t10
            go_upto_region 12 with fail
            have t9 := H9.out
            go_wp2_with (first
              | (go_at_call 75; (with_reducible refine (HL.out _).mono ?_); rintro e w9 ⟨rfl, rfl⟩)
              | fail)
            exact ⟨⟨r', rfl, HR4.out, HRM2.out, trivial⟩, HR3.out⟩
          · have hd : decide (fr < fy) = false := by simpa using hf
            rw [hd] at l1
            have H9 := Lib.hid (t10 hf)
            clear hf hd t9 t10
            go_upto_region 12 with fail
            have t9 := H9.out
            go_wp2_with (first
              | (go_at_call 75; (with_reducible refine (HL.out _).mono ?_); rintro e w9 ⟨rfl, rfl⟩)
              | fail)
            exact ⟨⟨r', rfl, HR4.out, HRM2.out, trivial⟩, HR3.out⟩
      · have c1 : decide (y < r) = false := by simp; omega
        have c2 : decide (r = y) = false := by simp; omega
        rw [c1] at w1
        rw [c2] at w2
        have hfin : r = rr := by
          refine mag_inj ?_
          rw [HM.out, ← hrM, Nat.mod_eq_of_lt (mag_lt (by omega))]
        subst hfin
        clear c1 c2
        go_wp2_with fail
        go_ret
        exact ⟨by rw [HNA.out]; rfl, rfl⟩
  · have hA0 : A = 0 := by rw [← hA, haA, eS]
    subst hA0
    have hr0 : rr = 0 := by
      refine mag_inj ?_
      rw [hm, mag_zero, Nat.zero_mod]
    have o1 : (FloatKind.f64.format.order a y == some .gt) = false := by
      rw [fmt_double, gt_d hna (pos_facts hbI).2.2.1, place_pos hbI, decide_eq_false_iff_not]
      unfold placeZ; rw [hnA, if_pos rfl]; omega
    have o2 : (FloatKind.f64.format.order a y == some .eq) = false := by
      rw [fmt_double, eq_d hna (pos_facts hbI).2.2.1, place_pos hbI, decide_eq_false_iff_not]
      unfold placeZ; rw [hnA, if_pos rfl]; omega
    have HNA := Lib.hid hnA
    have HAA := Lib.hid haA
    subst hr0
    clear haA eS
    go_enter Tryz.func51, Tryz.ntmps51
    go_wp2_with (first
      | (go_at_call 25; (with_reducible refine (HI.out _).mono ?_); rintro e w9 ⟨rfl, rfl⟩)
      | (go_at_call 72; first | ((with_reducible refine (HNa.out _).mono ?_); rintro e w9 ⟨rfl, rfl⟩) | ((with_reducible refine (HNb.out _).mono ?_); rintro e w9 ⟨rfl, rfl⟩))
      | (go_at_call 40; (with_reducible refine (HA.out _).mono ?_); rintro e w9 ⟨rfl, rfl⟩)
      | fail)
    refine (HFy.out _).mono ?_
    rintro e w9 ⟨⟨fy, xy, rfl, hfy⟩, rfl⟩
    have HX := Lib.hid hfy
    clear hfy
    go_wp2_with fail
    clear hm hia hrr hbI hb0 hI ha hb hna hnb HI HNa HNb HA HFy z1 hnA hA W1 W2
    go_loopw [7, 8, 9] (fun s7 s8 s9 wr => s7 = .float .f64 a ∧ w = wr) (fun s7 s8 s9 wr => 0)
    case atStart => exact ⟨rfl, rfl⟩
    case round =>
      obtain ⟨rfl, rfl⟩ := hrel
      go_wp2_with fail
      go_ret
      exact ⟨by rw [HNA.out, HAA.out]; rfl, rfl⟩
end
end Go.Proofs.YtbhaigbgembcaaaGreatDoor
