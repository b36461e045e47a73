/- math.Mod, Copysign, Floor; real.divide. The document's rest of two floats, plainly. The document's rest of two floats, run. Quotients rounded down and rests: of any two floats, on both sides. Floor and Mod. -/
import Derived.Test.YtpflbnddjclndaaGreatDoorPGRlV2
import Derived.Test.YtpflbnddjclndaaGreatDoorPGRlU
import Derived.Test.YtpflbnddjclndaaGreatDoorPGRlB
import Derived.Test.YtpflbnddjclndaaGreatDoorPGRlG
import Derived.LoopTactic
import Derived.Test.YtpflbnddjclndaaGreatDoorPGRlZ
namespace Go.Proofs.YtpflbnddjclndaaGreatDoor
section
open Go Go.ChangeShapes Go.WideShapes Go.RowKit
set_option linter.unusedVariables false
set_option linter.unusedSimpArgs false
/-- The rest's size: of an infinite divisor, of a finite one. -/
def RS (a b rr : Nat) : Prop := rr < fIN ∧ (infB b = true → rr = a % fSG) ∧ (infB b = false → magV rr = magV (a % fSG) % magV (b % fSG))
theorem rs_ex (a b : Nat) (hna : nanB a = false) (hia : infB a = false) (hnb : nanB b = false) (hzb : zeroB b = false) : ∃ rr, RS a b rr := by
  have e2 : fIN = 9218868437227405312 := rfl
  have ha : a % fSG < fIN := by unfold nanB at hna; unfold infB at hia; rw [decide_eq_false_iff_not] at hna hia; omega
  cases hi : infB b
  · have hb : b % fSG < fIN := by unfold nanB at hnb; unfold infB at hi; rw [decide_eq_false_iff_not] at hnb hi; omega
    have h0 : 0 < b % fSG := by unfold zeroB at hzb; rw [decide_eq_false_iff_not] at hzb; omega
    obtain ⟨r, r1, r2⟩ := rest_rp (⟨_, ha, rfl⟩ : RP (magV (a % fSG))) (⟨_, hb, rfl⟩ : RP (magV (b % fSG))) (mag_pos h0)
    exact ⟨r, r1, fun h => absurd (hi.symm.trans h) (by simp), fun _ => r2⟩
  · exact ⟨a % fSG, ha, fun _ => rfl, fun h => absurd (hi.symm.trans h) (by simp)⟩
theorem self_word {a : Nat} (ha : a < 18446744073709551616) : Ieee.double.word (negB a) (a % fSG) = a := by
  unfold Ieee.Format.word
  rw [sw_d]
  cases hn : negB a
  · rw [if_neg (by simp)]; exact (neg_split ha).1 hn
  · rw [if_pos rfl]; exact ((neg_split ha).2 hn).symm
set_option maxRecDepth 100000 in
theorem frexp_infy (w : World) : Calls Tryz.prog 109 #[.float .f64 9218868437227405312] w fun e w' => e = .returned (.tuple #[.float .f64 9218868437227405312, .int .i64 0]) ∧ w = w' := by
  have h1 : (FloatKind.f64.format.order 9218868437227405312 0 == some .eq) = false := by rfl
  have HI := Lib.hid (fun W => isInf_two 9218868437227405312 9218868437227405312 true (by rfl) (by rfl) W)
  go_enter Tryz.func109, Tryz.ntmps109
  go_wp2_with (first
    | (go_at_call 19; (with_reducible refine (HI.out _).mono ?_); rintro e w9 ⟨rfl, rfl⟩)
    | fail)
  go_ret2
  exact ⟨rfl, rfl⟩
set_option maxRecDepth 100000 in
theorem Frexp_infy (w : World) : Calls Tryz.prog 77 #[.float .f64 9218868437227405312] w fun e w' => e = .returned (.tuple #[.float .f64 9218868437227405312, .int .i64 0]) ∧ w = w' := by
  go_enter Tryz.func77, Tryz.ntmps77
  go_wp2_with (first
    | (go_at_call 109; (with_reducible refine (frexp_infy _).mono ?_); rintro e w9 ⟨rfl, rfl⟩)
    | fail)
  go_ret2
  exact ⟨rfl, rfl⟩
theorem place_lt {r : Nat} (hr : nanB r = false) (hi : infB r = false) : placeZ r < placeZ 9218868437227405312 := by
  have e2 : fIN = 9218868437227405312 := rfl
  have h1 : placeZ 9218868437227405312 = 9218868437227405312 := by decide +kernel
  rw [h1]
  unfold placeZ
  unfold nanB at hr
  unfold infB at hi
  rw [decide_eq_false_iff_not] at hr hi
  split <;> omega
set_option maxRecDepth 100000 in
theorem mod_infy (a b : Nat) (ha : a < 18446744073709551616) (hna : nanB a = false) (hia : infB a = false) (hb : b < 18446744073709551616) (hib : infB b = true) (w : World) :
    Calls Tryz.prog 61 #[.float .f64 a, .float .f64 b] w fun e w' => e = .returned (.float .f64 a) ∧ w = w' := by
  have eS : fSG = 9223372036854775808 := rfl
  have hI : fIN = 9218868437227405312 := rfl
  have hb0 : b % fSG = 9218868437227405312 := by unfold infB at hib; simpa [hI] using hib
  have hnb : nanB b = false := by unfold nanB; rw [hb0, hI]; simp
  have z1 : (FloatKind.f64.format.order b 0 == some .eq) = false := by rw [fmt_double, zero_d, hb0]; rfl
  have HI := Lib.hid (isInf0 a ha hna)
  rw [hia] at HI
  have HNa := Lib.hid (mIsNaN_any a hna)
  have HNb := Lib.hid (mIsNaN_any b hnb)
  have HA := Lib.hid (fun W => abs_one b (b % fSG) (andNot_u b hb) W)
  rw [hb0] at HA
  have hni : nanB 9218868437227405312 = false := by decide +kernel
  have pl := place_lt hna hia
  have o1 : (FloatKind.f64.format.order a 9218868437227405312 == some .gt) = false := by rw [fmt_double, gt_d hna hni, decide_eq_false_iff_not]; omega
  have o2 : (FloatKind.f64.format.order a 9218868437227405312 == some .eq) = false := by rw [fmt_double, eq_d hna hni, decide_eq_false_iff_not]; omega
  have hnf := nan_flip ha
  rw [hna] at hnf
  have hif := inf_flip ha
  rw [hia] at hif
  have pl2 := place_lt hnf hif
  have o3 : (FloatKind.f64.format.order (flipB a) 9218868437227405312 == some .gt) = false := by rw [fmt_double, gt_d hnf hni, decide_eq_false_iff_not]; omega
  have o4 : (FloatKind.f64.format.order (flipB a) 9218868437227405312 == some .eq) = false := by rw [fmt_double, eq_d hnf hni, decide_eq_false_iff_not]; omega
  have n1 := fun W => run_neg a ha hna W
  have n2 := fun W => run_neg (flipB a) (flip_lt ha) hnf W
  rw [flip_flip ha] at n2
  obtain ⟨c, hc⟩ : ∃ c, flipB a = c := ⟨_, rfl⟩
  rw [hc] at o3 o4 n1 n2
  obtain ⟨ng, hng⟩ : ∃ ng : Bool, (FloatKind.f64.format.order a 0 == some .lt) = ng := ⟨_, rfl⟩
  clear pl pl2 hc hnf hif hni hb0 hnb hib ha hb hna hia eS hI
  go_enter Tryz.func61, Tryz.ntmps61
  cases ng
  · go_wp2_with (first
      | (go_at_call 19; (with_reducible refine (HI.out _).mono ?_); rintro e w9 ⟨rfl, rfl⟩)
      | (go_at_call 75; first | ((with_reducible refine (HNa.out _).mono ?_); rintro e w9 ⟨rfl, rfl⟩) | ((with_reducible refine (HNb.out _).mono ?_); rintro e w9 ⟨rfl, rfl⟩))
      | (go_at_call 21; (with_reducible refine (HA.out _).mono ?_); rintro e w9 ⟨rfl, rfl⟩)
      | (go_at_call 77; (with_reducible refine (Frexp_infy _).mono ?_); rintro e w9 ⟨rfl, rfl⟩)
      | fail)
    go_loopw [7, 8, 9] (fun s7 s8 s9 wr => s7 = .float .f64 a ∧ w = wr) (fun s7 s8 s9 wr => 0)
    case atStart => exact ⟨rfl, rfl⟩
    case round =>
      obtain ⟨rfl, rfl⟩ := hrel
      go_wp2_with fail
      go_ret
      exact ⟨rfl, rfl⟩
  · go_wp2_with (first
      | (go_at_call 19; (with_reducible refine (HI.out _).mono ?_); rintro e w9 ⟨rfl, rfl⟩)
      | (go_at_call 75; first | ((with_reducible refine (HNa.out _).mono ?_); rintro e w9 ⟨rfl, rfl⟩) | ((with_reducible refine (HNb.out _).mono ?_); rintro e w9 ⟨rfl, rfl⟩))
      | (go_at_call 21; (with_reducible refine (HA.out _).mono ?_); rintro e w9 ⟨rfl, rfl⟩)
      | (go_at_call 77; (with_reducible refine (Frexp_infy _).mono ?_); rintro e w9 ⟨rfl, rfl⟩)
      | fail)
    go_loopw [7, 8, 9] (fun s7 s8 s9 wr => s7 = .float .f64 c ∧ w = wr) (fun s7 s8 s9 wr => 0)
    case atStart => exact ⟨rfl, rfl⟩
    case round =>
      obtain ⟨rfl, rfl⟩ := hrel
      go_wp2_with fail
      go_ret
      exact ⟨rfl, rfl⟩
set_option maxRecDepth 100000 in
theorem Mod_any (a b rr : Nat) (ha : a < 18446744073709551616) (hna : nanB a = false) (hia : infB a = false) (hb : b < 18446744073709551616) (hnb : nanB b = false) (hzb : zeroB b = false) (hrs : RS a b rr) (w : World) :
    Calls Tryz.prog 40 #[.float .f64 a, .float .f64 b] w fun e w' => e = .returned (.float .f64 (Ieee.double.word (negB a) rr)) ∧ w = w' := by
  have e2 : fIN = 9218868437227405312 := rfl
  have HM0 : (∀ W, Calls Tryz.prog 61 #[.float .f64 a, .float .f64 b] W fun e w' => e = .returned (.float .f64 (Ieee.double.word (negB a) rr)) ∧ W = w') := by
    intro W
    obtain ⟨h1, h2, h3⟩ := hrs
    cases hi : infB b
    · have ha2 : a % fSG < fIN := by unfold nanB at hna; unfold infB at hia; rw [decide_eq_false_iff_not] at hna hia; omega
      have hb2 : b % fSG < fIN := by unfold nanB at hnb; unfold infB at hi; rw [decide_eq_false_iff_not] at hnb hi; omega
      have h0 : 0 < b % fSG := by unfold zeroB at hzb; rw [decide_eq_false_iff_not] at hzb; omega
      exact mod_any a b rr ha hna ha2 hb hnb h0 hb2 h1 (h3 hi) W
    · have := h2 hi
      subst this
      rw [self_word ha]
      exact mod_infy a b ha hna hia hb hi W
  have HM := Lib.hid HM0
  clear HM0
  obtain ⟨m, hm⟩ : ∃ m, Ieee.double.word (negB a) rr = m := ⟨_, rfl⟩
  rw [hm] at HM ⊢
  clear ha hna hia hb hnb hzb hrs e2 hm
  go_enter Tryz.func40, Tryz.ntmps40
  go_wp2_with (first
    | (go_at_call 61; (with_reducible refine (HM.out _).mono ?_); rintro e w9 ⟨rfl, rfl⟩)
    | fail)
  go_ret
  exact ⟨rfl, rfl⟩
theorem or_sign (x : Nat) (n : Bool) (hx : x < 9223372036854775808) : bits .or .u64 (x : Int) (if n = true then 9223372036854775808 else 0) = ((Ieee.double.word n x : Nat) : Int) := by
  cases n
  · have h := u64_or_nat x 0 (by omega) (by omega)
    rw [Nat.or_zero] at h
    exact h
  · have h := u64_or_nat x 9223372036854775808 (by omega) (by omega)
    refine h.trans (congrArg _ ?_)
    have e := Nat.two_pow_add_eq_or_of_lt (i := 63) (b := x) (by simpa using hx) 1
    rw [Nat.or_comm]
    show _ = Ieee.double.signWeight + x
    rw [sw_d, show fSG = 2 ^ 63 * 1 from rfl, e]
set_option maxRecDepth 100000 in
theorem copysign_any (f s : Nat) (hf : f < 18446744073709551616) (hs : s < 18446744073709551616) (w : World) : Calls Tryz.prog 41 #[.float .f64 f, .float .f64 s] w fun e w' => e = .returned (.float .f64 (Ieee.double.word (negB s) (f % fSG))) ∧ w = w' := by
  have h1 := run_f64bits f w
  have h2 := run_f64bits s w
  have h3 := andNot_u f hf
  have h4 := and_sign s hs
  have h5 := or_sign (f % fSG) (negB s) (Nat.mod_lt _ (by decide))
  have h6 := run_frombits (Ieee.double.word (negB s) (f % fSG)) w
  rw [← h4] at h5
  obtain ⟨m, hm⟩ : ∃ m, Ieee.double.word (negB s) (f % fSG) = m := ⟨_, rfl⟩
  rw [hm] at h5 h6 ⊢
  obtain ⟨k, hk⟩ : ∃ k, bits .and .u64 (s : Int) 9223372036854775808 = k := ⟨_, rfl⟩
  rw [hk] at h5
  obtain ⟨x, hx⟩ : ∃ x, f % fSG = x := ⟨_, rfl⟩
  rw [hx] at h3 h5
  clear hm h4 hf hs hx
  go_enter Tryz.func41, Tryz.ntmps41
  go_wp2_with fail
  go_ret
  exact ⟨rfl, rfl⟩
theorem run_afloor_any (b : Nat) (hb : b < 18446744073709551616) (hx : nanB b = false) (w : World) : (callFunc 62 #[.float .f64 b]).run Tryz.prog w = .ok (.value (.float .f64 (flB b))) w := by
  rw [run_callFunc_extern Tryz.func62 (by kernel_rfl) (by kernel_rfl) (by kernel_rfl) (e := Extern.MathFloor.toIntegral "math.archFloor" .down) (by kernel_rfl)]
  have h3 : Extern.MathFloor.toIntegral "math.archFloor" .down #[.float .f64 b] = pure (.float .f64 (flB b)) := by
    show (match FloatKind.f64.decode b with
      | .nan s t =>
        if FloatKind.f64.format.quiet t = t then pure (.float .f64 b) else do
        let kept ← choose (.extern "math.Floor,Ceil,Trunc,RoundToEven.signallingNaN kept" 2)
        pure (.float .f64 (if kept == 1 then b else FloatKind.f64.encode (.nan s (FloatKind.f64.format.quiet t))))
      | d => pure (.float .f64 (FloatKind.f64.encode (d.integral .down))) : Sem Value) = _
    unfold flB
    rcases form_nn hx with ⟨s, h⟩ | ⟨s, m, p, h⟩
    · have h' : FloatKind.f64.decode b = .infinity s := h
      rw [h', h]; rfl
    · have h' : FloatKind.f64.decode b = .number s m p := h
      rw [h', h]; rfl
  rw [h3]
  rfl
set_option maxRecDepth 100000 in
theorem floor_any (b : Nat) (hb : b < 18446744073709551616) (hx : nanB b = false) (w : World) : Calls Tryz.prog 42 #[.float .f64 b] w fun e w' => e = .returned (.float .f64 (flB b)) ∧ w = w' := by
  have h1 := run_afloor_any b hb hx w
  obtain ⟨c, hc⟩ : ∃ c, flB b = c := ⟨_, rfl⟩
  rw [hc] at h1 ⊢
  clear hc hx hb
  go_enter Tryz.func42, Tryz.ntmps42
  go_wp2_with fail
  go_ret
  exact ⟨rfl, rfl⟩
theorem isNaN_nn {b : Nat} (h : nanB b = false) (w : World) : Calls Tryz.prog 18 #[.float .f64 b] w fun e w' => e = .returned (.bool false) ∧ w = w' := by
  have h1 := isNaN_any b w
  rw [h] at h1
  exact h1
theorem isInf_nn {b : Nat} (h : FNn b) (w : World) : Calls Tryz.prog 19 #[.float .f64 b, .int .i64 0] w fun e w' => e = .returned (.bool (infB b)) ∧ w = w' := isInf0 b h.2 h.1 w
theorem zero_nn (b : Nat) : (FloatKind.f64.format.order b 0 == some .eq) = zeroB b := zero_d b
theorem neg_nn {b : Nat} (h : nanB b = false) (hz : zeroB b = false) : (FloatKind.f64.format.order b 0 == some .lt) = negB b := by
  have hz0 : nanB 0 = false := rfl
  have hp0 : placeZ 0 = 0 := rfl
  rw [fmt_double, lt_d h hz0, hp0]
  unfold zeroB at hz
  rw [decide_eq_false_iff_not] at hz
  unfold placeZ
  cases hn : negB b
  · rw [if_neg (by simp), decide_eq_false_iff_not]; omega
  · rw [if_pos rfl, decide_eq_true_eq]; omega
theorem one_mul (s t : Bool) : floatBits .mul .f64 (Ieee.double.word s 4607182418800017408) (Ieee.double.word t 4607182418800017408) = some (Ieee.double.word (s ^^ t) 4607182418800017408) := by
  cases s <;> cases t <;> decide +kernel
/- The quotient and the rest as real.divide answers them. -/
set_option maxRecDepth 100000 in
theorem divide_any (a b rr s d0 m1 d1 f : Nat) (ha : a < 18446744073709551616) (hna : nanB a = false) (hia : infB a = false) (hb : b < 18446744073709551616) (hnb : nanB b = false) (hzb : zeroB b = false) (hrs : RS a b rr) (H : DV a b rr s d0 m1 d1 f) (w : World) :
    Calls Tryz.prog 16 #[.float .f64 a, .float .f64 b] w fun e w' => e = .returned (.tuple #[.float .f64 f, .float .f64 m1]) ∧ w = w' := by
  have HNa := Lib.hid (isNaN_nn hna)
  have HNb := Lib.hid (isNaN_nn hnb)
  have HI := Lib.hid (isInf0 a ha hna)
  rw [hia] at HI
  have HM := Lib.hid (Mod_any a b rr ha hna hia hb hnb hzb hrs)
  obtain ⟨w1, w2, w3, w4⟩ := word_d (negB a) rr hrs.1
  have zm : zeroB (Ieee.double.word (negB a) rr) = decide (rr = 0) := by unfold zeroB; rw [w1]
  have n1 := zero_nn (Ieee.double.word (negB a) rr)
  rw [zm] at n1
  have n2 := neg_nn hnb hzb
  have H1 := Lib.hid (copysign_any 0 b (by decide) hb)
  have e0 : (0 : Nat) % fSG = 0 := rfl
  have eo : (4607182418800017408 : Nat) % fSG = 4607182418800017408 := rfl
  rw [e0] at H1
  have HDI := Lib.hid (isInf_nn H.nd1)
  have HFL := Lib.hid (floor_any d1 H.nd1.2 H.nd1.1)
  have a1 := run_float_arith (P := Tryz.prog) w .sub 38 .f64 _ _ _ H.hs
  have a2 := run_float_arith (P := Tryz.prog) w .quo 38 .f64 _ _ _ H.hd
  have z1 := zero_nn d1
  have HH := Lib.hid H
  obtain ⟨m, hm⟩ : ∃ m, Ieee.double.word (negB a) rr = m := ⟨_, rfl⟩
  have hmn : rr ≠ 0 → (FloatKind.f64.format.order m 0 == some .lt) = negB a := fun h0 => by rw [← hm, neg_nn w4 (by rw [zm]; simpa using h0), w2]
  rw [hm] at HM n1 a1
  obtain ⟨nB, hnB⟩ : ∃ n, negB b = n := ⟨_, rfl⟩
  obtain ⟨nA, hnA⟩ : ∃ n, negB a = n := ⟨_, rfl⟩
  obtain ⟨zD, hzD⟩ : ∃ n, zeroB d1 = n := ⟨_, rfl⟩
  obtain ⟨iD, hiD⟩ : ∃ n, infB d1 = n := ⟨_, rfl⟩
  rw [hzD] at z1
  rw [hiD] at HDI
  rw [hnA] at hmn
  rw [hnB] at n2
  have c0 := H.c0
  have c1 := H.c1
  have c2 := H.c2
  rw [hm, hnA, hnB] at c1 c2
  rw [hnB] at c0
  have KA := Lib.hid (copysign_any 4607182418800017408 a (by decide) ha)
  have KB := Lib.hid (copysign_any 4607182418800017408 b (by decide) hb)
  rw [eo, hnA] at KA
  rw [eo, hnB] at KB
  have mm := run_float_arith (P := Tryz.prog) w .mul 38 .f64 _ _ _ (one_mul nA nB)
  have wc := word_le (nA ^^ nB) 4607182418800017408 (by decide)
  have KC := Lib.hid (copysign_any 0 (Ieee.double.word (nA ^^ nB) 4607182418800017408) (by decide) wc.2.2.1)
  rw [wc.2.1, e0] at KC
  rw [hnB] at H1
  obtain ⟨pA, hpA⟩ : ∃ p, Ieee.double.word nA 4607182418800017408 = p := ⟨_, rfl⟩
  obtain ⟨pB, hpB⟩ : ∃ p, Ieee.double.word nB 4607182418800017408 = p := ⟨_, rfl⟩
  obtain ⟨pC, hpC⟩ : ∃ p, Ieee.double.word (nA ^^ nB) 4607182418800017408 = p := ⟨_, rfl⟩
  rw [hpA] at KA mm
  rw [hpB] at KB mm
  rw [hpC] at KC mm
  obtain ⟨fl, hfl⟩ : ∃ p, flB d1 = p := ⟨_, rfl⟩
  rw [hfl] at HFL
  have f0 := H.f0
  have f1 := H.f1
  have f2 := H.f2
  rw [hnA, hnB, hzD] at f0
  rw [hiD] at f1
  rw [hzD, hiD, hfl] at f2
  obtain ⟨z0, hz0⟩ : ∃ p, Ieee.double.word nB 0 = p := ⟨_, rfl⟩
  obtain ⟨zx, hzx⟩ : ∃ p, Ieee.double.word (nA ^^ nB) 0 = p := ⟨_, rfl⟩
  rw [hz0] at H1 c0
  rw [hzx] at KC f0
  clear hpA hpB hpC hfl hz0 hzx wc HH zm w1 w2 w3 w4 hm hnB hnA hzD hiD H hrs ha hna hia hb hnb hzb e0 eo
  by_cases h0 : rr = 0
  · obtain ⟨rfl, rfl⟩ := c0 h0
    have hd : decide (rr = 0) = true := by simpa using h0
    rw [hd] at n1
    clear hd h0 c0 c1 c2 hmn
    cases zD
    · cases iD
      · obtain ⟨q, q1, q2, q3, q4⟩ := f2 rfl rfl
        have a5 := run_float_arith (P := Tryz.prog) w .sub 38 .f64 _ _ _ q1
        cases hg : (Ieee.double.order q halfF == some .gt) with
        | true =>
          have a6 := run_float_arith (P := Tryz.prog) w .add 38 .f64 _ _ _ (q3 hg)
          have hg' : (FloatKind.f64.format.order q 4602678819172646912 == some .gt) = true := hg
          unfold oneF at *
          clear q1 q2 q3 q4 f0 f1 f2 hg
          go_enter Tryz.func16, Tryz.ntmps16
          go_wp2_with (first
            | (go_at_call 18; first | ((with_reducible refine (HNa.out _).mono ?_); rintro e w9 ⟨rfl, rfl⟩) | ((with_reducible refine (HNb.out _).mono ?_); rintro e w9 ⟨rfl, rfl⟩))
            | (go_at_call 19; first | ((with_reducible refine (HI.out _).mono ?_); rintro e w9 ⟨rfl, rfl⟩) | ((with_reducible refine (HDI.out _).mono ?_); rintro e w9 ⟨rfl, rfl⟩))
            | (go_at_call 40; (with_reducible refine (HM.out _).mono ?_); rintro e w9 ⟨rfl, rfl⟩)
            | (go_at_call 42; (with_reducible refine (HFL.out _).mono ?_); rintro e w9 ⟨rfl, rfl⟩)
            | (go_at_call 41; first | ((with_reducible refine (H1.out _).mono ?_); rintro e w9 ⟨rfl, rfl⟩) | ((with_reducible refine (KA.out _).mono ?_); rintro e w9 ⟨rfl, rfl⟩) | ((with_reducible refine (KB.out _).mono ?_); rintro e w9 ⟨rfl, rfl⟩) | ((with_reducible refine (KC.out _).mono ?_); rintro e w9 ⟨rfl, rfl⟩))
            | fail)
          go_ret2
          exact ⟨rfl, rfl⟩
        | false =>
          have hf := q4 hg
          subst hf
          have hg' : (FloatKind.f64.format.order q 4602678819172646912 == some .gt) = false := hg
          unfold oneF at *
          clear q1 q2 q3 q4 f0 f1 f2 hg
          go_enter Tryz.func16, Tryz.ntmps16
          go_wp2_with (first
            | (go_at_call 18; first | ((with_reducible refine (HNa.out _).mono ?_); rintro e w9 ⟨rfl, rfl⟩) | ((with_reducible refine (HNb.out _).mono ?_); rintro e w9 ⟨rfl, rfl⟩))
            | (go_at_call 19; first | ((with_reducible refine (HI.out _).mono ?_); rintro e w9 ⟨rfl, rfl⟩) | ((with_reducible refine (HDI.out _).mono ?_); rintro e w9 ⟨rfl, rfl⟩))
            | (go_at_call 40; (with_reducible refine (HM.out _).mono ?_); rintro e w9 ⟨rfl, rfl⟩)
            | (go_at_call 42; (with_reducible refine (HFL.out _).mono ?_); rintro e w9 ⟨rfl, rfl⟩)
            | (go_at_call 41; first | ((with_reducible refine (H1.out _).mono ?_); rintro e w9 ⟨rfl, rfl⟩) | ((with_reducible refine (KA.out _).mono ?_); rintro e w9 ⟨rfl, rfl⟩) | ((with_reducible refine (KB.out _).mono ?_); rintro e w9 ⟨rfl, rfl⟩) | ((with_reducible refine (KC.out _).mono ?_); rintro e w9 ⟨rfl, rfl⟩))
            | fail)
          go_ret2
          exact ⟨rfl, rfl⟩
      · have hf := f1 rfl
        subst hf
        unfold oneF at *
        clear f0 f1 f2
        go_enter Tryz.func16, Tryz.ntmps16
        go_wp2_with (first
          | (go_at_call 18; first | ((with_reducible refine (HNa.out _).mono ?_); rintro e w9 ⟨rfl, rfl⟩) | ((with_reducible refine (HNb.out _).mono ?_); rintro e w9 ⟨rfl, rfl⟩))
          | (go_at_call 19; first | ((with_reducible refine (HI.out _).mono ?_); rintro e w9 ⟨rfl, rfl⟩) | ((with_reducible refine (HDI.out _).mono ?_); rintro e w9 ⟨rfl, rfl⟩))
          | (go_at_call 40; (with_reducible refine (HM.out _).mono ?_); rintro e w9 ⟨rfl, rfl⟩)
          | (go_at_call 42; (with_reducible refine (HFL.out _).mono ?_); rintro e w9 ⟨rfl, rfl⟩)
          | (go_at_call 41; first | ((with_reducible refine (H1.out _).mono ?_); rintro e w9 ⟨rfl, rfl⟩) | ((with_reducible refine (KA.out _).mono ?_); rintro e w9 ⟨rfl, rfl⟩) | ((with_reducible refine (KB.out _).mono ?_); rintro e w9 ⟨rfl, rfl⟩) | ((with_reducible refine (KC.out _).mono ?_); rintro e w9 ⟨rfl, rfl⟩))
          | fail)
        go_ret2
        exact ⟨rfl, rfl⟩
    · have hf := f0 rfl
      subst hf
      unfold oneF at *
      clear f0 f1 f2
      go_enter Tryz.func16, Tryz.ntmps16
      go_wp2_with (first
        | (go_at_call 18; first | ((with_reducible refine (HNa.out _).mono ?_); rintro e w9 ⟨rfl, rfl⟩) | ((with_reducible refine (HNb.out _).mono ?_); rintro e w9 ⟨rfl, rfl⟩))
        | (go_at_call 19; first | ((with_reducible refine (HI.out _).mono ?_); rintro e w9 ⟨rfl, rfl⟩) | ((with_reducible refine (HDI.out _).mono ?_); rintro e w9 ⟨rfl, rfl⟩))
        | (go_at_call 40; (with_reducible refine (HM.out _).mono ?_); rintro e w9 ⟨rfl, rfl⟩)
        | (go_at_call 42; (with_reducible refine (HFL.out _).mono ?_); rintro e w9 ⟨rfl, rfl⟩)
        | (go_at_call 41; first | ((with_reducible refine (H1.out _).mono ?_); rintro e w9 ⟨rfl, rfl⟩) | ((with_reducible refine (KA.out _).mono ?_); rintro e w9 ⟨rfl, rfl⟩) | ((with_reducible refine (KB.out _).mono ?_); rintro e w9 ⟨rfl, rfl⟩) | ((with_reducible refine (KC.out _).mono ?_); rintro e w9 ⟨rfl, rfl⟩))
        | fail)
      go_ret2
      exact ⟨rfl, rfl⟩
  · have hd : decide (rr = 0) = false := by simpa using h0
    rw [hd] at n1
    have n3 := hmn h0
    by_cases hs : nA = nB
    · obtain ⟨rfl, rfl⟩ := c1 h0 hs
      have hx : (nA != nB) = false := by rw [hs]; cases nB <;> rfl
      subst hs
      clear hd h0 c0 c1 c2 hmn
      cases zD
      · cases iD
        · obtain ⟨q, q1, q2, q3, q4⟩ := f2 rfl rfl
          have a5 := run_float_arith (P := Tryz.prog) w .sub 38 .f64 _ _ _ q1
          cases hg : (Ieee.double.order q halfF == some .gt) with
          | true =>
            have a6 := run_float_arith (P := Tryz.prog) w .add 38 .f64 _ _ _ (q3 hg)
            have hg' : (FloatKind.f64.format.order q 4602678819172646912 == some .gt) = true := hg
            unfold oneF at *
            clear q1 q2 q3 q4 f0 f1 f2 hg
            go_enter Tryz.func16, Tryz.ntmps16
            go_wp2_with (first
              | (go_at_call 18; first | ((with_reducible refine (HNa.out _).mono ?_); rintro e w9 ⟨rfl, rfl⟩) | ((with_reducible refine (HNb.out _).mono ?_); rintro e w9 ⟨rfl, rfl⟩))
              | (go_at_call 19; first | ((with_reducible refine (HI.out _).mono ?_); rintro e w9 ⟨rfl, rfl⟩) | ((with_reducible refine (HDI.out _).mono ?_); rintro e w9 ⟨rfl, rfl⟩))
              | (go_at_call 40; (with_reducible refine (HM.out _).mono ?_); rintro e w9 ⟨rfl, rfl⟩)
              | (go_at_call 42; (with_reducible refine (HFL.out _).mono ?_); rintro e w9 ⟨rfl, rfl⟩)
              | (go_at_call 41; first | ((with_reducible refine (H1.out _).mono ?_); rintro e w9 ⟨rfl, rfl⟩) | ((with_reducible refine (KA.out _).mono ?_); rintro e w9 ⟨rfl, rfl⟩) | ((with_reducible refine (KB.out _).mono ?_); rintro e w9 ⟨rfl, rfl⟩) | ((with_reducible refine (KC.out _).mono ?_); rintro e w9 ⟨rfl, rfl⟩))
              | fail)
            go_ret2
            exact ⟨rfl, rfl⟩
          | false =>
            have hf := q4 hg
            subst hf
            have hg' : (FloatKind.f64.format.order q 4602678819172646912 == some .gt) = false := hg
            unfold oneF at *
            clear q1 q2 q3 q4 f0 f1 f2 hg
            go_enter Tryz.func16, Tryz.ntmps16
            go_wp2_with (first
              | (go_at_call 18; first | ((with_reducible refine (HNa.out _).mono ?_); rintro e w9 ⟨rfl, rfl⟩) | ((with_reducible refine (HNb.out _).mono ?_); rintro e w9 ⟨rfl, rfl⟩))
              | (go_at_call 19; first | ((with_reducible refine (HI.out _).mono ?_); rintro e w9 ⟨rfl, rfl⟩) | ((with_reducible refine (HDI.out _).mono ?_); rintro e w9 ⟨rfl, rfl⟩))
              | (go_at_call 40; (with_reducible refine (HM.out _).mono ?_); rintro e w9 ⟨rfl, rfl⟩)
              | (go_at_call 42; (with_reducible refine (HFL.out _).mono ?_); rintro e w9 ⟨rfl, rfl⟩)
              | (go_at_call 41; first | ((with_reducible refine (H1.out _).mono ?_); rintro e w9 ⟨rfl, rfl⟩) | ((with_reducible refine (KA.out _).mono ?_); rintro e w9 ⟨rfl, rfl⟩) | ((with_reducible refine (KB.out _).mono ?_); rintro e w9 ⟨rfl, rfl⟩) | ((with_reducible refine (KC.out _).mono ?_); rintro e w9 ⟨rfl, rfl⟩))
              | fail)
            go_ret2
            exact ⟨rfl, rfl⟩
        · have hf := f1 rfl
          subst hf
          unfold oneF at *
          clear f0 f1 f2
          go_enter Tryz.func16, Tryz.ntmps16
          go_wp2_with (first
            | (go_at_call 18; first | ((with_reducible refine (HNa.out _).mono ?_); rintro e w9 ⟨rfl, rfl⟩) | ((with_reducible refine (HNb.out _).mono ?_); rintro e w9 ⟨rfl, rfl⟩))
            | (go_at_call 19; first | ((with_reducible refine (HI.out _).mono ?_); rintro e w9 ⟨rfl, rfl⟩) | ((with_reducible refine (HDI.out _).mono ?_); rintro e w9 ⟨rfl, rfl⟩))
            | (go_at_call 40; (with_reducible refine (HM.out _).mono ?_); rintro e w9 ⟨rfl, rfl⟩)
            | (go_at_call 42; (with_reducible refine (HFL.out _).mono ?_); rintro e w9 ⟨rfl, rfl⟩)
            | (go_at_call 41; first | ((with_reducible refine (H1.out _).mono ?_); rintro e w9 ⟨rfl, rfl⟩) | ((with_reducible refine (KA.out _).mono ?_); rintro e w9 ⟨rfl, rfl⟩) | ((with_reducible refine (KB.out _).mono ?_); rintro e w9 ⟨rfl, rfl⟩) | ((with_reducible refine (KC.out _).mono ?_); rintro e w9 ⟨rfl, rfl⟩))
            | fail)
          go_ret2
          exact ⟨rfl, rfl⟩
      · have hf := f0 rfl
        subst hf
        unfold oneF at *
        clear f0 f1 f2
        go_enter Tryz.func16, Tryz.ntmps16
        go_wp2_with (first
          | (go_at_call 18; first | ((with_reducible refine (HNa.out _).mono ?_); rintro e w9 ⟨rfl, rfl⟩) | ((with_reducible refine (HNb.out _).mono ?_); rintro e w9 ⟨rfl, rfl⟩))
          | (go_at_call 19; first | ((with_reducible refine (HI.out _).mono ?_); rintro e w9 ⟨rfl, rfl⟩) | ((with_reducible refine (HDI.out _).mono ?_); rintro e w9 ⟨rfl, rfl⟩))
          | (go_at_call 40; (with_reducible refine (HM.out _).mono ?_); rintro e w9 ⟨rfl, rfl⟩)
          | (go_at_call 42; (with_reducible refine (HFL.out _).mono ?_); rintro e w9 ⟨rfl, rfl⟩)
          | (go_at_call 41; first | ((with_reducible refine (H1.out _).mono ?_); rintro e w9 ⟨rfl, rfl⟩) | ((with_reducible refine (KA.out _).mono ?_); rintro e w9 ⟨rfl, rfl⟩) | ((with_reducible refine (KB.out _).mono ?_); rintro e w9 ⟨rfl, rfl⟩) | ((with_reducible refine (KC.out _).mono ?_); rintro e w9 ⟨rfl, rfl⟩))
          | fail)
        go_ret2
        exact ⟨rfl, rfl⟩
    · obtain ⟨k1, k2⟩ := c2 h0 hs
      have a3 := run_float_arith (P := Tryz.prog) w .add 38 .f64 _ _ _ k1
      have a4 := run_float_arith (P := Tryz.prog) w .sub 38 .f64 _ _ _ k2
      have hcs : (nA = true ∧ nB = false) ∨ (nA = false ∧ nB = true) := by cases nA <;> cases nB <;> simp_all
      clear hd h0 c0 c1 c2 hmn hs k1 k2
      rcases hcs with ⟨rfl, rfl⟩ | ⟨rfl, rfl⟩
      all_goals
        cases zD
        · cases iD
          · obtain ⟨q, q1, q2, q3, q4⟩ := f2 rfl rfl
            have a5 := run_float_arith (P := Tryz.prog) w .sub 38 .f64 _ _ _ q1
            cases hg : (Ieee.double.order q halfF == some .gt) with
            | true =>
              have a6 := run_float_arith (P := Tryz.prog) w .add 38 .f64 _ _ _ (q3 hg)
              have hg' : (FloatKind.f64.format.order q 4602678819172646912 == some .gt) = true := hg
              unfold oneF at *
              clear q1 q2 q3 q4 f0 f1 f2 hg
              go_enter Tryz.func16, Tryz.ntmps16
              go_wp2_with (first
                | (go_at_call 18; first | ((with_reducible refine (HNa.out _).mono ?_); rintro e w9 ⟨rfl, rfl⟩) | ((with_reducible refine (HNb.out _).mono ?_); rintro e w9 ⟨rfl, rfl⟩))
                | (go_at_call 19; first | ((with_reducible refine (HI.out _).mono ?_); rintro e w9 ⟨rfl, rfl⟩) | ((with_reducible refine (HDI.out _).mono ?_); rintro e w9 ⟨rfl, rfl⟩))
                | (go_at_call 40; (with_reducible refine (HM.out _).mono ?_); rintro e w9 ⟨rfl, rfl⟩)
                | (go_at_call 42; (with_reducible refine (HFL.out _).mono ?_); rintro e w9 ⟨rfl, rfl⟩)
                | (go_at_call 41; first | ((with_reducible refine (H1.out _).mono ?_); rintro e w9 ⟨rfl, rfl⟩) | ((with_reducible refine (KA.out _).mono ?_); rintro e w9 ⟨rfl, rfl⟩) | ((with_reducible refine (KB.out _).mono ?_); rintro e w9 ⟨rfl, rfl⟩) | ((with_reducible refine (KC.out _).mono ?_); rintro e w9 ⟨rfl, rfl⟩))
                | fail)
              go_ret2
              exact ⟨rfl, rfl⟩
            | false =>
              have hf := q4 hg
              subst hf
              have hg' : (FloatKind.f64.format.order q 4602678819172646912 == some .gt) = false := hg
              unfold oneF at *
              clear q1 q2 q3 q4 f0 f1 f2 hg
              go_enter Tryz.func16, Tryz.ntmps16
              go_wp2_with (first
                | (go_at_call 18; first | ((with_reducible refine (HNa.out _).mono ?_); rintro e w9 ⟨rfl, rfl⟩) | ((with_reducible refine (HNb.out _).mono ?_); rintro e w9 ⟨rfl, rfl⟩))
                | (go_at_call 19; first | ((with_reducible refine (HI.out _).mono ?_); rintro e w9 ⟨rfl, rfl⟩) | ((with_reducible refine (HDI.out _).mono ?_); rintro e w9 ⟨rfl, rfl⟩))
                | (go_at_call 40; (with_reducible refine (HM.out _).mono ?_); rintro e w9 ⟨rfl, rfl⟩)
                | (go_at_call 42; (with_reducible refine (HFL.out _).mono ?_); rintro e w9 ⟨rfl, rfl⟩)
                | (go_at_call 41; first | ((with_reducible refine (H1.out _).mono ?_); rintro e w9 ⟨rfl, rfl⟩) | ((with_reducible refine (KA.out _).mono ?_); rintro e w9 ⟨rfl, rfl⟩) | ((with_reducible refine (KB.out _).mono ?_); rintro e w9 ⟨rfl, rfl⟩) | ((with_reducible refine (KC.out _).mono ?_); rintro e w9 ⟨rfl, rfl⟩))
                | fail)
              go_ret2
              exact ⟨rfl, rfl⟩
          · have hf := f1 rfl
            subst hf
            unfold oneF at *
            clear f0 f1 f2
            go_enter Tryz.func16, Tryz.ntmps16
            go_wp2_with (first
              | (go_at_call 18; first | ((with_reducible refine (HNa.out _).mono ?_); rintro e w9 ⟨rfl, rfl⟩) | ((with_reducible refine (HNb.out _).mono ?_); rintro e w9 ⟨rfl, rfl⟩))
              | (go_at_call 19; first | ((with_reducible refine (HI.out _).mono ?_); rintro e w9 ⟨rfl, rfl⟩) | ((with_reducible refine (HDI.out _).mono ?_); rintro e w9 ⟨rfl, rfl⟩))
              | (go_at_call 40; (with_reducible refine (HM.out _).mono ?_); rintro e w9 ⟨rfl, rfl⟩)
              | (go_at_call 42; (with_reducible refine (HFL.out _).mono ?_); rintro e w9 ⟨rfl, rfl⟩)
              | (go_at_call 41; first | ((with_reducible refine (H1.out _).mono ?_); rintro e w9 ⟨rfl, rfl⟩) | ((with_reducible refine (KA.out _).mono ?_); rintro e w9 ⟨rfl, rfl⟩) | ((with_reducible refine (KB.out _).mono ?_); rintro e w9 ⟨rfl, rfl⟩) | ((with_reducible refine (KC.out _).mono ?_); rintro e w9 ⟨rfl, rfl⟩))
              | fail)
            go_ret2
            exact ⟨rfl, rfl⟩
        · have hf := f0 rfl
          subst hf
          unfold oneF at *
          clear f0 f1 f2
          go_enter Tryz.func16, Tryz.ntmps16
          go_wp2_with (first
            | (go_at_call 18; first | ((with_reducible refine (HNa.out _).mono ?_); rintro e w9 ⟨rfl, rfl⟩) | ((with_reducible refine (HNb.out _).mono ?_); rintro e w9 ⟨rfl, rfl⟩))
            | (go_at_call 19; first | ((with_reducible refine (HI.out _).mono ?_); rintro e w9 ⟨rfl, rfl⟩) | ((with_reducible refine (HDI.out _).mono ?_); rintro e w9 ⟨rfl, rfl⟩))
            | (go_at_call 40; (with_reducible refine (HM.out _).mono ?_); rintro e w9 ⟨rfl, rfl⟩)
            | (go_at_call 42; (with_reducible refine (HFL.out _).mono ?_); rintro e w9 ⟨rfl, rfl⟩)
            | (go_at_call 41; first | ((with_reducible refine (H1.out _).mono ?_); rintro e w9 ⟨rfl, rfl⟩) | ((with_reducible refine (KA.out _).mono ?_); rintro e w9 ⟨rfl, rfl⟩) | ((with_reducible refine (KB.out _).mono ?_); rintro e w9 ⟨rfl, rfl⟩) | ((with_reducible refine (KC.out _).mono ?_); rintro e w9 ⟨rfl, rfl⟩))
            | fail)
          go_ret2
          exact ⟨rfl, rfl⟩
end
section
open Go Ieee
set_option linter.unusedVariables false
set_option linter.unusedSimpArgs false
theorem big_ok {r : Nat} (h : r < 9007199254740992) : r * 2 ^ eK ≤ maxV := by
  have hK := eK_eq
  have h1 := word_mag (eK + 1) 4503599627370496 (by omega) (by omega)
  have h2 : magV ((eK + 1) * 4503599627370496 + 4503599627370496) ≤ maxV := mag_le (by omega)
  rw [h1, Nat.pow_succ] at h2
  have h3 : r * 2 ^ eK ≤ 9007199254740992 * 2 ^ eK := Nat.mul_le_mul_right _ (by omega)
  generalize (2 : Nat) ^ eK = p at *
  omega
/-- Behind the two numbers' steps are made one. -/
structure RT (rr M N : Nat) (E F : Int) : Prop where
  n0 : 0 < N
  nl : N < 9007199254740992
  ml : M < 9007199254740992
  fe : F ≤ E
  lo : -1074 ≤ F
  hi : E ≤ 972
  rI : rr < fIN
  eq : magV rr = (M * 2 ^ (E - F).toNat % N) * 2 ^ (F + 1074).toNat
theorem man_pos {b : Nat} (h : 0 < magV (b % fSG)) : 0 < manB b := by
  rw [mag_parts] at h
  exact Nat.pos_of_ne_zero fun hc => by rw [hc, Nat.zero_mul] at h; omega
theorem rt_ge {a b rr : Nat} (hb : 0 < magV (b % fSG)) (hr : rr < fIN) (hm : magV rr = magV (a % fSG) % magV (b % fSG)) (h : exqB b ≤ exqB a) : RT rr (manB a) (manB b) (exqB a) (exqB b) := by
  have h1 := exq_lo a
  have h2 := exq_lo b
  refine ⟨man_pos hb, man_lt b, man_lt a, h, h2.1, h1.2, hr, ?_⟩
  rw [hm, mag_parts, mag_parts]
  have e1 : manB a * 2 ^ (exqB a + 1074).toNat = manB a * 2 ^ (exqB a - exqB b).toNat * 2 ^ (exqB b + 1074).toNat := by
    rw [Nat.mul_assoc, ← Nat.pow_add]; congr 2; omega
  rw [e1, Nat.mul_mod_mul_right]
theorem mag_b {a b : Nat} (h : exqB a < exqB b) : magV (b % fSG) = manB b * 2 ^ (exqB b - exqB a).toNat * 2 ^ (exqB a + 1074).toNat := by
  have h1 := exq_lo a
  rw [mag_parts, Nat.mul_assoc, ← Nat.pow_add]; congr 2; omega
theorem rt_lt {a b rr : Nat} (hb : 0 < magV (b % fSG)) (hr : rr < fIN) (hm : magV rr = magV (a % fSG) % magV (b % fSG)) (h : exqB a < exqB b) (hn : manB b ≤ manB a / 2 ^ (exqB b - exqB a).toNat) : RT rr (manB a) (manB b * 2 ^ (exqB b - exqB a).toNat) (exqB a) (exqB a) := by
  have h1 := exq_lo a
  have h2 := man_lt a
  have h3 : manB b * 2 ^ (exqB b - exqB a).toNat ≤ manB a := by rw [Nat.le_div_iff_mul_le (Nat.two_pow_pos _)] at hn; exact hn
  refine ⟨Nat.mul_pos (man_pos hb) (Nat.two_pow_pos _), by omega, h2, Int.le_refl _, h1.1, h1.2, hr, ?_⟩
  rw [hm, mag_b h, mag_parts, Nat.mul_mod_mul_right, Int.sub_self]
  simp
theorem rt_ret {a b rr : Nat} (hb : 0 < magV (b % fSG)) (hr : rr < fIN) (hm : magV rr = magV (a % fSG) % magV (b % fSG)) (h : exqB a < exqB b) (hn : 53 < exqB b - exqB a ∨ manB a / 2 ^ (exqB b - exqB a).toNat < manB b) : rr = a % fSG := by
  refine mag_inj ?_
  rw [hm]
  refine Nat.mod_eq_of_lt ?_
  rw [mag_b h, mag_parts]
  refine Nat.mul_lt_mul_of_pos_right ?_ (Nat.two_pow_pos _)
  have hb1 := man_pos hb
  have hm2 := man_lt a
  rcases hn with hn | hn
  · have h1 : (2 : Nat) ^ 53 ≤ 2 ^ (exqB b - exqB a).toNat := Nat.pow_le_pow_right (by decide) (by omega)
    rw [show (2 : Nat) ^ 53 = 9007199254740992 by rfl] at h1
    have h2 : 1 * 2 ^ (exqB b - exqB a).toNat ≤ manB b * 2 ^ (exqB b - exqB a).toNat := Nat.mul_le_mul_right _ hb1
    omega
  · rw [Nat.div_lt_iff_lt_mul (Nat.two_pow_pos _)] at hn
    exact hn
/-- The remainder, doubled j times. -/
theorem rt_dbl {M N j : Nat} : 2 * (M * 2 ^ j % N) % N = M * 2 ^ (j + 1) % N := by
  rw [Nat.pow_succ, ← Nat.mul_assoc, Nat.mul_comm _ 2, Nat.mul_mod, Nat.mod_mod, ← Nat.mul_mod]
/-- The float of the remainder, scaled upwards j times. -/
theorem sc_up {rr r F j : Nat} (hr : r < 9007199254740992) (hI : rr < fIN) (h : magV rr = r * 2 ^ (F + eK)) (hj : j ≤ F) : ∃ x, x < fIN ∧ magV x = r * 2 ^ (j + eK) := by
  refine rp_of hr ?_
  have h1 : r * 2 ^ (j + eK) ≤ r * 2 ^ (F + eK) := Nat.mul_le_mul_left _ (Nat.pow_le_pow_right (by decide) (by omega))
  rw [← h] at h1
  exact Nat.le_trans h1 (rp_le ⟨rr, hI, rfl⟩)
theorem sc_dn {r j : Nat} (hr : r < 9007199254740992) (hj : j ≤ eK) : ∃ x, x < fIN ∧ magV x = r * 2 ^ (eK - j) := by
  refine rp_of hr (Nat.le_trans ?_ (big_ok hr))
  exact Nat.mul_le_mul_left _ (Nat.pow_le_pow_right (by decide) (by omega))
/-- A small whole number as a float. -/
theorem nearest_small (r : Nat) (hr : r < 9007199254740992) : ∃ x, x < fIN ∧ magV x = r * 2 ^ eK ∧ double.nearest false r 0 = x := by
  obtain ⟨x, h1, h2⟩ := sc_dn (j := 0) hr (by omega)
  refine ⟨x, h1, h2, ?_⟩
  by_cases h0 : r = 0
  · subst h0
    have : x = 0 := mag_inj (by rw [h2, mag_zero]; simp)
    subst this
    rfl
  · have hK := eK_eq
    rw [near_exact false r eK 0 x 0 (by omega) (by omega) (by rw [h2]; simp) h1]
    rfl
end
section
open Go Go.ChangeShapes Go.WideShapes Go.RowKit
set_option linter.unusedVariables false
set_option linter.unusedSimpArgs false
theorem run_tofloat (r x : Nat) (h : Ieee.double.nearest false r 0 = x) (w : World) : (convert 22 38 (.int .u64 (r : Int))).run Tryz.prog w = .ok (.float .f64 x) w := by
  have h2 : Conv.intToFloat .f64 ((r : Nat) : Int) = pure (.float .f64 x) := by
    unfold Conv.intToFloat FloatKind.nearest
    rw [← h]
    have e1 : decide (((r : Nat) : Int) < 0) = false := by simp
    rw [e1, Int.natAbs_natCast]
    rfl
  simp [convert, run_underlying Tryz.underlying38, run_underlying Tryz.underlying22, h2, Result.andThen]
theorem pow_lt64 {k : Nat} (h : k ≤ 53) : (2 : Nat) ^ k ≤ 9007199254740992 := by
  have : (2 : Nat) ^ k ≤ 2 ^ 53 := Nat.pow_le_pow_right (by decide) h
  exact this
/- Loops of the rest, from where the steps are one. -/
end
section
open Go Go.ChangeShapes Go.WideShapes Go.RowKit
set_option linter.unusedVariables false
set_option linter.unusedSimpArgs false
/-- What both answer, but of a nought for a divisor. -/
def FM (a b f m : Nat) : Prop := ((nanB a = true ∨ nanB b = true ∨ infB a = true) ∧ f = 9221120237041090560 ∧ m = 9221120237041090560) ∨ (nanB a = false ∧ nanB b = false ∧ infB a = false ∧ ∃ rr s d0 d1, RS a b rr ∧ DV a b rr s d0 m d1 f)
theorem nan_word : nanB 9221120237041090560 = true ∧ patB 9221120237041090560 = 9221120237041090560 := by decide +kernel
theorem fm_ex (a b : Nat) (ha : a < 18446744073709551616) (hb : b < 18446744073709551616) (hz : zeroB b = false) : ∃ f m, FM a b f m ∧ f < 18446744073709551616 ∧ m < 18446744073709551616 ∧ patB f = f ∧ patB m = m := by
  by_cases h : nanB a = true ∨ nanB b = true ∨ infB a = true
  · exact ⟨_, _, .inl ⟨h, rfl, rfl⟩, by decide, by decide, nan_word.2, nan_word.2⟩
  · have h1 : nanB a = false := by cases h1 : nanB a <;> simp_all
    have h2 : nanB b = false := by cases h2 : nanB b <;> simp_all
    have h3 : infB a = false := by cases h3 : infB a <;> simp_all
    obtain ⟨rr, hr⟩ := rs_ex a b h1 h3 h2 hz
    obtain ⟨s, d0, m, d1, f, H⟩ := dv_ex a b rr hb h1 h3 h2 hz hr.1 hr.2.1 ha
    refine ⟨f, m, .inr ⟨h1, h2, h3, rr, s, d0, d1, hr, H⟩, H.nf.2, H.nm.2, ?_, ?_⟩
    · unfold patB; rw [H.nf.1, if_neg (by simp)]
    · unfold patB; rw [H.nm.1, if_neg (by simp)]
theorem number_nan (w : World) : Calls Tryz.prog 15 #[.int .u64 9221120237041090560] w fun e w' => e = .returned (.float .f64 9221120237041090560) ∧ w = w' := number_any 9221120237041090560 w
set_option maxRecDepth 100000 in
theorem divide_all (a b f m : Nat) (ha : a < 18446744073709551616) (hb : b < 18446744073709551616) (hz : zeroB b = false) (H : FM a b f m) (w : World) :
    Calls Tryz.prog 16 #[.float .f64 a, .float .f64 b] w fun e w' => e = .returned (.tuple #[.float .f64 f, .float .f64 m]) ∧ w = w' := by
  rcases H with ⟨h, rfl, rfl⟩ | ⟨h1, h2, h3, rr, s, d0, d1, hr, H⟩
  · have HNa := Lib.hid (isNaN_any a)
    have HNb := Lib.hid (isNaN_any b)
    have HIa : nanB a = false → ∀ W, Calls Tryz.prog 19 #[.float .f64 a, .int .i64 0] W fun e w' => e = .returned (.bool (infB a)) ∧ W = w' := fun h W => isInf0 a ha h W
    obtain ⟨na, hna⟩ : ∃ x, nanB a = x := ⟨_, rfl⟩
    obtain ⟨nb, hnb⟩ : ∃ x, nanB b = x := ⟨_, rfl⟩
    obtain ⟨ia, hia⟩ : ∃ x, infB a = x := ⟨_, rfl⟩
    rw [hna] at HNa HIa h
    rw [hnb] at HNb h
    rw [hia] at HIa h
    have hcs : na = true ∨ (na = false ∧ nb = true) ∨ (na = false ∧ nb = false ∧ ia = true) := by cases na <;> cases nb <;> simp_all
    have HI := Lib.hid HIa
    clear h hna hnb hia ha hb hz HIa
    rcases hcs with rfl | ⟨rfl, rfl⟩ | ⟨rfl, rfl, rfl⟩
    all_goals
      (try have HI3 := Lib.hid (HI.out rfl))
      go_enter Tryz.func16, Tryz.ntmps16
      go_wp2_with (first
        | (go_at_call 18; first | ((with_reducible refine (HNa.out _).mono ?_); rintro e w9 ⟨rfl, rfl⟩) | ((with_reducible refine (HNb.out _).mono ?_); rintro e w9 ⟨rfl, rfl⟩))
        | (go_at_call 19; (with_reducible refine (HI3.out _).mono ?_); rintro e w9 ⟨rfl, rfl⟩)
        | (go_at_call 15; (with_reducible refine (number_nan _).mono ?_); rintro e w9 ⟨rfl, rfl⟩)
        | fail)
      go_ret2
      exact ⟨rfl, rfl⟩
  · exact divide_any a b rr s d0 m d1 f ha h1 h3 hb h2 hz hr H w
theorem subB_some {x y z : Nat} (h : Ieee.double.sub x y = some z) (hn : nanB z = false) : subB x y = z := by
  unfold subB; rw [h]
  show patB z = z
  unfold patB; rw [hn, if_neg (by simp)]
theorem addB_some {x y z : Nat} (h : Ieee.double.add x y = some z) (hn : nanB z = false) : addB x y = z := by
  unfold addB; rw [h]
  show patB z = z
  unfold patB; rw [hn, if_neg (by simp)]
theorem dvV_some {x y z : Nat} (h : Ieee.double.div x y = some z) (hn : nanB z = false) (hz : zeroB y = false) : dvV x y = z ∧ dvE y = 0 := by
  unfold dvV dvE divB; rw [h, hz, if_neg (by simp), if_neg (by simp)]
  refine ⟨?_, rfl⟩
  show patB z = z
  unfold patB; rw [hn, if_neg (by simp)]
theorem pat_nn {z : Nat} (h : nanB z = false) : patB z = z := by unfold patB; rw [h, if_neg (by simp)]
theorem xor_signs (a b : Nat) (ha : a < 18446744073709551616) (hb : b < 18446744073709551616) : ∃ c : Nat, bits .xor .u64 (a : Int) (b : Int) = (c : Int) ∧ c < 18446744073709551616 ∧ negB c = (negB a ^^ negB b) := by
  have h := u64_xor_nat a b ha hb
  refine ⟨a ^^^ b, h, ?_, ?_⟩
  · have := Nat.xor_lt_two_pow (n := 64) (x := a) (y := b) (by omega) (by omega)
    simpa using this
  · have h1 : (a ^^^ b) / 2 ^ 63 = a / 2 ^ 63 ^^^ b / 2 ^ 63 := Nat.xor_div_two_pow
    unfold negB
    rw [show fSG = 2 ^ 63 from rfl, h1]
    have ha2 : a / 2 ^ 63 = 0 ∨ a / 2 ^ 63 = 1 := by omega
    have hb2 : b / 2 ^ 63 = 0 ∨ b / 2 ^ 63 = 1 := by omega
    rcases ha2 with e | e <;> rcases hb2 with g | g <;> rw [e, g] <;> rfl
theorem nan_of_pat {r : Nat} (h : patB r = fNaN) : nanB r = true := by
  cases hn : nanB r
  · unfold patB at h
    rw [hn, if_neg (by simp)] at h
    rw [h] at hn
    exact absurd hn (by decide +kernel)
  · rfl
theorem inf_less {x : Nat} (hn : nanB x = false) (hi : infB x = true) : outB (floatBits .sub .f64 x x) = fNaN := by
  have h := sub_self hn
  unfold infB at hi
  rw [decide_eq_true_eq] at hi
  rw [if_pos hi] at h
  exact h
theorem word_zero (n : Bool) : (if n = true then (9223372036854775808 : Int) else 0) = ((Ieee.double.word n 0 : Nat) : Int) := by cases n <;> rfl
end
section
open Go Go.ChangeShapes Go.WideShapes Go.RowKit
set_option linter.unusedVariables false
set_option linter.unusedSimpArgs false
set_option maxRecDepth 100000 in
theorem floorA_z (a b : Nat) (hz : zeroB b = true) (w : World) : Calls Tryz.prog 6 #[.int .u64 (a : Int), .int .u64 (b : Int)] w fun e w' => e = .returned (.tuple #[.int .u64 0, .int .i64 6]) ∧ w = w' := by
  have z := zero_nn b
  rw [hz] at z
  clear hz
  go_enter Tryz.func6, Tryz.ntmps6
  go_wp2_with (first
    | (go_at_call 15; (with_reducible refine (number_any _ _).mono ?_); rintro e w9 ⟨rfl, rfl⟩) | fail)
  go_ret2
  exact ⟨rfl, rfl⟩
set_option maxRecDepth 100000 in
theorem floorA_n (a b f m : Nat) (ha : a < 18446744073709551616) (hb : b < 18446744073709551616) (hz : zeroB b = false) (H : FM a b f m) (hp : patB f = f) (w : World) : Calls Tryz.prog 6 #[.int .u64 (a : Int), .int .u64 (b : Int)] w fun e w' => e = .returned (.tuple #[.int .u64 (f : Int), .int .i64 0]) ∧ w = w' := by
  have z := zero_nn b
  rw [hz] at z
  have HD := Lib.hid (divide_all a b f m ha hb hz H)
  have HP := Lib.hid (pattern_any f)
  rw [hp] at HP
  clear hz H hp ha hb
  go_enter Tryz.func6, Tryz.ntmps6
  go_wp2_with (first
    | (go_at_call 15; (with_reducible refine (number_any _ _).mono ?_); rintro e w9 ⟨rfl, rfl⟩)
    | (go_at_call 16; (with_reducible refine (HD.out _).mono ?_); rintro e w9 ⟨rfl, rfl⟩)
    | (go_at_call 17; (with_reducible refine (HP.out _).mono ?_); rintro e w9 ⟨rfl, rfl⟩) | fail)
  go_ret2
  exact ⟨rfl, rfl⟩
set_option maxRecDepth 100000 in
theorem modA_z (a b : Nat) (hz : zeroB b = true) (w : World) : Calls Tryz.prog 5 #[.int .u64 (a : Int), .int .u64 (b : Int)] w fun e w' => e = .returned (.tuple #[.int .u64 0, .int .i64 6]) ∧ w = w' := by
  have z := zero_nn b
  rw [hz] at z
  clear hz
  go_enter Tryz.func5, Tryz.ntmps5
  go_wp2_with (first
    | (go_at_call 15; (with_reducible refine (number_any _ _).mono ?_); rintro e w9 ⟨rfl, rfl⟩) | fail)
  go_ret2
  exact ⟨rfl, rfl⟩
set_option maxRecDepth 100000 in
theorem modA_n (a b f m : Nat) (ha : a < 18446744073709551616) (hb : b < 18446744073709551616) (hz : zeroB b = false) (H : FM a b f m) (hp : patB m = m) (w : World) : Calls Tryz.prog 5 #[.int .u64 (a : Int), .int .u64 (b : Int)] w fun e w' => e = .returned (.tuple #[.int .u64 (m : Int), .int .i64 0]) ∧ w = w' := by
  have z := zero_nn b
  rw [hz] at z
  have HD := Lib.hid (divide_all a b f m ha hb hz H)
  have HP := Lib.hid (pattern_any m)
  rw [hp] at HP
  clear hz H hp ha hb
  go_enter Tryz.func5, Tryz.ntmps5
  go_wp2_with (first
    | (go_at_call 15; (with_reducible refine (number_any _ _).mono ?_); rintro e w9 ⟨rfl, rfl⟩)
    | (go_at_call 16; (with_reducible refine (HD.out _).mono ?_); rintro e w9 ⟨rfl, rfl⟩)
    | (go_at_call 17; (with_reducible refine (HP.out _).mono ?_); rintro e w9 ⟨rfl, rfl⟩) | fail)
  go_ret2
  exact ⟨rfl, rfl⟩
end
end Go.Proofs.YtpflbnddjclndaaGreatDoor
