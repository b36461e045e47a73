/- math.Mod of two numbers. -/
import Derived.Test.YtdkbhliafilghaaGreatDoorRlMr
namespace Go.Proofs.YtdkbhliafilghaaGreatDoor
open Go Go.ChangeShapes Go.WideShapes Go.RowKit
set_option linter.unusedVariables false
set_option linter.unusedSimpArgs false
set_option maxRecDepth 100000 in
theorem Ldexp_any (y t n : Nat) (h0 : 0 < y) (hy : y < fIN) (ht : t < fIN) (ht0 : 0 < t) (hn : n ≤ 2200) (hm : magV t = magV y * 2 ^ n) (w : World) : Calls Tryz.prog 59 #[.float .f64 y, .int .i64 (n : Int)] w fun e w' => e = .returned (.float .f64 t) ∧ w = w' := by
  have HL := Lib.hid (ldexp_any y t n h0 hy ht ht0 hn hm)
  clear h0 hy ht ht0 hm hn
  go_enter Tryz.func59, Tryz.ntmps59
  go_wp2_with (first
    | (go_at_call 74; (with_reducible refine (HL.out _).mono ?_); rintro e w9 ⟨rfl, rfl⟩)
    | fail)
  go_ret
  exact ⟨rfl, rfl⟩
def fltOf : Value → Nat
  | .float _ r => r
  | _ => 0
theorem fltOf_flt (k : FloatKind) (r : Nat) : fltOf (.float k r) = r := rfl
theorem gt_pos {a b : Nat} (ha : a < fIN) (hb : b < fIN) : (FloatKind.f64.format.order a b == some .gt) = decide (b < a) := by
  rw [fmt_double, gt_d (pos_facts ha).2.2.1 (pos_facts hb).2.2.1, place_pos ha, place_pos hb]
  rw [decide_eq_decide]; omega
theorem eq_pos {a b : Nat} (ha : a < fIN) (hb : b < fIN) : (FloatKind.f64.format.order a b == some .eq) = decide (a = b) := by
  rw [fmt_double, eq_d (pos_facts ha).2.2.1 (pos_facts hb).2.2.1, place_pos ha, place_pos hb]
  rw [decide_eq_decide]; omega
theorem lt_frac {f g : Nat} (hf : f < 4503599627370496) (hg : g < 4503599627370496) : (FloatKind.f64.format.order (4602678819172646912 + f) (4602678819172646912 + g) == some .lt) = decide (f < g) := by
  have hI : fIN = 9218868437227405312 := rfl
  rw [lt_pos (by omega) (by omega), decide_eq_decide]; omega
/-- One round's numbers. -/
theorem md_nums {r y fr fy : Nat} {xr xy : Int} (hrI : r < fIN) (hyI : y < fIN) (h0 : 0 < y) (hle : y ≤ r) (hr : FxP r fr xr) (hy : FxP y fy xy) :
    ∃ t r' k : Nat, t < fIN ∧ 0 < t ∧ r' < r ∧ r' < fIN ∧ k ≤ 2200 ∧ magV t = magV y * 2 ^ k ∧ magV r' % magV y = magV r % magV y ∧ Ieee.double.sub r t = some r' ∧
      (fr < fy → IntKind.i64.wrap (xr - 1 - xy) = (k : Int)) ∧ (¬ fr < fy → IntKind.i64.wrap (xr - xy) = (k : Int)) ∧ -1100 ≤ xr ∧ xr ≤ 1200 := by
  obtain ⟨f1, Xr, rfl, hX, nr⟩ := hr
  obtain ⟨f2, Xy, rfl, hY, ny⟩ := hy
  obtain ⟨l1, l2⟩ := nf_le nr ny (mag_le hle)
  obtain ⟨t, r', t1, t2, t3, t4, t5, t6⟩ := md_step hrI hyI h0 hle nr ny
  refine ⟨t, r', kS fr Xr fy Xy, t1, t2, t3, by omega, ?_, t4, t6, sub_exact hrI t1 (by omega) t5, ?_, ?_, by omega, by omega⟩
  · unfold kS; omega
  · intro h
    have := l2 h
    rw [IntWalk.i64_in _ (by omega)]
    unfold kS
    rw [if_pos h]; omega
  · intro h
    rw [IntWalk.i64_in _ (by omega)]
    unfold kS
    rw [if_neg h]; omega
theorem word_f (r : Nat) : Ieee.double.word false r = r := rfl
theorem flip_pos {r : Nat} (h : r < fIN) : flipB r = Ieee.double.word true r := by
  have e1 : fSG = 9223372036854775808 := rfl
  have e2 : fIN = 9218868437227405312 := rfl
  unfold flipB
  rw [if_pos (by omega)]
  show _ = Ieee.double.signWeight + r
  rw [sw_d]; omega
theorem neg_split {a : Nat} (ha : a < 18446744073709551616) : (negB a = false → a % fSG = a) ∧ (negB a = true → a = fSG + a % fSG) := by
  unfold negB
  rw [show fSG = 9223372036854775808 from rfl]
  constructor
  · intro h; simp at h; omega
  · intro h; simp at h; omega
theorem flip_neg {a : Nat} (ha : a < 18446744073709551616) (h : negB a = true) : flipB a = a % fSG := by
  have h1 := (neg_split ha).2 h
  unfold flipB
  rw [if_neg (by omega)]; omega
set_option maxRecDepth 100000 in
theorem mod_any (a b rr : Nat) (ha : a < 18446744073709551616) (hna : nanB a = false) (hia : a % fSG < fIN) (hb : b < 18446744073709551616) (hnb : nanB b = false) (hb0 : 0 < b % fSG) (hbI : b % fSG < fIN) (hrr : rr < fIN) (hm : magV rr = magV (a % fSG) % magV (b % fSG)) (w : World) :
    Calls Tryz.prog 43 #[.float .f64 a, .float .f64 b] w fun e w' => e = .returned (.float .f64 (Ieee.double.word (negB a) rr)) ∧ w = w' := by
  have eS : fSG = 9223372036854775808 := rfl
  have hI : fIN = 9218868437227405312 := rfl
  have z1 : (FloatKind.f64.format.order b 0 == some .eq) = false := by rw [fmt_double, zero_d]; simp; omega
  have hiA : infB a = false := by unfold infB; rw [decide_eq_false_iff_not]; omega
  have HI := Lib.hid (isInf0 a ha hna)
  rw [hiA] at HI
  have HNa := Lib.hid (mIsNaN_any a hna)
  have HNb := Lib.hid (mIsNaN_any b hnb)
  have HA := Lib.hid (fun W => abs_one b (b % fSG) (andNot_u b hb) W)
  obtain ⟨y, hy⟩ : ∃ y, b % fSG = y := ⟨_, rfl⟩
  rw [hy] at HA hb0 hbI hm
  have HFy := Lib.hid (Frexp_any y hb0 hbI)
  have key : ∃ ng : Bool, (FloatKind.f64.format.order a 0 == some .lt) = ng ∧
      ((ng = true ∧ negB a = true ∧ ∀ W, (Op.unary UnOp.neg (.float .f64 a)).run Tryz.prog W = .ok (.float .f64 (a % fSG)) W) ∨
       (ng = false ∧ negB a = false ∧ a = a % fSG) ∨ (ng = false ∧ negB a = true ∧ a = fSG)) := by
    have hz : nanB 0 = false := rfl
    have hp0 : placeZ 0 = 0 := rfl
    rw [fmt_double, lt_d hna hz, hp0]
    cases hn : negB a
    · refine ⟨_, rfl, .inr (.inl ⟨?_, rfl, ?_⟩)⟩
      · unfold placeZ; rw [hn, if_neg (by simp), decide_eq_false_iff_not]; omega
      · exact ((neg_split ha).1 hn).symm
    · by_cases h0 : a % fSG = 0
      · refine ⟨_, rfl, .inr (.inr ⟨?_, rfl, ?_⟩)⟩
        · unfold placeZ; rw [hn, if_pos rfl, decide_eq_false_iff_not]; omega
        · have := (neg_split ha).2 hn; omega
      · refine ⟨_, rfl, .inl ⟨?_, rfl, fun W => ?_⟩⟩
        · unfold placeZ; rw [hn, if_pos rfl, decide_eq_true_eq]; omega
        · rw [run_neg a ha hna W]
          rw [flip_neg ha hn]
  obtain ⟨ng, hng, hcs⟩ := key
  obtain ⟨A, hA⟩ : ∃ A, a % fSG = A := ⟨_, rfl⟩
  rw [hA] at hcs hia hm
  clear hy hiA
  have w1 : ∀ r, r < fIN → (FloatKind.f64.format.order r y == some .gt) = decide (y < r) := fun r hr => gt_pos hr hbI
  have w2 : ∀ r, r < fIN → (FloatKind.f64.format.order r y == some .eq) = decide (r = y) := fun r hr => eq_pos hr hbI
  have W1 := Lib.hid w1
  have W2 := Lib.hid w2
  clear w1 w2
  rcases hcs with ⟨rfl, hnA, hneg⟩ | ⟨rfl, hnA, haA⟩ | ⟨rfl, hnA, haA⟩
  · go_enter Tryz.func43, Tryz.ntmps43
    go_wp2_with (first
      | (go_at_call 18; (with_reducible refine (HI.out _).mono ?_); rintro e w9 ⟨rfl, rfl⟩)
      | (go_at_call 56; first | ((with_reducible refine (HNa.out _).mono ?_); rintro e w9 ⟨rfl, rfl⟩) | ((with_reducible refine (HNb.out _).mono ?_); rintro e w9 ⟨rfl, rfl⟩))
      | (go_at_call 41; (with_reducible refine (HA.out _).mono ?_); rintro e w9 ⟨rfl, rfl⟩)
      | fail)
    refine (HFy.out _).mono ?_
    rintro e w9 ⟨⟨fy, xy, rfl, hfy⟩, rfl⟩
    have HX := Lib.hid hfy
    clear hfy
    go_wp2_with fail
    have HM := Lib.hid hm
    have HIA := Lib.hid hia
    have HRR := Lib.hid hrr
    have HYI := Lib.hid hbI
    have HY0 := Lib.hid hb0
    have HNA := Lib.hid hnA
    clear hm hia hrr hbI hb0 hI eS ha hb hna hnb HI HNa HNb HA HFy z1 hnA
    obtain ⟨M, hMM⟩ : ∃ M, magV A % magV y = M := ⟨_, rfl⟩
    rw [hMM] at HM
    go_loopw [7, 8, 9] (fun s7 s8 s9 wr => ∃ r : Nat, s7 = .float .f64 r ∧ r < fIN ∧ magV r % magV y = M ∧ w = wr) (fun s7 s8 s9 wr => fltOf s7)
    case atStart => exact ⟨_, rfl, HIA.out, hMM, rfl⟩
    case round =>
      obtain ⟨r, rfl, hrI, hrM, rfl⟩ := hrel
      have w1 := W1.out r hrI
      have w2 := W2.out r hrI
      have HXd := HX.out
      by_cases hle : y ≤ r
      · have HFr := Lib.hid (Frexp_any r (by have := HY0.out; omega) hrI)
        have hcmp : (decide (y < r) = true ∧ decide (r = y) = false) ∨ (decide (y < r) = false ∧ decide (r = y) = true) := by
          rcases Nat.lt_or_eq_of_le hle with h | h
          · exact .inl ⟨by simpa using h, by simp; omega⟩
          · exact .inr ⟨by simp; omega, by simp; omega⟩
        have HRI := Lib.hid hrI
        have HLE := Lib.hid hle
        have HRM := Lib.hid hrM
        clear hrI hle hrM hMM
        rcases hcmp with ⟨c1, c2⟩ | ⟨c1, c2⟩
        all_goals
          rw [c1] at w1
          rw [c2] at w2
          clear c1 c2
          go_wp2_with fail
          refine (HFr.out _).mono ?_
          rintro e w9 ⟨⟨fr, xr, rfl, hfr⟩, rfl⟩
          obtain ⟨t, r', k, t1, t2, t3, t4, t5, t6, t7, t8, t9, t10, t11, t12⟩ := md_nums HRI.out HYI.out HY0.out HLE.out hfr HX.out
          have l1 := lt_frac hfr.1 HX.out.1
          have m1 := run_float_arith (P := Tryz.prog) w .sub 30 .f64 r t r' t8
          have HL := Lib.hid (Ldexp_any y t k HY0.out HYI.out t1 t2 t5 t6)
          have HRM2 := Lib.hid (t7.trans HRM.out)
          have HR4 := Lib.hid t4
          have HR3 := Lib.hid t3
          clear hfr HXd t1 t2 t3 t4 t5 t6 t7 t8 w1 w2
          by_cases hf : fr < fy
          · have hd : decide (fr < fy) = true := by simpa using hf
            rw [hd] at l1
            have H9 := Lib.hid (t9 hf)
            clear hf hd t9 t10
            go_upto_region 12 with fail
            have t9 := H9.out
            go_wp2_with (first
              | (go_at_call 59; (with_reducible refine (HL.out _).mono ?_); rintro e w9 ⟨rfl, rfl⟩)
              | fail)
            exact ⟨⟨r', rfl, HR4.out, HRM2.out, trivial⟩, HR3.out⟩
          · have hd : decide (fr < fy) = false := by simpa using hf
            rw [hd] at l1
            have H9 := Lib.hid (t10 hf)
            clear hf hd t9 t10
            go_upto_region 12 with fail
            have t9 := H9.out
            go_wp2_with (first
              | (go_at_call 59; (with_reducible refine (HL.out _).mono ?_); rintro e w9 ⟨rfl, rfl⟩)
              | fail)
            exact ⟨⟨r', rfl, HR4.out, HRM2.out, trivial⟩, HR3.out⟩
      · have c1 : decide (y < r) = false := by simp; omega
        have c2 : decide (r = y) = false := by simp; omega
        rw [c1] at w1
        rw [c2] at w2
        have hfin : r = rr := by
          refine mag_inj ?_
          rw [HM.out, ← hrM, Nat.mod_eq_of_lt (mag_lt (by omega))]
        subst hfin
        have HNG := Lib.hid (fun W => run_neg r (pos_facts hrI).2.2.2 (pos_facts hrI).2.2.1 W)
        have HFP := Lib.hid (flip_pos hrI)
        have hng3 := fun W => (show (Op.unary UnOp.neg (.float .f64 r)).run Tryz.prog W = .ok (.float .f64 (Ieee.double.word true r)) W by rw [HNG.out W, HFP.out])
        obtain ⟨q, hq⟩ : ∃ q, Ieee.double.word true r = q := ⟨_, rfl⟩
        rw [hq] at hng3
        have HQ := Lib.hid hq
        clear hq c1 c2 HFP HNG
        go_wp2_with fail
        go_ret
        exact ⟨by rw [HNA.out, HQ.out]; rfl, rfl⟩
  · subst haA
    go_enter Tryz.func43, Tryz.ntmps43
    go_wp2_with (first
      | (go_at_call 18; (with_reducible refine (HI.out _).mono ?_); rintro e w9 ⟨rfl, rfl⟩)
      | (go_at_call 56; first | ((with_reducible refine (HNa.out _).mono ?_); rintro e w9 ⟨rfl, rfl⟩) | ((with_reducible refine (HNb.out _).mono ?_); rintro e w9 ⟨rfl, rfl⟩))
      | (go_at_call 41; (with_reducible refine (HA.out _).mono ?_); rintro e w9 ⟨rfl, rfl⟩)
      | fail)
    refine (HFy.out _).mono ?_
    rintro e w9 ⟨⟨fy, xy, rfl, hfy⟩, rfl⟩
    have HX := Lib.hid hfy
    clear hfy
    go_wp2_with fail
    have HM := Lib.hid hm
    have HIA := Lib.hid hia
    have HRR := Lib.hid hrr
    have HYI := Lib.hid hbI
    have HY0 := Lib.hid hb0
    have HNA := Lib.hid hnA
    clear hm hia hrr hbI hb0 hI eS ha hb hna hnb HI HNa HNb HA HFy z1 hnA
    obtain ⟨M, hMM⟩ : ∃ M, magV a % magV y = M := ⟨_, rfl⟩
    rw [hMM] at HM
    go_loopw [7, 8, 9] (fun s7 s8 s9 wr => ∃ r : Nat, s7 = .float .f64 r ∧ r < fIN ∧ magV r % magV y = M ∧ w = wr) (fun s7 s8 s9 wr => fltOf s7)
    case atStart => exact ⟨_, rfl, HIA.out, hMM, rfl⟩
    case round =>
      obtain ⟨r, rfl, hrI, hrM, rfl⟩ := hrel
      have w1 := W1.out r hrI
      have w2 := W2.out r hrI
      have HXd := HX.out
      by_cases hle : y ≤ r
      · have HFr := Lib.hid (Frexp_any r (by have := HY0.out; omega) hrI)
        have hcmp : (decide (y < r) = true ∧ decide (r = y) = false) ∨ (decide (y < r) = false ∧ decide (r = y) = true) := by
          rcases Nat.lt_or_eq_of_le hle with h | h
          · exact .inl ⟨by simpa using h, by simp; omega⟩
          · exact .inr ⟨by simp; omega, by simp; omega⟩
        have HRI := Lib.hid hrI
        have HLE := Lib.hid hle
        have HRM := Lib.hid hrM
        clear hrI hle hrM hMM
        rcases hcmp with ⟨c1, c2⟩ | ⟨c1, c2⟩
        all_goals
          rw [c1] at w1
          rw [c2] at w2
          clear c1 c2
          go_wp2_with fail
          refine (HFr.out _).mono ?_
          rintro e w9 ⟨⟨fr, xr, rfl, hfr⟩, rfl⟩
          obtain ⟨t, r', k, t1, t2, t3, t4, t5, t6, t7, t8, t9, t10, t11, t12⟩ := md_nums HRI.out HYI.out HY0.out HLE.out hfr HX.out
          have l1 := lt_frac hfr.1 HX.out.1
          have m1 := run_float_arith (P := Tryz.prog) w .sub 30 .f64 r t r' t8
          have HL := Lib.hid (Ldexp_any y t k HY0.out HYI.out t1 t2 t5 t6)
          have HRM2 := Lib.hid (t7.trans HRM.out)
          have HR4 := Lib.hid t4
          have HR3 := Lib.hid t3
          clear hfr HXd t1 t2 t3 t4 t5 t6 t7 t8 w1 w2
          by_cases hf : fr < fy
          · have hd : decide (fr < fy) = true := by simpa using hf
            rw [hd] at l1
            have H9 := Lib.hid (t9 hf)
            clear hf hd t9 t10
            go_upto_region 12 with fail
            have t9 := H9.out
            go_wp2_with (first
              | (go_at_call 59; (with_reducible refine (HL.out _).mono ?_); rintro e w9 ⟨rfl, rfl⟩)
              | fail)
            exact ⟨⟨r', rfl, HR4.out, HRM2.out, trivial⟩, HR3.out⟩
          · have hd : decide (fr < fy) = false := by simpa using hf
            rw [hd] at l1
            have H9 := Lib.hid (t10 hf)
            clear hf hd t9 t10
            go_upto_region 12 with fail
            have t9 := H9.out
            go_wp2_with (first
              | (go_at_call 59; (with_reducible refine (HL.out _).mono ?_); rintro e w9 ⟨rfl, rfl⟩)
              | fail)
            exact ⟨⟨r', rfl, HR4.out, HRM2.out, trivial⟩, HR3.out⟩
      · have c1 : decide (y < r) = false := by simp; omega
        have c2 : decide (r = y) = false := by simp; omega
        rw [c1] at w1
        rw [c2] at w2
        have hfin : r = rr := by
          refine mag_inj ?_
          rw [HM.out, ← hrM, Nat.mod_eq_of_lt (mag_lt (by omega))]
        subst hfin
        clear c1 c2
        go_wp2_with fail
        go_ret
        exact ⟨by rw [HNA.out]; rfl, rfl⟩
  · have hA0 : A = 0 := by rw [← hA, haA, eS]
    subst hA0
    have hr0 : rr = 0 := by
      refine mag_inj ?_
      rw [hm, mag_zero, Nat.zero_mod]
    have o1 : (FloatKind.f64.format.order a y == some .gt) = false := by
      rw [fmt_double, gt_d hna (pos_facts hbI).2.2.1, place_pos hbI, decide_eq_false_iff_not]
      unfold placeZ; rw [hnA, if_pos rfl]; omega
    have o2 : (FloatKind.f64.format.order a y == some .eq) = false := by
      rw [fmt_double, eq_d hna (pos_facts hbI).2.2.1, place_pos hbI, decide_eq_false_iff_not]
      unfold placeZ; rw [hnA, if_pos rfl]; omega
    have HNA := Lib.hid hnA
    have HAA := Lib.hid haA
    subst hr0
    clear haA eS
    go_enter Tryz.func43, Tryz.ntmps43
    go_wp2_with (first
      | (go_at_call 18; (with_reducible refine (HI.out _).mono ?_); rintro e w9 ⟨rfl, rfl⟩)
      | (go_at_call 56; first | ((with_reducible refine (HNa.out _).mono ?_); rintro e w9 ⟨rfl, rfl⟩) | ((with_reducible refine (HNb.out _).mono ?_); rintro e w9 ⟨rfl, rfl⟩))
      | (go_at_call 41; (with_reducible refine (HA.out _).mono ?_); rintro e w9 ⟨rfl, rfl⟩)
      | fail)
    refine (HFy.out _).mono ?_
    rintro e w9 ⟨⟨fy, xy, rfl, hfy⟩, rfl⟩
    have HX := Lib.hid hfy
    clear hfy
    go_wp2_with fail
    clear hm hia hrr hbI hb0 hI ha hb hna hnb HI HNa HNb HA HFy z1 hnA hA W1 W2
    go_loopw [7, 8, 9] (fun s7 s8 s9 wr => s7 = .float .f64 a ∧ w = wr) (fun s7 s8 s9 wr => 0)
    case atStart => exact ⟨rfl, rfl⟩
    case round =>
      obtain ⟨rfl, rfl⟩ := hrel
      go_wp2_with fail
      go_ret
      exact ⟨by rw [HNA.out, HAA.out]; rfl, rfl⟩
end Go.Proofs.YtdkbhliafilghaaGreatDoor
