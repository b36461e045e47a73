/- math.Mod, Copysign, Floor; real.divide. -/
import Derived.Test.YtbhommcpgejbfaaGreatDoorPGRlV2
import Derived.Test.YtbhommcpgejbfaaGreatDoorPGRlU
namespace Go.Proofs.YtbhommcpgejbfaaGreatDoor
open Go Go.ChangeShapes Go.WideShapes Go.RowKit
set_option linter.unusedVariables false
set_option linter.unusedSimpArgs false
/-- The rest's size: of an infinite divisor, of a finite one. -/
def RS (a b rr : Nat) : Prop := rr < fIN ∧ (infB b = true → rr = a % fSG) ∧ (infB b = false → magV rr = magV (a % fSG) % magV (b % fSG))
theorem rs_ex (a b : Nat) (hna : nanB a = false) (hia : infB a = false) (hnb : nanB b = false) (hzb : zeroB b = false) : ∃ rr, RS a b rr := by
  have e2 : fIN = 9218868437227405312 := rfl
  have ha : a % fSG < fIN := by unfold nanB at hna; unfold infB at hia; rw [decide_eq_false_iff_not] at hna hia; omega
  cases hi : infB b
  · have hb : b % fSG < fIN := by unfold nanB at hnb; unfold infB at hi; rw [decide_eq_false_iff_not] at hnb hi; omega
    have h0 : 0 < b % fSG := by unfold zeroB at hzb; rw [decide_eq_false_iff_not] at hzb; omega
    obtain ⟨r, r1, r2⟩ := rest_rp (⟨_, ha, rfl⟩ : RP (magV (a % fSG))) (⟨_, hb, rfl⟩ : RP (magV (b % fSG))) (mag_pos h0)
    exact ⟨r, r1, fun h => absurd (hi.symm.trans h) (by simp), fun _ => r2⟩
  · exact ⟨a % fSG, ha, fun _ => rfl, fun h => absurd (hi.symm.trans h) (by simp)⟩
theorem self_word {a : Nat} (ha : a < 18446744073709551616) : Ieee.double.word (negB a) (a % fSG) = a := by
  unfold Ieee.Format.word
  rw [sw_d]
  cases hn : negB a
  · rw [if_neg (by simp)]; exact (neg_split ha).1 hn
  · rw [if_pos rfl]; exact ((neg_split ha).2 hn).symm
set_option maxRecDepth 100000 in
theorem frexp_infy (w : World) : Calls Tryz.prog 163 #[.float .f64 9218868437227405312] w fun e w' => e = .returned (.tuple #[.float .f64 9218868437227405312, .int .i64 0]) ∧ w = w' := by
  have h1 : (FloatKind.f64.format.order 9218868437227405312 0 == some .eq) = false := by rfl
  have HI := Lib.hid (fun W => isInf_two 9218868437227405312 9218868437227405312 true (by rfl) (by rfl) W)
  go_enter Tryz.func163, Tryz.ntmps163
  go_wp2_with (first
    | (go_at_call 13; (with_reducible refine (HI.out _).mono ?_); rintro e w9 ⟨rfl, rfl⟩)
    | fail)
  go_ret2
  exact ⟨rfl, rfl⟩
set_option maxRecDepth 100000 in
theorem Frexp_infy (w : World) : Calls Tryz.prog 125 #[.float .f64 9218868437227405312] w fun e w' => e = .returned (.tuple #[.float .f64 9218868437227405312, .int .i64 0]) ∧ w = w' := by
  go_enter Tryz.func125, Tryz.ntmps125
  go_wp2_with (first
    | (go_at_call 163; (with_reducible refine (frexp_infy _).mono ?_); rintro e w9 ⟨rfl, rfl⟩)
    | fail)
  go_ret2
  exact ⟨rfl, rfl⟩
theorem place_lt {r : Nat} (hr : nanB r = false) (hi : infB r = false) : placeZ r < placeZ 9218868437227405312 := by
  have e2 : fIN = 9218868437227405312 := rfl
  have h1 : placeZ 9218868437227405312 = 9218868437227405312 := by decide +kernel
  rw [h1]
  unfold placeZ
  unfold nanB at hr
  unfold infB at hi
  rw [decide_eq_false_iff_not] at hr hi
  split <;> omega
set_option maxRecDepth 100000 in
theorem mod_infy (a b : Nat) (ha : a < 18446744073709551616) (hna : nanB a = false) (hia : infB a = false) (hb : b < 18446744073709551616) (hib : infB b = true) (w : World) :
    Calls Tryz.prog 93 #[.float .f64 a, .float .f64 b] w fun e w' => e = .returned (.float .f64 a) ∧ w = w' := by
  have eS : fSG = 9223372036854775808 := rfl
  have hI : fIN = 9218868437227405312 := rfl
  have hb0 : b % fSG = 9218868437227405312 := by unfold infB at hib; simpa [hI] using hib
  have hnb : nanB b = false := by unfold nanB; rw [hb0, hI]; simp
  have z1 : (FloatKind.f64.format.order b 0 == some .eq) = false := by rw [fmt_double, zero_d, hb0]; rfl
  have HI := Lib.hid (isInf0 a ha hna)
  rw [hia] at HI
  have HNa := Lib.hid (mIsNaN_any a hna)
  have HNb := Lib.hid (mIsNaN_any b hnb)
  have HA := Lib.hid (fun W => abs_one b (b % fSG) (andNot_u b hb) W)
  rw [hb0] at HA
  have hni : nanB 9218868437227405312 = false := by decide +kernel
  have pl := place_lt hna hia
  have o1 : (FloatKind.f64.format.order a 9218868437227405312 == some .gt) = false := by rw [fmt_double, gt_d hna hni, decide_eq_false_iff_not]; omega
  have o2 : (FloatKind.f64.format.order a 9218868437227405312 == some .eq) = false := by rw [fmt_double, eq_d hna hni, decide_eq_false_iff_not]; omega
  have hnf := nan_flip ha
  rw [hna] at hnf
  have hif := inf_flip ha
  rw [hia] at hif
  have pl2 := place_lt hnf hif
  have o3 : (FloatKind.f64.format.order (flipB a) 9218868437227405312 == some .gt) = false := by rw [fmt_double, gt_d hnf hni, decide_eq_false_iff_not]; omega
  have o4 : (FloatKind.f64.format.order (flipB a) 9218868437227405312 == some .eq) = false := by rw [fmt_double, eq_d hnf hni, decide_eq_false_iff_not]; omega
  have n1 := fun W => run_neg a ha hna W
  have n2 := fun W => run_neg (flipB a) (flip_lt ha) hnf W
  rw [flip_flip ha] at n2
  obtain ⟨c, hc⟩ : ∃ c, flipB a = c := ⟨_, rfl⟩
  rw [hc] at o3 o4 n1 n2
  obtain ⟨ng, hng⟩ : ∃ ng : Bool, (FloatKind.f64.format.order a 0 == some .lt) = ng := ⟨_, rfl⟩
  clear pl pl2 hc hnf hif hni hb0 hnb hib ha hb hna hia eS hI
  go_enter Tryz.func93, Tryz.ntmps93
  cases ng
  · go_wp2_with (first
      | (go_at_call 13; (with_reducible refine (HI.out _).mono ?_); rintro e w9 ⟨rfl, rfl⟩)
      | (go_at_call 123; first | ((with_reducible refine (HNa.out _).mono ?_); rintro e w9 ⟨rfl, rfl⟩) | ((with_reducible refine (HNb.out _).mono ?_); rintro e w9 ⟨rfl, rfl⟩))
      | (go_at_call 26; (with_reducible refine (HA.out _).mono ?_); rintro e w9 ⟨rfl, rfl⟩)
      | (go_at_call 125; (with_reducible refine (Frexp_infy _).mono ?_); rintro e w9 ⟨rfl, rfl⟩)
      | fail)
    go_loopw [7, 8, 9] (fun s7 s8 s9 wr => s7 = .float .f64 a ∧ w = wr) (fun s7 s8 s9 wr => 0)
    case atStart => exact ⟨rfl, rfl⟩
    case round =>
      obtain ⟨rfl, rfl⟩ := hrel
      go_wp2_with fail
      go_ret
      exact ⟨rfl, rfl⟩
  · go_wp2_with (first
      | (go_at_call 13; (with_reducible refine (HI.out _).mono ?_); rintro e w9 ⟨rfl, rfl⟩)
      | (go_at_call 123; first | ((with_reducible refine (HNa.out _).mono ?_); rintro e w9 ⟨rfl, rfl⟩) | ((with_reducible refine (HNb.out _).mono ?_); rintro e w9 ⟨rfl, rfl⟩))
      | (go_at_call 26; (with_reducible refine (HA.out _).mono ?_); rintro e w9 ⟨rfl, rfl⟩)
      | (go_at_call 125; (with_reducible refine (Frexp_infy _).mono ?_); rintro e w9 ⟨rfl, rfl⟩)
      | fail)
    go_loopw [7, 8, 9] (fun s7 s8 s9 wr => s7 = .float .f64 c ∧ w = wr) (fun s7 s8 s9 wr => 0)
    case atStart => exact ⟨rfl, rfl⟩
    case round =>
      obtain ⟨rfl, rfl⟩ := hrel
      go_wp2_with fail
      go_ret
      exact ⟨rfl, rfl⟩
theorem or_sign (x : Nat) (n : Bool) (hx : x < 9223372036854775808) : bits .or .u64 (x : Int) (if n = true then 9223372036854775808 else 0) = ((Ieee.double.word n x : Nat) : Int) := by
  cases n
  · have h := u64_or_nat x 0 (by omega) (by omega)
    rw [Nat.or_zero] at h
    exact h
  · have h := u64_or_nat x 9223372036854775808 (by omega) (by omega)
    refine h.trans (congrArg _ ?_)
    have e := Nat.two_pow_add_eq_or_of_lt (i := 63) (b := x) (by simpa using hx) 1
    rw [Nat.or_comm]
    show _ = Ieee.double.signWeight + x
    rw [sw_d, show fSG = 2 ^ 63 * 1 from rfl, e]
set_option maxRecDepth 100000 in
theorem copysign_any (f s : Nat) (hf : f < 18446744073709551616) (hs : s < 18446744073709551616) (w : World) : Calls Tryz.prog 70 #[.float .f64 f, .float .f64 s] w fun e w' => e = .returned (.float .f64 (Ieee.double.word (negB s) (f % fSG))) ∧ w = w' := by
  have h1 := run_f64bits f w
  have h2 := run_f64bits s w
  have h3 := andNot_u f hf
  have h4 := and_sign s hs
  have h5 := or_sign (f % fSG) (negB s) (Nat.mod_lt _ (by decide))
  have h6 := run_frombits (Ieee.double.word (negB s) (f % fSG)) w
  rw [← h4] at h5
  obtain ⟨m, hm⟩ : ∃ m, Ieee.double.word (negB s) (f % fSG) = m := ⟨_, rfl⟩
  rw [hm] at h5 h6 ⊢
  obtain ⟨k, hk⟩ : ∃ k, bits .and .u64 (s : Int) 9223372036854775808 = k := ⟨_, rfl⟩
  rw [hk] at h5
  obtain ⟨x, hx⟩ : ∃ x, f % fSG = x := ⟨_, rfl⟩
  rw [hx] at h3 h5
  clear hm h4 hf hs hx
  go_enter Tryz.func70, Tryz.ntmps70
  go_wp2_with fail
  go_ret
  exact ⟨rfl, rfl⟩
theorem run_afloor_any (b : Nat) (hb : b < 18446744073709551616) (hx : nanB b = false) (w : World) : (callFunc 94 #[.float .f64 b]).run Tryz.prog w = .ok (.value (.float .f64 (flB b))) w := by
  rw [run_callFunc_extern Tryz.func94 (by kernel_rfl) (by kernel_rfl) (by kernel_rfl) (e := Extern.MathFloor.toIntegral "math.archFloor" .down) (by kernel_rfl)]
  have h3 : Extern.MathFloor.toIntegral "math.archFloor" .down #[.float .f64 b] = pure (.float .f64 (flB b)) := by
    show (match FloatKind.f64.decode b with
      | .nan s t =>
        if FloatKind.f64.format.quiet t = t then pure (.float .f64 b) else do
        let kept ← choose (.extern "math.Floor,Ceil,Trunc,RoundToEven.signallingNaN kept" 2)
        pure (.float .f64 (if kept == 1 then b else FloatKind.f64.encode (.nan s (FloatKind.f64.format.quiet t))))
      | d => pure (.float .f64 (FloatKind.f64.encode (d.integral .down))) : Sem Value) = _
    unfold flB
    rcases form_nn hx with ⟨s, h⟩ | ⟨s, m, p, h⟩
    · have h' : FloatKind.f64.decode b = .infinity s := h
      rw [h', h]; rfl
    · have h' : FloatKind.f64.decode b = .number s m p := h
      rw [h', h]; rfl
  rw [h3]
  rfl
set_option maxRecDepth 100000 in
theorem floor_any (b : Nat) (hb : b < 18446744073709551616) (hx : nanB b = false) (w : World) : Calls Tryz.prog 71 #[.float .f64 b] w fun e w' => e = .returned (.float .f64 (flB b)) ∧ w = w' := by
  have h1 := run_afloor_any b hb hx w
  obtain ⟨c, hc⟩ : ∃ c, flB b = c := ⟨_, rfl⟩
  rw [hc] at h1 ⊢
  clear hc hx hb
  go_enter Tryz.func71, Tryz.ntmps71
  go_wp2_with fail
  go_ret
  exact ⟨rfl, rfl⟩
theorem isNaN_nn {b : Nat} (h : nanB b = false) (w : World) : Calls Tryz.prog 24 #[.float .f64 b] w fun e w' => e = .returned (.bool false) ∧ w = w' := by
  have h1 := isNaN_any b w
  rw [h] at h1
  exact h1
theorem isInf_nn {b : Nat} (h : FNn b) (w : World) : Calls Tryz.prog 13 #[.float .f64 b, .int .i64 0] w fun e w' => e = .returned (.bool (infB b)) ∧ w = w' := isInf0 b h.2 h.1 w
theorem zero_nn (b : Nat) : (FloatKind.f64.format.order b 0 == some .eq) = zeroB b := zero_d b
theorem neg_nn {b : Nat} (h : nanB b = false) (hz : zeroB b = false) : (FloatKind.f64.format.order b 0 == some .lt) = negB b := by
  have hz0 : nanB 0 = false := rfl
  have hp0 : placeZ 0 = 0 := rfl
  rw [fmt_double, lt_d h hz0, hp0]
  unfold zeroB at hz
  rw [decide_eq_false_iff_not] at hz
  unfold placeZ
  cases hn : negB b
  · rw [if_neg (by simp), decide_eq_false_iff_not]; omega
  · rw [if_pos rfl, decide_eq_true_eq]; omega
theorem one_mul (s t : Bool) : floatBits .mul .f64 (Ieee.double.word s 4607182418800017408) (Ieee.double.word t 4607182418800017408) = some (Ieee.double.word (s ^^ t) 4607182418800017408) := by
  cases s <;> cases t <;> decide +kernel
/- The quotient and the rest as real.divide answers them. -/
end Go.Proofs.YtbhommcpgejbfaaGreatDoor
