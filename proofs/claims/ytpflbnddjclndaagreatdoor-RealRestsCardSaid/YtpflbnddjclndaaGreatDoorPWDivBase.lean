/- Layer 2: the plain mathematics of a division of two words by one, in halves. Layer 2: math/bits.Div64 by the base 10^18, whatever the high word below it. -/
import Derived.Test.YtpflbnddjclndaaGreatDoorPWordPure
import Derived.Test.YtpflbnddjclndaaGreatDoorPGWd
import Derived.Deep.CutRange
import Derived.Deep.CutBlock
import Derived.Test.YtpflbnddjclndaaGreatDoorShelf
namespace Go.Proofs.YtpflbnddjclndaaGreatDoor
section
set_option linter.unusedVariables false
set_option linter.unusedSimpArgs false
/-- A guess q at h * 2^32 + d by y = y1 * 2^32 + y0, with its rest r over the upper half. -/
structure DInv (y1 y0 h d q r : Int) : Prop where
  sum : q * y1 + r = h
  r0 : 0 ≤ r
  r1 : r < 4294967296
  q0 : 0 ≤ q
  q1 : q ≤ 4294967297
  up : h * 4294967296 + d < (q + 1) * (y1 * 4294967296 + y0)
structure DArg (y1 y0 h d : Int) : Prop where
  a1 : 2147483648 ≤ y1
  b1 : y1 < 4294967296
  a0 : 0 ≤ y0
  b0 : y0 < 4294967296
  h0 : 0 ≤ h
  h1 : h < y1 * 4294967296 + y0
  d0 : 0 ≤ d
  d1 : d < 4294967296
/-- What a guess that is right says. -/
structure DOut (y h d q : Int) : Prop where
  q0 : 0 ≤ q
  lo : q * y ≤ h * 4294967296 + d
  hi : h * 4294967296 + d < (q + 1) * y
theorem mul_le_mul_nn {a b c : Int} (h : a ≤ b) (hc : 0 ≤ c) : a * c ≤ b * c := Int.mul_le_mul_of_nonneg_right h hc
theorem DInv.start {y1 y0 h d : Int} (A : DArg y1 y0 h d) : DInv y1 y0 h d (h / y1) (h - h / y1 * y1) := by
  obtain ⟨a1, b1, a0, b0, h0, h1, d0, d1⟩ := A
  have e1 := Int.mul_ediv_add_emod h y1
  have e2 := Int.emod_nonneg h (show y1 ≠ 0 by omega)
  have e3 := Int.emod_lt_of_pos h (show 0 < y1 by omega)
  have e4 := Int.ediv_nonneg h0 (show 0 ≤ y1 by omega)
  rw [Int.mul_comm] at e1
  generalize h % y1 = r at *
  generalize hq : h / y1 = q at *
  have hq1 : q ≤ 4294967297 := by
    by_cases hh : q ≤ 4294967297
    · exact hh
    · have := mul_le_mul_nn (show (4294967298 : Int) ≤ q by omega) (show 0 ≤ y1 by omega)
      omega
  refine ⟨by omega, by omega, by omega, e4, hq1, ?_⟩
  have e5 : (q + 1) * (y1 * 4294967296 + y0) = (q * y1 + y1) * 4294967296 + (q + 1) * y0 := by
    rw [Int.mul_add, ← Int.mul_assoc, Int.add_mul q 1 y1, Int.one_mul]
  have e6 : 0 ≤ (q + 1) * y0 := Int.mul_nonneg (by omega) a0
  rw [e5]
  omega
theorem DInv.exit {y1 y0 h d q r : Int} (A : DArg y1 y0 h d) (I : DInv y1 y0 h d q r) (hq : q < 4294967296) (ht : q * y0 ≤ 4294967296 * r + d) : DOut (y1 * 4294967296 + y0) h d q := by
  obtain ⟨s, r0, r1, q0, q1, up⟩ := I
  refine ⟨q0, ?_, up⟩
  have e5 : q * (y1 * 4294967296 + y0) = (q * y1) * 4294967296 + q * y0 := by rw [Int.mul_add, ← Int.mul_assoc]
  rw [e5]
  omega
theorem DInv.next {y1 y0 h d q r : Int} (A : DArg y1 y0 h d) (I : DInv y1 y0 h d q r) (ht : 4294967296 ≤ q ∨ 4294967296 * r + d < q * y0) :
    1 ≤ q ∧ (q - 1) * y1 + (r + y1) = h ∧ h * 4294967296 + d < ((q - 1) + 1) * (y1 * 4294967296 + y0) := by
  obtain ⟨s, r0, r1, q0, q1, up⟩ := I
  obtain ⟨a1, b1, a0, b0, h0, h1, d0, d1⟩ := A
  have hq : 1 ≤ q := by
    rcases ht with ht | ht
    · omega
    · by_cases hz : q = 0
      · subst hz; simp at ht; omega
      · omega
  refine ⟨hq, by rw [Int.sub_mul]; omega, ?_⟩
  have e5 : (q - 1 + 1) * (y1 * 4294967296 + y0) = (q * y1) * 4294967296 + q * y0 := by
    rw [show q - 1 + 1 = q by omega, Int.mul_add, ← Int.mul_assoc]
  rcases ht with ht | ht
  · have := mul_le_mul_nn ht (show 0 ≤ y1 * 4294967296 + y0 by omega)
    have e6 : q * (y1 * 4294967296 + y0) = (q * y1) * 4294967296 + q * y0 := by rw [Int.mul_add, ← Int.mul_assoc]
    rw [e5, ← e6]
    omega
  · rw [e5]; omega
theorem DInv.step {y1 y0 h d q r : Int} (A : DArg y1 y0 h d) (I : DInv y1 y0 h d q r) (ht : 4294967296 ≤ q ∨ 4294967296 * r + d < q * y0) (hr : r + y1 < 4294967296) : DInv y1 y0 h d (q - 1) (r + y1) := by
  have hn := I.next A ht
  have := I.r0; have := I.q1; have := A.a1
  exact ⟨hn.2.1, by omega, hr, by omega, by omega, hn.2.2⟩
theorem DInv.leave {y1 y0 h d q r : Int} (A : DArg y1 y0 h d) (I : DInv y1 y0 h d q r) (ht : 4294967296 ≤ q ∨ 4294967296 * r + d < q * y0) (hr : 4294967296 ≤ r + y1) : DOut (y1 * 4294967296 + y0) h d (q - 1) := by
  have hn := I.next A ht
  have h1 := I.q1
  refine ⟨by omega, ?_, hn.2.2⟩
  have e5 : (q - 1) * (y1 * 4294967296 + y0) = ((q - 1) * y1) * 4294967296 + (q - 1) * y0 := by rw [Int.mul_add, ← Int.mul_assoc]
  have e6 := mul_le_mul_nn (show q - 1 ≤ 4294967296 by omega) A.a0
  have := A.b0; have := A.d0
  rw [e5]
  omega
theorem DOut.lt {y h d q : Int} (O : DOut y h d q) (hy : 0 < y) (hh : h < y) (hd : d < 4294967296) : q < 4294967296 := by
  by_cases hq : q < 4294967296
  · exact hq
  · have := mul_le_mul_nn (show 4294967296 ≤ q by omega) (show 0 ≤ y by omega)
    have := O.lo
    omega
theorem DOut.rest {y h d q : Int} (O : DOut y h d q) : 0 ≤ h * 4294967296 + d - q * y ∧ h * 4294967296 + d - q * y < y := by
  have h1 := O.lo; have h2 := O.hi
  rw [Int.add_mul, Int.one_mul] at h2
  omega
/-- The two halves together. -/
theorem DOut.both {y h d1 d0 q1 q0 : Int} (O1 : DOut y h d1 q1) (O0 : DOut y (h * 4294967296 + d1 - q1 * y) d0 q0) :
    (h * 4294967296 + d1) * 4294967296 + d0 = (q1 * 4294967296 + q0) * y + ((h * 4294967296 + d1 - q1 * y) * 4294967296 + d0 - q0 * y) := by
  have e : (q1 * 4294967296 + q0) * y = (q1 * y) * 4294967296 + q0 * y := by
    rw [Int.add_mul, Int.mul_right_comm]
  rw [e]
  omega
/-- Scaled by 16, the rest is 16 times the rest. -/
theorem knuth16 {n q y r : Int} (e : 16 * n = q * (16 * y) + r) (h0 : 0 ≤ r) (h1 : r < 16 * y) : n = q * y + r / 16 ∧ 0 ≤ r / 16 ∧ r / 16 < y := by
  have e2 : q * (16 * y) = 16 * (q * y) := by rw [Int.mul_left_comm]
  rw [e2] at e
  omega
end
section
open Go.ChangeShapes Go.WideShapes Go.ChangeAt Go.RowKit
set_option linter.unusedVariables false
set_option linter.unusedSimpArgs false
/-- Div64's answer, and that it makes no memory. -/
def D64Q (W : World) (hi lo y : Int) (e : Ending) (w' : World) : Prop :=
  ∃ q r : Int, e = .returned (.tuple #[.int .u64 q, .int .u64 r]) ∧ hi * 18446744073709551616 + lo = q * y + r ∧ 0 ≤ q ∧ 0 ≤ r ∧ r < y ∧ ∃ n, w' = W.drewN n
theorem bl_base : Lib.bitLen (1000000000000000000 : Int).toNat = 60 := by decide +kernel
theorem lz_base (w : World) : Calls Tryz.prog 112 #[.int .u64 1000000000000000000] w fun e w' => e = .returned (.int .i64 4) ∧ w = w' := by
  refine (Tryz.bits_LeadingZeros64 1000000000000000000 w (by omega) (by omega)).mono ?_
  rintro e w' ⟨rfl, rfl⟩
  exact ⟨by rw [bl_base]; rfl, rfl⟩
theorem or_high {a b : Int} (ha : 0 ≤ a ∧ a < 1000000000000000000) (hb : 0 ≤ b ∧ b < 16) : bits BinOp.or IntKind.u64 (a * 16) b = a * 16 + b :=
  bits_join .u64 64 (by decide) (fun n h h' => by rw [IntKind.wrap_u64]; omega) 4 (a * 16) b (by omega) (by omega) (by omega) (by omega) (by omega) (by omega)
theorem and_low {m : Int} (h : 0 ≤ m) (h' : m ≤ 18446744073709551615) : bits BinOp.and IntKind.u64 m 4294967295 = m % 4294967296 :=
  bits_mask .u64 64 (by decide) (fun n h h' => by rw [IntKind.wrap_u64]; omega) 32 (by decide) m h (by omega)
set_option maxRecDepth 100000 in
set_option maxHeartbeats 4000000 in
theorem div64_base (hi lo : Int) (hh : 0 < hi ∧ hi < 1000000000000000000) (hl : 0 ≤ lo ∧ lo ≤ 18446744073709551615) (w : World) :
    Calls Tryz.prog 82 #[.int .u64 hi, .int .u64 lo, .int .u64 1000000000000000000] w (D64Q w hi lo 1000000000000000000) := by
  have h0 : (hi == 0) = false := by simp; omega
  have h0' : ¬ hi = 0 := by omega
  have h1 : ¬ (1000000000000000000 : Int) ≤ hi := by omega
  have e10 : bits BinOp.and IntKind.u64 16000000000000000000 4294967295 = 1983905792 := and_low (by omega) (by omega)
  obtain ⟨h, hhe⟩ : ∃ h, hi * 16 + lo / 1152921504606846976 = h := ⟨_, rfl⟩
  obtain ⟨m, hme⟩ : ∃ m, IntKind.u64.wrap (lo * 16) = m := ⟨_, rfl⟩
  have eor : bits BinOp.or IntKind.u64 (hi * 16) (lo / 1152921504606846976) = h := by rw [← hhe]; exact or_high (by omega) (by omega)
  have hmm : m = lo * 16 % 18446744073709551616 := by rw [← hme, IntKind.wrap_u64]
  obtain ⟨d1, hd1⟩ : ∃ d1, m / 4294967296 = d1 := ⟨_, rfl⟩
  obtain ⟨d0, hd0⟩ : ∃ d0, m % 4294967296 = d0 := ⟨_, rfl⟩
  have eand : bits BinOp.and IntKind.u64 m 4294967295 = d0 := by rw [and_low (by omega) (by omega), hd0]
  have hm0 : 0 ≤ m ∧ m ≤ 18446744073709551615 := by omega
  have hd1b : 0 ≤ d1 ∧ d1 < 4294967296 := by omega
  have hd0b : 0 ≤ d0 ∧ d0 < 4294967296 := by omega
  have hb : 0 ≤ h ∧ h < 16000000000000000000 := by omega
  have HN := Lib.hid (show 16 * (hi * 18446744073709551616 + lo) = (h * 4294967296 + d1) * 4294967296 + d0 by omega)
  have A1 := Lib.hid (show DArg 3725290298 1983905792 h d1 from ⟨by omega, by omega, by omega, by omega, hb.1, by omega, hd1b.1, hd1b.2⟩)
  obtain ⟨q, hq⟩ : ∃ q, h / 3725290298 = q := ⟨_, rfl⟩
  have I0 := Lib.hid (show DInv 3725290298 1983905792 h d1 q (h - q * 3725290298) by rw [← hq]; exact DInv.start A1.out)
  have hqb : 0 ≤ q ∧ q ≤ 4294967297 := ⟨I0.out.q0, I0.out.q1⟩
  have hqr : 0 ≤ h - q * 3725290298 ∧ h - q * 3725290298 < 4294967296 := ⟨I0.out.r0, I0.out.r1⟩
  clear hhe hmm hd0
  go_enter Tryz.func82, Tryz.ntmps82
  go_upto_block 0 with (go_at_call 112; refine (lz_base _).mono ?_; rintro e w2 ⟨rfl, rfl⟩)
  have HQ := Lib.hid hq
  clear e10 hme eor hd1 eand hq hl hh h0 h0' h1
  go_cut [15] from 67 to 85 (fun a wx => ∃ q, a = .int .u64 q ∧ DOut (3725290298 * 4294967296 + 1983905792) h d1 q ∧ q < 4294967296 ∧ w = wx)
  case first =>
    go_wp2
    go_loop [15, 16] (fun a b => ∃ q r : Int, a = .int .u64 q ∧ b = .int .u64 r ∧ DInv 3725290298 1983905792 h d1 q r) (fun _ b => (4294967296 - intOf b).toNat)
    case atStart => exact ⟨q, _, by rw [HQ.out], rfl, I0.out⟩
    case round =>
      obtain ⟨qq, r, rfl, rfl, hI⟩ := hrel
      have HI := Lib.hid hI
      have r0 := hI.r0; have r1 := hI.r1; have q0 := hI.q0; have q1 := hI.q1
      clear hI
      by_cases c1 : 4294967296 ≤ qq
      · have HT := Lib.hid (show 4294967296 ≤ qq ∨ 4294967296 * r + d1 < qq * 1983905792 from .inl c1)
        have hq1 : 1 ≤ qq := by omega
        by_cases c3 : 4294967296 ≤ r + 3725290298
        · go_wp2
          go_meet
          exact ⟨_, rfl, HI.out.leave A1.out HT.out c3, (HI.out.leave A1.out HT.out c3).lt (by omega) (by omega) (by omega), rfl⟩
        · go_wp2
          go_round
          case rel => exact ⟨_, _, rfl, rfl, HI.out.step A1.out HT.out (by omega)⟩
          case measure => simp [intOf]; omega
      · by_cases c2 : 4294967296 * r + d1 < qq * 1983905792
        · have HT := Lib.hid (show 4294967296 ≤ qq ∨ 4294967296 * r + d1 < qq * 1983905792 from .inr c2)
          have hq1 : 1 ≤ qq := by omega
          by_cases c3 : 4294967296 ≤ r + 3725290298
          · go_wp2
            go_meet
            exact ⟨_, rfl, HI.out.leave A1.out HT.out c3, (HI.out.leave A1.out HT.out c3).lt (by omega) (by omega) (by omega), rfl⟩
          · go_wp2
            go_round
            case rel => exact ⟨_, _, rfl, rfl, HI.out.step A1.out HT.out (by omega)⟩
            case measure => simp [intOf]; omega
        · go_wp2
          go_meet
          exact ⟨_, rfl, HI.out.exit A1.out (by omega) (by omega), by omega, rfl⟩
  case rest =>
    obtain ⟨q, rfl, hO, hql, rfl⟩ := hcut
    have hr := hO.rest
    have hq0 := hO.q0
    have HO := Lib.hid hO
    obtain ⟨u, hu⟩ : ∃ u, h * 4294967296 + d1 - q * 16000000000000000000 = u := ⟨_, rfl⟩
    have hr2 : 0 ≤ u ∧ u < 16000000000000000000 := by rw [← hu]; exact hr
    have HU := Lib.hid hu
    have hwr : IntKind.u64.wrap (IntKind.u64.wrap (IntKind.u64.wrap (h * 4294967296) + d1) - IntKind.u64.wrap (q * 16000000000000000000)) = u := by
      simp only [IntKind.wrap_u64]; omega
    have A0 := Lib.hid (show DArg 3725290298 1983905792 u d0 from ⟨by omega, by omega, by omega, by omega, hr2.1, by omega, hd0b.1, hd0b.2⟩)
    obtain ⟨g, hg⟩ : ∃ g, u / 3725290298 = g := ⟨_, rfl⟩
    have J0 := Lib.hid (show DInv 3725290298 1983905792 u d0 g (u - g * 3725290298) by rw [← hg]; exact DInv.start A0.out)
    have hgb : 0 ≤ g ∧ g ≤ 4294967297 := ⟨J0.out.q0, J0.out.q1⟩
    have hgr : 0 ≤ u - g * 3725290298 ∧ u - g * 3725290298 < 4294967296 := ⟨J0.out.r0, J0.out.r1⟩
    clear hr hu hO
    go_upto_block 2 with (fail)
    have HG := Lib.hid hg
    clear hwr hg
    go_cut [18] from 102 to 120 (fun a wx => ∃ g, a = .int .u64 g ∧ DOut (3725290298 * 4294967296 + 1983905792) u d0 g ∧ g < 4294967296 ∧ w = wx)
    case first =>
      go_wp2
      go_loop [18, 16] (fun a b => ∃ q r : Int, a = .int .u64 q ∧ b = .int .u64 r ∧ DInv 3725290298 1983905792 u d0 q r) (fun _ b => (4294967296 - intOf b).toNat)
      case atStart => exact ⟨g, _, by rw [HG.out], rfl, J0.out⟩
      case round =>
        obtain ⟨qq, r, rfl, rfl, hI⟩ := hrel
        have HI := Lib.hid hI
        have r0 := hI.r0; have r1 := hI.r1; have q0 := hI.q0; have q1 := hI.q1
        clear hI
        by_cases c1 : 4294967296 ≤ qq
        · have HT := Lib.hid (show 4294967296 ≤ qq ∨ 4294967296 * r + d0 < qq * 1983905792 from .inl c1)
          have hq1 : 1 ≤ qq := by omega
          by_cases c3 : 4294967296 ≤ r + 3725290298
          · go_wp2
            go_meet
            exact ⟨_, rfl, HI.out.leave A0.out HT.out c3, (HI.out.leave A0.out HT.out c3).lt (by omega) (by omega) (by omega), rfl⟩
          · go_wp2
            go_round
            case rel => exact ⟨_, _, rfl, rfl, HI.out.step A0.out HT.out (by omega)⟩
            case measure => simp [intOf]; omega
        · by_cases c2 : 4294967296 * r + d0 < qq * 1983905792
          · have HT := Lib.hid (show 4294967296 ≤ qq ∨ 4294967296 * r + d0 < qq * 1983905792 from .inr c2)
            have hq1 : 1 ≤ qq := by omega
            by_cases c3 : 4294967296 ≤ r + 3725290298
            · go_wp2
              go_meet
              exact ⟨_, rfl, HI.out.leave A0.out HT.out c3, (HI.out.leave A0.out HT.out c3).lt (by omega) (by omega) (by omega), rfl⟩
            · go_wp2
              go_round
              case rel => exact ⟨_, _, rfl, rfl, HI.out.step A0.out HT.out (by omega)⟩
              case measure => simp [intOf]; omega
          · go_wp2
            go_meet
            exact ⟨_, rfl, HI.out.exit A0.out (by omega) (by omega), by omega, rfl⟩
    case rest =>
      obtain ⟨g, rfl, hO2, hgl, rfl⟩ := hcut
      have hr3 := hO2.rest
      have hg0 := hO2.q0
      have HO2 := Lib.hid hO2
      obtain ⟨v, hv⟩ : ∃ v, u * 4294967296 + d0 - g * 16000000000000000000 = v := ⟨_, rfl⟩
      have hv2 : 0 ≤ v ∧ v < 16000000000000000000 := by rw [← hv]; exact hr3
      have HV := Lib.hid hv
      have hwv : IntKind.u64.wrap (IntKind.u64.wrap (IntKind.u64.wrap (u * 4294967296) + d0) - IntKind.u64.wrap (g * 16000000000000000000)) = v := by
        simp only [IntKind.wrap_u64]; omega
      clear hr3 hv hO2
      go_wp2
      go_ret2
      have hb := HO.out.both (d0 := d0) (q0 := g) (by rw [show (3725290298 : Int) * 4294967296 + 1983905792 = 16000000000000000000 by decide, HU.out]; exact HO2.out)
      rw [← HN.out, show (3725290298 : Int) * 4294967296 + 1983905792 = 16 * 1000000000000000000 by decide] at hb
      have hu2 := HU.out
      have hv3 := HV.out
      have hk := knuth16 hb (by omega) (by omega)
      refine ⟨q * 4294967296 + g, v / 16, rfl, ?_, by omega, by omega, by omega, 0, rfl⟩
      omega
end
end Go.Proofs.YtpflbnddjclndaaGreatDoor
