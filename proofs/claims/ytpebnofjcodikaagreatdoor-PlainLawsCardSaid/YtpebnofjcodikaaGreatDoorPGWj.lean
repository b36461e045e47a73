/- Layer 2: the plain mathematics of a division of two words by one, in halves. Layer 2: math/bits.Div64 by the base 10^18, whatever the high word below it. Layer 2: the plain mathematics of products of rows of limbs. Layer 2: the plain mathematics of the reference's products: sums of products of digits place by place, then carries. Layer 2: whole.mulAdd: a limb times a limb, with two more. Layer 2: whole.mulSizes: the product of two rows of limbs. Layer 2: whole.Mul. -/
import Derived.Test.YtpebnofjcodikaaGreatDoorPWordPure
import Derived.Test.YtpebnofjcodikaaGreatDoorPGWd
import Derived.Deep.CutRange
import Derived.Deep.CutBlock
import Derived.Test.YtpebnofjcodikaaGreatDoorShelf
import Derived.Test.YtpebnofjcodikaaGreatDoorPGWa
import Derived.Deep.RegionWith
import Derived.Outline
import Derived.Test.YtpebnofjcodikaaGreatDoorPGWc
namespace Go.Proofs.YtpebnofjcodikaaGreatDoor
section
section
set_option linter.unusedVariables false
set_option linter.unusedSimpArgs false
/-- A guess q at h * 2^32 + d by y = y1 * 2^32 + y0, with its rest r over the upper half. -/
structure DInv (y1 y0 h d q r : Int) : Prop where
  sum : q * y1 + r = h
  r0 : 0 ≤ r
  r1 : r < 4294967296
  q0 : 0 ≤ q
  q1 : q ≤ 4294967297
  up : h * 4294967296 + d < (q + 1) * (y1 * 4294967296 + y0)
structure DArg (y1 y0 h d : Int) : Prop where
  a1 : 2147483648 ≤ y1
  b1 : y1 < 4294967296
  a0 : 0 ≤ y0
  b0 : y0 < 4294967296
  h0 : 0 ≤ h
  h1 : h < y1 * 4294967296 + y0
  d0 : 0 ≤ d
  d1 : d < 4294967296
/-- What a guess that is right says. -/
structure DOut (y h d q : Int) : Prop where
  q0 : 0 ≤ q
  lo : q * y ≤ h * 4294967296 + d
  hi : h * 4294967296 + d < (q + 1) * y
theorem mul_le_mul_nn {a b c : Int} (h : a ≤ b) (hc : 0 ≤ c) : a * c ≤ b * c := Int.mul_le_mul_of_nonneg_right h hc
theorem DInv.start {y1 y0 h d : Int} (A : DArg y1 y0 h d) : DInv y1 y0 h d (h / y1) (h - h / y1 * y1) := by
  obtain ⟨a1, b1, a0, b0, h0, h1, d0, d1⟩ := A
  have e1 := Int.mul_ediv_add_emod h y1
  have e2 := Int.emod_nonneg h (show y1 ≠ 0 by omega)
  have e3 := Int.emod_lt_of_pos h (show 0 < y1 by omega)
  have e4 := Int.ediv_nonneg h0 (show 0 ≤ y1 by omega)
  rw [Int.mul_comm] at e1
  generalize h % y1 = r at *
  generalize hq : h / y1 = q at *
  have hq1 : q ≤ 4294967297 := by
    by_cases hh : q ≤ 4294967297
    · exact hh
    · have := mul_le_mul_nn (show (4294967298 : Int) ≤ q by omega) (show 0 ≤ y1 by omega)
      omega
  refine ⟨by omega, by omega, by omega, e4, hq1, ?_⟩
  have e5 : (q + 1) * (y1 * 4294967296 + y0) = (q * y1 + y1) * 4294967296 + (q + 1) * y0 := by
    rw [Int.mul_add, ← Int.mul_assoc, Int.add_mul q 1 y1, Int.one_mul]
  have e6 : 0 ≤ (q + 1) * y0 := Int.mul_nonneg (by omega) a0
  rw [e5]
  omega
theorem DInv.exit {y1 y0 h d q r : Int} (A : DArg y1 y0 h d) (I : DInv y1 y0 h d q r) (hq : q < 4294967296) (ht : q * y0 ≤ 4294967296 * r + d) : DOut (y1 * 4294967296 + y0) h d q := by
  obtain ⟨s, r0, r1, q0, q1, up⟩ := I
  refine ⟨q0, ?_, up⟩
  have e5 : q * (y1 * 4294967296 + y0) = (q * y1) * 4294967296 + q * y0 := by rw [Int.mul_add, ← Int.mul_assoc]
  rw [e5]
  omega
theorem DInv.next {y1 y0 h d q r : Int} (A : DArg y1 y0 h d) (I : DInv y1 y0 h d q r) (ht : 4294967296 ≤ q ∨ 4294967296 * r + d < q * y0) :
    1 ≤ q ∧ (q - 1) * y1 + (r + y1) = h ∧ h * 4294967296 + d < ((q - 1) + 1) * (y1 * 4294967296 + y0) := by
  obtain ⟨s, r0, r1, q0, q1, up⟩ := I
  obtain ⟨a1, b1, a0, b0, h0, h1, d0, d1⟩ := A
  have hq : 1 ≤ q := by
    rcases ht with ht | ht
    · omega
    · by_cases hz : q = 0
      · subst hz; simp at ht; omega
      · omega
  refine ⟨hq, by rw [Int.sub_mul]; omega, ?_⟩
  have e5 : (q - 1 + 1) * (y1 * 4294967296 + y0) = (q * y1) * 4294967296 + q * y0 := by
    rw [show q - 1 + 1 = q by omega, Int.mul_add, ← Int.mul_assoc]
  rcases ht with ht | ht
  · have := mul_le_mul_nn ht (show 0 ≤ y1 * 4294967296 + y0 by omega)
    have e6 : q * (y1 * 4294967296 + y0) = (q * y1) * 4294967296 + q * y0 := by rw [Int.mul_add, ← Int.mul_assoc]
    rw [e5, ← e6]
    omega
  · rw [e5]; omega
theorem DInv.step {y1 y0 h d q r : Int} (A : DArg y1 y0 h d) (I : DInv y1 y0 h d q r) (ht : 4294967296 ≤ q ∨ 4294967296 * r + d < q * y0) (hr : r + y1 < 4294967296) : DInv y1 y0 h d (q - 1) (r + y1) := by
  have hn := I.next A ht
  have := I.r0; have := I.q1; have := A.a1
  exact ⟨hn.2.1, by omega, hr, by omega, by omega, hn.2.2⟩
theorem DInv.leave {y1 y0 h d q r : Int} (A : DArg y1 y0 h d) (I : DInv y1 y0 h d q r) (ht : 4294967296 ≤ q ∨ 4294967296 * r + d < q * y0) (hr : 4294967296 ≤ r + y1) : DOut (y1 * 4294967296 + y0) h d (q - 1) := by
  have hn := I.next A ht
  have h1 := I.q1
  refine ⟨by omega, ?_, hn.2.2⟩
  have e5 : (q - 1) * (y1 * 4294967296 + y0) = ((q - 1) * y1) * 4294967296 + (q - 1) * y0 := by rw [Int.mul_add, ← Int.mul_assoc]
  have e6 := mul_le_mul_nn (show q - 1 ≤ 4294967296 by omega) A.a0
  have := A.b0; have := A.d0
  rw [e5]
  omega
theorem DOut.lt {y h d q : Int} (O : DOut y h d q) (hy : 0 < y) (hh : h < y) (hd : d < 4294967296) : q < 4294967296 := by
  by_cases hq : q < 4294967296
  · exact hq
  · have := mul_le_mul_nn (show 4294967296 ≤ q by omega) (show 0 ≤ y by omega)
    have := O.lo
    omega
theorem DOut.rest {y h d q : Int} (O : DOut y h d q) : 0 ≤ h * 4294967296 + d - q * y ∧ h * 4294967296 + d - q * y < y := by
  have h1 := O.lo; have h2 := O.hi
  rw [Int.add_mul, Int.one_mul] at h2
  omega
/-- The two halves together. -/
theorem DOut.both {y h d1 d0 q1 q0 : Int} (O1 : DOut y h d1 q1) (O0 : DOut y (h * 4294967296 + d1 - q1 * y) d0 q0) :
    (h * 4294967296 + d1) * 4294967296 + d0 = (q1 * 4294967296 + q0) * y + ((h * 4294967296 + d1 - q1 * y) * 4294967296 + d0 - q0 * y) := by
  have e : (q1 * 4294967296 + q0) * y = (q1 * y) * 4294967296 + q0 * y := by
    rw [Int.add_mul, Int.mul_right_comm]
  rw [e]
  omega
/-- Scaled by 16, the rest is 16 times the rest. -/
theorem knuth16 {n q y r : Int} (e : 16 * n = q * (16 * y) + r) (h0 : 0 ≤ r) (h1 : r < 16 * y) : n = q * y + r / 16 ∧ 0 ≤ r / 16 ∧ r / 16 < y := by
  have e2 : q * (16 * y) = 16 * (q * y) := by rw [Int.mul_left_comm]
  rw [e2] at e
  omega
end
section
open Go.ChangeShapes Go.WideShapes Go.ChangeAt Go.RowKit
set_option linter.unusedVariables false
set_option linter.unusedSimpArgs false
/-- Div64's answer, and that it makes no memory. -/
def D64Q (W : World) (hi lo y : Int) (e : Ending) (w' : World) : Prop :=
  ∃ q r : Int, e = .returned (.tuple #[.int .u64 q, .int .u64 r]) ∧ hi * 18446744073709551616 + lo = q * y + r ∧ 0 ≤ q ∧ 0 ≤ r ∧ r < y ∧ ∃ n, w' = W.drewN n
theorem bl_base : Lib.bitLen (1000000000000000000 : Int).toNat = 60 := by decide +kernel
theorem lz_base (w : World) : Calls Tryz.prog 163 #[.int .u64 1000000000000000000] w fun e w' => e = .returned (.int .i64 4) ∧ w = w' := by
  refine (Tryz.bits_LeadingZeros64 1000000000000000000 w (by omega) (by omega)).mono ?_
  rintro e w' ⟨rfl, rfl⟩
  exact ⟨by rw [bl_base]; rfl, rfl⟩
theorem or_high {a b : Int} (ha : 0 ≤ a ∧ a < 1000000000000000000) (hb : 0 ≤ b ∧ b < 16) : bits BinOp.or IntKind.u64 (a * 16) b = a * 16 + b :=
  bits_join .u64 64 (by decide) (fun n h h' => by rw [IntKind.wrap_u64]; omega) 4 (a * 16) b (by omega) (by omega) (by omega) (by omega) (by omega) (by omega)
theorem and_low {m : Int} (h : 0 ≤ m) (h' : m ≤ 18446744073709551615) : bits BinOp.and IntKind.u64 m 4294967295 = m % 4294967296 :=
  bits_mask .u64 64 (by decide) (fun n h h' => by rw [IntKind.wrap_u64]; omega) 32 (by decide) m h (by omega)
set_option maxRecDepth 100000 in
set_option maxHeartbeats 4000000 in
theorem div64_base (hi lo : Int) (hh : 0 < hi ∧ hi < 1000000000000000000) (hl : 0 ≤ lo ∧ lo ≤ 18446744073709551615) (w : World) :
    Calls Tryz.prog 140 #[.int .u64 hi, .int .u64 lo, .int .u64 1000000000000000000] w (D64Q w hi lo 1000000000000000000) := by
  have h0 : (hi == 0) = false := by simp; omega
  have h0' : ¬ hi = 0 := by omega
  have h1 : ¬ (1000000000000000000 : Int) ≤ hi := by omega
  have e10 : bits BinOp.and IntKind.u64 16000000000000000000 4294967295 = 1983905792 := and_low (by omega) (by omega)
  obtain ⟨h, hhe⟩ : ∃ h, hi * 16 + lo / 1152921504606846976 = h := ⟨_, rfl⟩
  obtain ⟨m, hme⟩ : ∃ m, IntKind.u64.wrap (lo * 16) = m := ⟨_, rfl⟩
  have eor : bits BinOp.or IntKind.u64 (hi * 16) (lo / 1152921504606846976) = h := by rw [← hhe]; exact or_high (by omega) (by omega)
  have hmm : m = lo * 16 % 18446744073709551616 := by rw [← hme, IntKind.wrap_u64]
  obtain ⟨d1, hd1⟩ : ∃ d1, m / 4294967296 = d1 := ⟨_, rfl⟩
  obtain ⟨d0, hd0⟩ : ∃ d0, m % 4294967296 = d0 := ⟨_, rfl⟩
  have eand : bits BinOp.and IntKind.u64 m 4294967295 = d0 := by rw [and_low (by omega) (by omega), hd0]
  have hm0 : 0 ≤ m ∧ m ≤ 18446744073709551615 := by omega
  have hd1b : 0 ≤ d1 ∧ d1 < 4294967296 := by omega
  have hd0b : 0 ≤ d0 ∧ d0 < 4294967296 := by omega
  have hb : 0 ≤ h ∧ h < 16000000000000000000 := by omega
  have HN := Lib.hid (show 16 * (hi * 18446744073709551616 + lo) = (h * 4294967296 + d1) * 4294967296 + d0 by omega)
  have A1 := Lib.hid (show DArg 3725290298 1983905792 h d1 from ⟨by omega, by omega, by omega, by omega, hb.1, by omega, hd1b.1, hd1b.2⟩)
  obtain ⟨q, hq⟩ : ∃ q, h / 3725290298 = q := ⟨_, rfl⟩
  have I0 := Lib.hid (show DInv 3725290298 1983905792 h d1 q (h - q * 3725290298) by rw [← hq]; exact DInv.start A1.out)
  have hqb : 0 ≤ q ∧ q ≤ 4294967297 := ⟨I0.out.q0, I0.out.q1⟩
  have hqr : 0 ≤ h - q * 3725290298 ∧ h - q * 3725290298 < 4294967296 := ⟨I0.out.r0, I0.out.r1⟩
  clear hhe hmm hd0
  go_enter Tryz.func140, Tryz.ntmps140
  go_upto_block 0 with (go_at_call 163; refine (lz_base _).mono ?_; rintro e w2 ⟨rfl, rfl⟩)
  have HQ := Lib.hid hq
  clear e10 hme eor hd1 eand hq hl hh h0 h0' h1
  go_cut [15] from 67 to 85 (fun a wx => ∃ q, a = .int .u64 q ∧ DOut (3725290298 * 4294967296 + 1983905792) h d1 q ∧ q < 4294967296 ∧ w = wx)
  case first =>
    go_wp2
    go_loop [15, 16] (fun a b => ∃ q r : Int, a = .int .u64 q ∧ b = .int .u64 r ∧ DInv 3725290298 1983905792 h d1 q r) (fun _ b => (4294967296 - intOf b).toNat)
    case atStart => exact ⟨q, _, by rw [HQ.out], rfl, I0.out⟩
    case round =>
      obtain ⟨qq, r, rfl, rfl, hI⟩ := hrel
      have HI := Lib.hid hI
      have r0 := hI.r0; have r1 := hI.r1; have q0 := hI.q0; have q1 := hI.q1
      clear hI
      by_cases c1 : 4294967296 ≤ qq
      · have HT := Lib.hid (show 4294967296 ≤ qq ∨ 4294967296 * r + d1 < qq * 1983905792 from .inl c1)
        have hq1 : 1 ≤ qq := by omega
        by_cases c3 : 4294967296 ≤ r + 3725290298
        · go_wp2
          go_meet
          exact ⟨_, rfl, HI.out.leave A1.out HT.out c3, (HI.out.leave A1.out HT.out c3).lt (by omega) (by omega) (by omega), rfl⟩
        · go_wp2
          go_round
          case rel => exact ⟨_, _, rfl, rfl, HI.out.step A1.out HT.out (by omega)⟩
          case measure => simp [intOf]; omega
      · by_cases c2 : 4294967296 * r + d1 < qq * 1983905792
        · have HT := Lib.hid (show 4294967296 ≤ qq ∨ 4294967296 * r + d1 < qq * 1983905792 from .inr c2)
          have hq1 : 1 ≤ qq := by omega
          by_cases c3 : 4294967296 ≤ r + 3725290298
          · go_wp2
            go_meet
            exact ⟨_, rfl, HI.out.leave A1.out HT.out c3, (HI.out.leave A1.out HT.out c3).lt (by omega) (by omega) (by omega), rfl⟩
          · go_wp2
            go_round
            case rel => exact ⟨_, _, rfl, rfl, HI.out.step A1.out HT.out (by omega)⟩
            case measure => simp [intOf]; omega
        · go_wp2
          go_meet
          exact ⟨_, rfl, HI.out.exit A1.out (by omega) (by omega), by omega, rfl⟩
  case rest =>
    obtain ⟨q, rfl, hO, hql, rfl⟩ := hcut
    have hr := hO.rest
    have hq0 := hO.q0
    have HO := Lib.hid hO
    obtain ⟨u, hu⟩ : ∃ u, h * 4294967296 + d1 - q * 16000000000000000000 = u := ⟨_, rfl⟩
    have hr2 : 0 ≤ u ∧ u < 16000000000000000000 := by rw [← hu]; exact hr
    have HU := Lib.hid hu
    have hwr : IntKind.u64.wrap (IntKind.u64.wrap (IntKind.u64.wrap (h * 4294967296) + d1) - IntKind.u64.wrap (q * 16000000000000000000)) = u := by
      simp only [IntKind.wrap_u64]; omega
    have A0 := Lib.hid (show DArg 3725290298 1983905792 u d0 from ⟨by omega, by omega, by omega, by omega, hr2.1, by omega, hd0b.1, hd0b.2⟩)
    obtain ⟨g, hg⟩ : ∃ g, u / 3725290298 = g := ⟨_, rfl⟩
    have J0 := Lib.hid (show DInv 3725290298 1983905792 u d0 g (u - g * 3725290298) by rw [← hg]; exact DInv.start A0.out)
    have hgb : 0 ≤ g ∧ g ≤ 4294967297 := ⟨J0.out.q0, J0.out.q1⟩
    have hgr : 0 ≤ u - g * 3725290298 ∧ u - g * 3725290298 < 4294967296 := ⟨J0.out.r0, J0.out.r1⟩
    clear hr hu hO
    go_upto_block 2 with (fail)
    have HG := Lib.hid hg
    clear hwr hg
    go_cut [18] from 102 to 120 (fun a wx => ∃ g, a = .int .u64 g ∧ DOut (3725290298 * 4294967296 + 1983905792) u d0 g ∧ g < 4294967296 ∧ w = wx)
    case first =>
      go_wp2
      go_loop [18, 16] (fun a b => ∃ q r : Int, a = .int .u64 q ∧ b = .int .u64 r ∧ DInv 3725290298 1983905792 u d0 q r) (fun _ b => (4294967296 - intOf b).toNat)
      case atStart => exact ⟨g, _, by rw [HG.out], rfl, J0.out⟩
      case round =>
        obtain ⟨qq, r, rfl, rfl, hI⟩ := hrel
        have HI := Lib.hid hI
        have r0 := hI.r0; have r1 := hI.r1; have q0 := hI.q0; have q1 := hI.q1
        clear hI
        by_cases c1 : 4294967296 ≤ qq
        · have HT := Lib.hid (show 4294967296 ≤ qq ∨ 4294967296 * r + d0 < qq * 1983905792 from .inl c1)
          have hq1 : 1 ≤ qq := by omega
          by_cases c3 : 4294967296 ≤ r + 3725290298
          · go_wp2
            go_meet
            exact ⟨_, rfl, HI.out.leave A0.out HT.out c3, (HI.out.leave A0.out HT.out c3).lt (by omega) (by omega) (by omega), rfl⟩
          · go_wp2
            go_round
            case rel => exact ⟨_, _, rfl, rfl, HI.out.step A0.out HT.out (by omega)⟩
            case measure => simp [intOf]; omega
        · by_cases c2 : 4294967296 * r + d0 < qq * 1983905792
          · have HT := Lib.hid (show 4294967296 ≤ qq ∨ 4294967296 * r + d0 < qq * 1983905792 from .inr c2)
            have hq1 : 1 ≤ qq := by omega
            by_cases c3 : 4294967296 ≤ r + 3725290298
            · go_wp2
              go_meet
              exact ⟨_, rfl, HI.out.leave A0.out HT.out c3, (HI.out.leave A0.out HT.out c3).lt (by omega) (by omega) (by omega), rfl⟩
            · go_wp2
              go_round
              case rel => exact ⟨_, _, rfl, rfl, HI.out.step A0.out HT.out (by omega)⟩
              case measure => simp [intOf]; omega
          · go_wp2
            go_meet
            exact ⟨_, rfl, HI.out.exit A0.out (by omega) (by omega), by omega, rfl⟩
    case rest =>
      obtain ⟨g, rfl, hO2, hgl, rfl⟩ := hcut
      have hr3 := hO2.rest
      have hg0 := hO2.q0
      have HO2 := Lib.hid hO2
      obtain ⟨v, hv⟩ : ∃ v, u * 4294967296 + d0 - g * 16000000000000000000 = v := ⟨_, rfl⟩
      have hv2 : 0 ≤ v ∧ v < 16000000000000000000 := by rw [← hv]; exact hr3
      have HV := Lib.hid hv
      have hwv : IntKind.u64.wrap (IntKind.u64.wrap (IntKind.u64.wrap (u * 4294967296) + d0) - IntKind.u64.wrap (g * 16000000000000000000)) = v := by
        simp only [IntKind.wrap_u64]; omega
      clear hr3 hv hO2
      go_wp2
      go_ret2
      have hb := HO.out.both (d0 := d0) (q0 := g) (by rw [show (3725290298 : Int) * 4294967296 + 1983905792 = 16000000000000000000 by decide, HU.out]; exact HO2.out)
      rw [← HN.out, show (3725290298 : Int) * 4294967296 + 1983905792 = 16 * 1000000000000000000 by decide] at hb
      have hu2 := HU.out
      have hv3 := HV.out
      have hk := knuth16 hb (by omega) (by omega)
      refine ⟨q * 4294967296 + g, v / 16, rfl, ?_, by omega, by omega, by omega, 0, rfl⟩
      omega
end
end
section
section
open Go.ChangeShapes Go.WideShapes Go.ChangeAt Go.RowKit
set_option linter.unusedVariables false
set_option linter.unusedSimpArgs false
theorem val_set (b : Int) : ∀ (ws : List Int) (k : Nat) (x : Int), k < ws.length → val b (ws.set k x) = val b ws + b ^ k * (x - ws.getD k 0)
  | [], k, x, h => by simp at h
  | d :: r, 0, x, h => by simp [val]; omega
  | d :: r, k + 1, x, h => by
    have ih := val_set b r k x (by simpa using h)
    simp only [List.set_cons_succ, val, ih, List.getD_cons_succ, Int.pow_succ]
    rw [Int.mul_add, Int.mul_comm (b ^ k) b, Int.mul_assoc]
    omega
/-- One limb times one limb, with two more. -/
theorem mul_bound {p q r s b : Int} (hp : 0 ≤ p ∧ p < b) (hq : 0 ≤ q ∧ q < b) (hr : 0 ≤ r ∧ r < b) (hs : 0 ≤ s ∧ s < b) : 0 ≤ p * q + r + s ∧ p * q + r + s < b * b := by
  have h1 : p * q ≤ (b - 1) * q := Int.mul_le_mul_of_nonneg_right (by omega) hq.1
  have h2 : (b - 1) * q ≤ (b - 1) * (b - 1) := Int.mul_le_mul_of_nonneg_left (by omega) (by omega)
  have h3 : (b - 1) * (b - 1) = b * b - 2 * b + 1 := by rw [Int.mul_sub, Int.sub_mul]; omega
  have h4 := Int.mul_nonneg hp.1 hq.1
  omega
/-- A product's row: so many of the first row's limbs are worked in, and of the limb at hand so many of the second row's. -/
structure MulIn (xs ys os : List Int) (i j : Nat) (c : Int) : Prop where
  len : os.length = xs.length + ys.length
  dig : Dig B18 os
  zero : ∀ k, i + ys.length ≤ k → os.getD k 0 = 0
  sum : val B18 os + B18 ^ (i + j) * c = val B18 (xs.take i) * val B18 ys + B18 ^ i * xs.getD i 0 * val B18 (ys.take j)
  lo : 0 ≤ c
  hi : c < B18
structure MulOut (xs ys os : List Int) (i : Nat) : Prop where
  len : os.length = xs.length + ys.length
  dig : Dig B18 os
  zero : ∀ k, i + ys.length ≤ k → os.getD k 0 = 0
  sum : val B18 os = val B18 (xs.take i) * val B18 ys
theorem MulOut.start (xs ys : List Int) : MulOut xs ys (List.replicate (xs.length + ys.length) 0) 0 := by
  have hz : ∀ k, (List.replicate (xs.length + ys.length) (0 : Int)).getD k 0 = 0 := fun k => by
    rw [List.getD_eq_getElem?_getD, List.getElem?_replicate]; split <;> rfl
  exact ⟨by simp, fun i => by rw [hz i]; exact ⟨Int.le_refl _, by decide⟩, fun k _ => hz k, by rw [val_zero _ hz]; simp [val]⟩
theorem MulOut.enter {xs ys os : List Int} {i : Nat} (h : MulOut xs ys os i) : MulIn xs ys os i 0 0 :=
  ⟨h.len, h.dig, h.zero, by rw [h.sum]; simp [val], Int.le_refl _, by decide⟩
theorem MulIn.step {xs ys os : List Int} {i j : Nat} {c l c' : Int} (h : MulIn xs ys os i j c) (hi : i < xs.length) (hj : j < ys.length)
    (e : xs.getD i 0 * ys.getD j 0 + os.getD (i + j) 0 + c = c' * B18 + l) (hl : 0 ≤ l ∧ l < B18) (hc : 0 ≤ c' ∧ c' < B18) : MulIn xs ys (os.set (i + j) l) i (j + 1) c' := by
  have hlen := h.len
  refine ⟨by rw [List.length_set]; exact hlen, h.dig.set _ _ hl, fun k hk => ?_, ?_, hc.1, hc.2⟩
  · rw [getD_set' _ _ _ _ (by omega), if_neg (by omega)]; exact h.zero k hk
  · have hs := h.sum
    rw [val_set _ _ _ _ (by omega), val_take' B18 ys j, ← Nat.add_assoc, Int.pow_succ]
    have e1 : B18 ^ (i + j) * B18 * c' = B18 ^ (i + j) * (c' * B18) := by rw [Int.mul_assoc, Int.mul_comm B18 c']
    have e2 : B18 ^ i * xs.getD i 0 * (val B18 (ys.take j) + B18 ^ j * ys.getD j 0) = B18 ^ i * xs.getD i 0 * val B18 (ys.take j) + B18 ^ (i + j) * (xs.getD i 0 * ys.getD j 0) := by
      rw [Int.mul_add, Int.pow_add]
      congr 1
      rw [Int.mul_assoc, Int.mul_assoc, Int.mul_left_comm (xs.getD i 0)]
    rw [e1, e2]
    have e3 : B18 ^ (i + j) * (l - os.getD (i + j) 0) + B18 ^ (i + j) * (c' * B18) = B18 ^ (i + j) * c + B18 ^ (i + j) * (xs.getD i 0 * ys.getD j 0) := by
      rw [← Int.mul_add, ← Int.mul_add]
      congr 1
      omega
    omega
theorem MulIn.leave {xs ys os : List Int} {i : Nat} {c : Int} (h : MulIn xs ys os i ys.length c) (hi : i < xs.length) : MulOut xs ys (os.set (i + ys.length) c) (i + 1) := by
  have hlen := h.len
  refine ⟨by rw [List.length_set]; exact hlen, h.dig.set _ _ ⟨h.lo, h.hi⟩, fun k hk => ?_, ?_⟩
  · rw [getD_set' _ _ _ _ (by omega), if_neg (by omega)]; exact h.zero k (by omega)
  · have hs := h.sum
    rw [List.take_length] at hs
    rw [val_set _ _ _ _ (by omega), h.zero _ (Nat.le_refl _), val_take' B18 xs i, Int.sub_zero, Int.add_mul]
    omega
theorem MulOut.done {xs ys os : List Int} (h : MulOut xs ys os xs.length) : val B18 os = val B18 xs * val B18 ys := by
  have := h.sum
  rwa [List.take_length] at this
end
section
open Go.ChangeShapes Go.WideShapes Go.ChangeAt Go.RowKit
set_option linter.unusedVariables false
set_option linter.unusedSimpArgs false
theorem val_zeros (b : Int) (n : Nat) : val b (List.replicate n 0) = 0 := val_zero b (fun k => by
  rw [List.getD_eq_getElem?_getD, List.getElem?_replicate]; split <;> rfl)
theorem getD_zeros (n k : Nat) : (List.replicate n (0 : Int)).getD k 0 = 0 := by
  rw [List.getD_eq_getElem?_getD, List.getElem?_replicate]; split <;> rfl
structure TmIn (xs ys S : List Int) (i k : Nat) : Prop where
  len : S.length = xs.length + ys.length + 1
  lo : ∀ j, 0 ≤ S.getD j 0
  hi : ∀ j, S.getD j 0 ≤ 81 * (i : Int) + 81
  new : ∀ j, i + k ≤ j → S.getD j 0 ≤ 81 * (i : Int)
  sum : val 10 S = val 10 (xs.take i) * val 10 ys + 10 ^ i * xs.getD i 0 * val 10 (ys.take k)
structure TmOut (xs ys S : List Int) (i : Nat) : Prop where
  len : S.length = xs.length + ys.length + 1
  lo : ∀ j, 0 ≤ S.getD j 0
  hi : ∀ j, S.getD j 0 ≤ 81 * (i : Int)
  sum : val 10 S = val 10 (xs.take i) * val 10 ys
theorem TmOut.start (xs ys : List Int) : TmOut xs ys (List.replicate (xs.length + ys.length + 1) 0) 0 :=
  ⟨by simp, fun j => by rw [getD_zeros]; omega, fun j => by rw [getD_zeros]; omega, by rw [val_zeros]; simp [val]⟩
theorem TmOut.enter {xs ys S : List Int} {i : Nat} (h : TmOut xs ys S i) : TmIn xs ys S i 0 :=
  ⟨h.len, h.lo, fun j => by have := h.hi j; omega, fun j _ => h.hi j, by rw [h.sum]; simp [val]⟩
theorem digit_mul {x y : Int} (hx : 0 ≤ x ∧ x < 10) (hy : 0 ≤ y ∧ y < 10) : 0 ≤ x * y ∧ x * y ≤ 81 := by
  have h1 : x * y ≤ 9 * y := Int.mul_le_mul_of_nonneg_right (by omega) hy.1
  exact ⟨Int.mul_nonneg hx.1 hy.1, by omega⟩
theorem TmIn.step {xs ys S : List Int} {i k : Nat} (h : TmIn xs ys S i k) (hx : Dig 10 xs) (hy : Dig 10 ys) (hi : i < xs.length) (hk : k < ys.length) : TmIn xs ys (S.set (i + k) (S.getD (i + k) 0 + xs.getD i 0 * ys.getD k 0)) i (k + 1) := by
  have hlen := h.len
  have hd := digit_mul (hx i) (hy k)
  have h0 := h.lo (i + k)
  have h1 := h.new (i + k) (Nat.le_refl _)
  refine ⟨by rw [List.length_set]; exact hlen, fun j => ?_, fun j => ?_, fun j hj => ?_, ?_⟩
  · rw [getD_set' _ _ _ _ (by omega)]; split
    · omega
    · exact h.lo j
  · rw [getD_set' _ _ _ _ (by omega)]; split
    · omega
    · exact h.hi j
  · rw [getD_set' _ _ _ _ (by omega), if_neg (by omega)]; exact h.new j (by omega)
  · rw [val_set _ _ _ _ (by omega), h.sum, val_take' 10 ys k]
    have e2 : (10 : Int) ^ i * xs.getD i 0 * (val 10 (ys.take k) + 10 ^ k * ys.getD k 0) = 10 ^ i * xs.getD i 0 * val 10 (ys.take k) + 10 ^ (i + k) * (xs.getD i 0 * ys.getD k 0) := by
      rw [Int.mul_add, Int.pow_add]
      congr 1
      rw [Int.mul_assoc, Int.mul_assoc, Int.mul_left_comm (xs.getD i 0)]
    rw [e2, show S.getD (i + k) 0 + xs.getD i 0 * ys.getD k 0 - S.getD (i + k) 0 = xs.getD i 0 * ys.getD k 0 by omega]
    omega
theorem TmIn.leave {xs ys S : List Int} {i : Nat} (h : TmIn xs ys S i ys.length) : TmOut xs ys S (i + 1) := by
  refine ⟨h.len, h.lo, fun j => by have := h.hi j; omega, ?_⟩
  have hs := h.sum
  rw [List.take_length] at hs
  rw [hs, val_take' 10 xs i, Int.add_mul]
theorem TmOut.done {xs ys S : List Int} (h : TmOut xs ys S xs.length) : val 10 S = val 10 xs * val 10 ys := by
  have := h.sum
  rwa [List.take_length] at this
/-- The carries: so many places are worked off. -/
structure TcSt (S os : List Int) (i : Nat) (c : Int) : Prop where
  len : os.length = i
  dig : Dig 10 os
  sum : val 10 os + 10 ^ i * c = val 10 (S.take i)
  lo : 0 ≤ c
  hi : c ≤ 9000
theorem TcSt.start (S : List Int) : TcSt S [] 0 0 := ⟨rfl, Dig.nil (by decide), by simp [val], by omega, by omega⟩
theorem TcSt.step {S os : List Int} {i : Nat} {c : Int} (h : TcSt S os i c) (h0 : 0 ≤ S.getD i 0) (h1 : S.getD i 0 ≤ 81000) : TcSt S (os ++ [(c + S.getD i 0) % 10]) (i + 1) ((c + S.getD i 0) / 10) := by
  have hl := h.len
  have hlo := h.lo
  have hhi := h.hi
  refine ⟨by rw [List.length_append, List.length_singleton, hl], h.dig.append (Dig.cons ⟨by omega, by omega⟩ (Dig.nil (by decide))), ?_, by omega, by omega⟩
  rw [val_snoc, hl, val_take' 10 S i, ← h.sum, Int.pow_succ, Int.mul_assoc]
  generalize S.getD i 0 = s at *
  have e : (10 : Int) ^ i * ((c + s) % 10) + 10 ^ i * (10 * ((c + s) / 10)) = 10 ^ i * c + 10 ^ i * s := by
    rw [← Int.mul_add, ← Int.mul_add]; congr 1; omega
  omega
theorem TcSt.done {S os : List Int} {c : Int} (h : TcSt S os S.length c) {A : Int} (hA : val 10 S = A) (hlt : A < 10 ^ S.length) : val 10 os = A := by
  have hs := h.sum
  rw [List.take_length, hA] at hs
  have hv := val_nonneg (b := 10) (by decide) h.dig
  have hp := pow_pos' (b := 10) (by decide) S.length
  have hc := h.lo
  by_cases h0 : c = 0
  · rw [h0] at hs; omega
  · have h3 : (10 : Int) ^ S.length * 1 ≤ 10 ^ S.length * c := Int.mul_le_mul_of_nonneg_left (by omega) (Int.le_of_lt hp)
    omega
end
end
section
section
open Go.ChangeShapes Go.WideShapes Go.ChangeAt Go.RowKit
set_option linter.unusedVariables false
set_option linter.unusedSimpArgs false
theorem div64_none (lo y : Int) (hl : 0 ≤ lo ∧ lo ≤ 18446744073709551615) (hy : 0 < y ∧ y ≤ 18446744073709551615) (w : World) :
    Calls Tryz.prog 140 #[.int .u64 0, .int .u64 lo, .int .u64 y] w (D64Q w 0 lo y) := by
  have h0 : (y == 0) = false := by simp; omega
  have h0' : ¬ y = 0 := by omega
  have h1 : ¬ y ≤ 0 := by omega
  go_enter Tryz.func140, Tryz.ntmps140
  go_wp2
  go_region
  go_wp2
  go_ret2
  exact ⟨lo / y, lo % y, rfl, by rw [Int.mul_comm (lo / y)]; have := Int.mul_ediv_add_emod lo y; omega, Int.ediv_nonneg hl.1 (by omega), Int.emod_nonneg _ h0', Int.emod_lt_of_pos _ hy.1, 1, rfl⟩
theorem div64_b18 (hi lo : Int) (hh : 0 ≤ hi ∧ hi < 1000000000000000000) (hl : 0 ≤ lo ∧ lo ≤ 18446744073709551615) (w : World) :
    Calls Tryz.prog 140 #[.int .u64 hi, .int .u64 lo, .int .u64 1000000000000000000] w (D64Q w hi lo 1000000000000000000) := by
  by_cases h : hi = 0
  · subst h; exact div64_none lo _ hl (by omega) w
  · exact div64_base hi lo (by omega) hl w
theorem mul64_any (x y : Int) (hx : 0 ≤ x ∧ x ≤ 18446744073709551615) (hy : 0 ≤ y ∧ y ≤ 18446744073709551615) (w : World) :
    Calls Tryz.prog 122 #[.int .u64 x, .int .u64 y] w fun e w' => (∃ hi lo : Int, e = .returned (.tuple #[.int .u64 hi, .int .u64 lo]) ∧ hi * 18446744073709551616 + lo = x * y ∧ 0 ≤ hi ∧ 0 ≤ lo ∧ lo ≤ 18446744073709551615) ∧ w = w' := by
  obtain ⟨x, rfl⟩ := Int.eq_ofNat_of_zero_le hx.1
  obtain ⟨y, rfl⟩ := Int.eq_ofNat_of_zero_le hy.1
  refine (Tryz.bits_Mul64 x y (by omega) (by omega) w).mono ?_
  rintro e w' ⟨rfl, rfl⟩
  refine ⟨⟨_, _, rfl, ?_, by omega, by omega, by omega⟩, rfl⟩
  rw [← Int.natCast_mul]
  generalize x * y = z
  omega
/-- mulAdd's answer. -/
def MulAddQ (W : World) (p q r s : Int) (e : Ending) (w' : World) : Prop :=
  ∃ l c : Int, e = .returned (.tuple #[.int .u64 l, .int .u64 c]) ∧ p * q + r + s = c * B18 + l ∧ (0 ≤ l ∧ l < B18) ∧ (0 ≤ c ∧ c < B18) ∧ ∃ n, w' = W.drewN n
set_option maxRecDepth 100000 in
set_option maxHeartbeats 4000000 in
theorem mulAdd_any (p q r s : Int) (hp : 0 ≤ p ∧ p < B18) (hq : 0 ≤ q ∧ q < B18) (hr : 0 ≤ r ∧ r < B18) (hs : 0 ≤ s ∧ s < B18) (w : World) :
    Calls Tryz.prog 114 #[.int .u64 p, .int .u64 q, .int .u64 r, .int .u64 s] w (MulAddQ w p q r s) := by
  have HB := Lib.hid (mul_bound hp hq hr hs)
  have HP := Lib.hid hp
  have HQ := Lib.hid hq
  have hr2 : 0 ≤ r ∧ r ≤ 18446744073709551615 := by rw [B18] at hr; omega
  have hs2 : 0 ≤ s ∧ s ≤ 18446744073709551615 := by rw [B18] at hs; omega
  have hp2 : 0 ≤ p ∧ p ≤ 18446744073709551615 := by rw [B18] at hp; omega
  have hq2 : 0 ≤ q ∧ q ≤ 18446744073709551615 := by rw [B18] at hq; omega
  have HR := Lib.hid hr
  have HS := Lib.hid hs
  clear hp hq hr hs
  go_enter Tryz.func114, Tryz.ntmps114
  go_wp2_with (go_at_call 122; (with_reducible refine (mul64_any p q hp2 hq2 _).mono ?_); rintro e w2 ⟨⟨hi, lo, rfl, hm, hi0, lo0, lo1⟩, rfl⟩; have HM := Lib.hid hm; clear hm)
  obtain ⟨lo2, c, hadd, hac, hl0, hl1, hq0, hq1⟩ := add64_at lo r ⟨lo0, lo1⟩ hr2 w
  rw [hadd]
  have hm := HM.out
  have hb := HB.out
  simp only [B18] at hb
  generalize p * q = z at hm hb
  have hhi : hi + c + 1 ≤ 1000000000000000000 := by omega
  have hwr : IntKind.u64.wrap (hi + c) = hi + c := by rw [IntKind.wrap_u64]; omega
  have HAC := Lib.hid hac
  clear hadd hm hb hac
  go_wp2_with fail
  obtain ⟨lo3, d, hadd, had, hl2, hl3, hd0, hd1⟩ := add64_at lo2 s ⟨hl0, hl1⟩ hs2 w
  rw [hadd]
  have hm := HM.out
  have hb := HB.out
  have hac := HAC.out
  simp only [B18] at hb
  generalize hz : p * q = z at hm hb
  have hhi2 : 0 ≤ hi + c + d ∧ hi + c + d < 1000000000000000000 := by omega
  have hwr2 : IntKind.u64.wrap (hi + c + d) = hi + c + d := by rw [IntKind.wrap_u64]; omega
  have HE := Lib.hid (show (hi + c + d) * 18446744073709551616 + lo3 = p * q + r + s by rw [hz]; omega)
  clear hadd hm hb hac had hz
  go_wp2_with (go_at_call 140; (with_reducible refine (div64_b18 _ _ hhi2 ⟨hl2, hl3⟩ _).mono ?_); rintro e w3 ⟨k, l, rfl, hkl, hk0, hl0', hl1', n, rfl⟩; have HK := Lib.hid hkl; clear hkl)
  go_ret2
  have he := HE.out
  have hk := HK.out
  have hb := HB.out
  rw [he] at hk
  simp only [B18] at hb
  have hkb : k < 1000000000000000000 := by omega
  exact ⟨l, k, rfl, hk, ⟨hl0', hl1'⟩, ⟨hk0, hkb⟩, n, rfl⟩
end
section
open Go.ChangeShapes Go.WideShapes Go.ChangeAt Go.RowKit
set_option linter.unusedVariables false
set_option linter.unusedSimpArgs false
def MulPost (W : World) (xs ys : List Int) (e : Ending) (w' : World) : Prop :=
  ∃ g os, e = .returned (.slice (some ⟨g, 0, none⟩) os.length os.length) ∧ W.heap.size ≤ g ∧ LU w' g os ∧ os.length = xs.length + ys.length ∧ Dig B18 os ∧ val B18 os = val B18 xs * val B18 ys ∧ Below W.heap.size W w'
theorem LR.drewN {k : IntKind} {T : TypeId} {w : World} {g : Nat} {ws : List Int} (h : LR k T w g ws) (n : Nat) : LR k T (w.drewN n) g ws := h
theorem drewN_cell {W : World} {a : Addr} {v : Value} (h : W.cell? a = some v) (n : Nat) : (W.drewN n).cell? a = some v := h
theorem belowN {B : Nat} {w w' : World} (h : Below B w w') (n : Nat) : Below B w (w'.drewN n) := by
  induction n with
  | zero => exact h
  | succ n ih => exact ih.drew
set_option maxRecDepth 100000 in
set_option maxHeartbeats 8000000 in
theorem mulSizes_any (u1 u2 : Value) (xs ys : List Int) (w : World) (h1 : Rd w u1 xs) (h2 : Rd w u2 ys) (hx : Dig B18 xs) (hy : Dig B18 ys) (hl1 : xs.length ≤ 1000) (hl2 : ys.length ≤ 1000) :
    Calls Tryz.prog 85 #[u1, u2] w (MulPost w xs ys) := by
  obtain ⟨p1, c1, rfl, hc1, hm1, hp1⟩ := rd_form h1
  obtain ⟨p2, c2, rfl, hc2, hm2, hp2⟩ := rd_form h2
  have HP1 := Lib.hid hp1
  have HP2 := Lib.hid hp2
  have HX := Lib.hid hx
  have HY := Lib.hid hy
  clear h1 h2 hc1 hc2 hx hy hp1 hp2 hm1 hm2
  have hmk := run_make_row' (P := Tryz.prog) 22 25 (.int .u64 0) 8 Tryz.underlying22 infoU64 rfl .i64 .i64 (xs.length + ys.length) (by omega) (by omega)
  rw [show ((xs.length + ys.length : Nat) : Int) = (xs.length : Int) + (ys.length : Int) by omega] at hmk
  have HGG := Lib.hid (show LU (w.alloc (.cells (madeCells #[Value.int .u64 0] (xs.length + ys.length)) 25)) w.heap.size (List.replicate (xs.length + ys.length) 0) from LR.made (k := .u64) (T := 25) w (xs.length + ys.length))
  have HBB := Lib.hid (show Below w.heap.size w (w.alloc (.cells (madeCells #[Value.int .u64 0] (xs.length + ys.length)) 25)) from (Below.refl _ _).alloc (Nat.le_refl _) _)
  go_enter Tryz.func85, Tryz.ntmps85
  go_wp2_with fail
  generalize hw1 : World.alloc w _ = w1 at HGG HBB
  clear hw1 hmk
  go_loopw [7, 17] (fun cv s wr => ∃ (i : Nat) (os : List Int), s = .int .i64 i ∧ i ≤ xs.length ∧ MulOut xs ys os i ∧ LU wr w.heap.size os ∧ Below w.heap.size w wr) (fun _ s _ => xs.length - (intOf s).toNat)
  case atStart => exact ⟨0, _, by go_num, by omega, MulOut.start xs ys, HGG.out, HBB.out⟩
  case round =>
    obtain ⟨i, os, rfl, hi, hS, hL, hB⟩ := hrel
    obtain ⟨wo, rfl⟩ : ∃ wo : World, wo = wr := ⟨_, rfl⟩
    have HS := Lib.hid hS
    have HL := Lib.hid hL
    have HB := Lib.hid hB
    clear hS hL hB
    by_cases hlt : i < xs.length
    · have hiz : (i : Int) < (xs.length : Int) := by omega
      go_wp2_with fail
      go_loopw [7, 8, 22] (fun cv s0 s wr => ∃ (j : Nat) (c : Int) (os : List Int), s = .int .i64 j ∧ cv = .int .u64 c ∧ j ≤ ys.length ∧ MulIn xs ys os i j c ∧ LU wr w.heap.size os ∧ Below w.heap.size w wr) (fun _ _ s _ => ys.length - (intOf s).toNat)
      case atStart => exact ⟨0, 0, _, by go_num, rfl, by omega, HS.out.enter, HL.out, HB.out⟩
      case round =>
        obtain ⟨j, c, os2, rfl, rfl, hj, hS2, hL2, hB2⟩ := hrel
        have HS2 := Lib.hid hS2
        have HL2 := Lib.hid hL2
        have HB2 := Lib.hid hB2
        have hol := hS2.len
        clear hS2 hL2 hB2
        by_cases hltj : j < ys.length
        · have hjz : (j : Int) < (ys.length : Int) := by omega
          obtain ⟨b1, o1, rfl, hca⟩ := HP1.out (by omega)
          obtain ⟨b2, o2, rfl, hcb⟩ := HP2.out (by omega)
          have ka := below_cell HB2.out (hca i hlt)
          have kb := below_cell HB2.out (hcb j hltj)
          have ko := HL2.out.cell (i := i + j) (by omega)
          have hfr := HL2.out.frozen (i + j)
          have hba := HX.out i
          have hbb := HY.out j
          have hbo := HS2.out.dig (i + j)
          have hbc : 0 ≤ c ∧ c < B18 := ⟨HS2.out.lo, HS2.out.hi⟩
          have HN := Lib.hid (fun c' l (e : xs.getD i 0 * ys.getD j 0 + os2.getD (i + j) 0 + c = c' * B18 + l) hl hc => HS2.out.step (c' := c') (l := l) hlt hltj e hl hc)
          generalize xs.getD i 0 = x at ka hba HN
          generalize ys.getD j 0 = y at kb hbb HN
          generalize os2.getD (i + j) 0 = z at ko hbo HN
          have HC := Lib.hid (fun wx => mulAdd_any x y z c hba hbb hbo hbc wx)
          have hij : (i : Int) + (j : Int) < (xs.length : Int) + (ys.length : Int) := by omega
          have hij0 : (0 : Int) ≤ (i : Int) + (j : Int) := by omega
          have hijn : i + j < xs.length + ys.length := by omega
          have hwij : IntKind.i64.wrap ((i : Int) + (j : Int)) = (i : Int) + (j : Int) := by rw [IntKind.wrap_i64]; omega
          have htn : ((i : Int) + (j : Int)).toNat = i + j := by omega
          have hn1 : b1 ≠ w.heap.size := Nat.ne_of_lt (World.block_lt_of_cell? w ⟨b1, _, none⟩ (hca i hlt))
          have hn2 : b2 ≠ w.heap.size := Nat.ne_of_lt (World.block_lt_of_cell? w ⟨b2, _, none⟩ (hcb j hltj))
          clear hca hcb hba hbb hbo hbc
          go_wp2_with fail
          go_region_with (go_at_call 114; (with_reducible refine (HC.out _).mono ?_); rintro e w3 ⟨l, c', rfl, he, hl, hc, n, rfl⟩; have HE := Lib.hid (HN.out c' l he hl hc); have ko2 := drewN_cell ko n; have hfr2 := (HL2.out.drewN n).frozen (i + j); clear he hl hc)
          all_goals
            go_wp2_with fail
            go_roundw
            case rel => exact ⟨j + 1, c', _, by go_num, rfl, by omega, HE.out, (HL2.out.drewN _).set (i + j) l, (belowN HB2.out _).setCell (Nat.le_refl _) _⟩
            case measure => simp [intOf]; omega
        · obtain rfl : j = ys.length := by omega
          have hol2 : i + ys.length < os2.length := by omega
          have ko := HL2.out.cell (i := i + ys.length) hol2
          have hfr := HL2.out.frozen (i + ys.length)
          have HE := Lib.hid (HS2.out.leave hlt)
          have hwij : IntKind.i64.wrap ((i : Int) + (ys.length : Int)) = (i : Int) + (ys.length : Int) := by rw [IntKind.wrap_i64]; omega
          have hb1 : (0 : Int) ≤ (i : Int) + (ys.length : Int) := by omega
          have hb2 : (i : Int) + (ys.length : Int) < (xs.length : Int) + (ys.length : Int) := by omega
          have htn : ((i : Int) + (ys.length : Int)).toNat = i + ys.length := by omega
          have HO := Lib.hid hol
          clear hol hol2
          go_wp2_with fail
          go_roundw
          case rel => exact ⟨i + 1, _, by go_num, by omega, HE.out, HL2.out.set _ _, HB2.out.setCell (Nat.le_refl _) _⟩
          case measure => simp [intOf]; omega
    · obtain rfl : i = xs.length := by omega
      have HL2 := Lib.hid HL.out
      have hol := HS.out.len
      have HD := Lib.hid HS.out.dig
      have HV := Lib.hid HS.out.done
      clear HL
      go_wp2_with fail
      go_ret
      exact ⟨w.heap.size, os, by rw [hol]; rfl, Nat.le_refl _, HL2.out, hol, HD.out, HV.out, HB.out⟩
end
end
section
open Go.ChangeShapes Go.WideShapes Go.ChangeAt Go.RowKit
set_option linter.unusedVariables false
set_option linter.unusedSimpArgs false
theorem sg_mul (n m : Bool) (a b : Int) : sg (n != m) (a * b) = sg n a * sg m b := by
  cases n <;> cases m <;> simp [sg, Int.neg_mul, Int.mul_neg]
set_option maxRecDepth 100000 in
set_option maxHeartbeats 800000 in
theorem mul_good (n1 : Bool) (u1 : Value) (xs : List Int) (z1 : Int) (n2 : Bool) (u2 : Value) (ys : List Int) (z2 : Int) (w : World) (hr1 : Rd w u1 xs) (hr2 : Rd w u2 ys) (hs1 : Sgn B18 n1 xs z1) (hs2 : Sgn B18 n2 ys z2) (hl1 : xs.length ≤ 30) (hl2 : ys.length ≤ 30) :
    Calls Tryz.prog 48 #[.agg #[.bool n1, u1], .agg #[.bool n2, u2]] w (ResPost w w.heap.size (z1 * z2)) := by
  have HR1 := Lib.hid hr1
  have HR2 := Lib.hid hr2
  obtain ⟨p1, c1, rfl, _, _, _⟩ := rd_form hr1
  obtain ⟨p2, c2, rfl, _, _, _⟩ := rd_form hr2
  have HS1 := Lib.hid hs1
  have HS2 := Lib.hid hs2
  clear hr1 hr2 hs1 hs2
  go_enter Tryz.func48, Tryz.ntmps48
  go_wp2_with fail
  generalize hw2 : World.alloc (World.alloc (World.alloc w _) _) _ = w2
  have hbx : Bx3 w2 w.heap.size n1 (.slice p1 xs.length c1) n2 (.slice p2 ys.length c2) := by
    rw [← hw2]
    exact ⟨alloc_cell (alloc_cell (by simp) _) _, alloc_cell (alloc_cell (by simp) _) _, alloc_cell (by simp) _, alloc_cell (by simp) _, third_cell _ _ _ _ _ 0, third_cell _ _ _ _ _ 1, third_fr _ _ _ _ _ 0, third_fr _ _ _ _ _ 1, by simp⟩
  have HB2 := Lib.hid (show Below w.heap.size w w2 by rw [← hw2]; exact (((Below.refl _ _).alloc (Nat.le_refl _) _).alloc (by simp) _).alloc (by simp; omega) _)
  clear hw2
  have HX2 := Lib.hid hbx
  have q0 := hbx.x0
  have q1 := hbx.x1
  have q2 := hbx.y0
  have q3 := hbx.y1
  refine (good_yes _ _ xs z1 w2 (HR1.out.keep HB2.out) HS1.out hl1).mono ?_
  rintro e w3 ⟨rfl, hb3⟩
  have HX3 := Lib.hid (HX2.out.keep hb3)
  have HB3 := Lib.hid (HB2.out.trans (hb3.mono HB2.out.size))
  have t0 := HX3.out.x0
  have t1 := HX3.out.x1
  have t2 := HX3.out.y0
  have t3 := HX3.out.y1
  clear q0 q1 q2 q3 hb3 hbx HX2 HB2
  go_wp2_with fail
  refine (good_yes _ _ ys z2 w3 (HR2.out.keep HB3.out) HS2.out hl2).mono ?_
  rintro e w4 ⟨rfl, hb4⟩
  have HX4 := Lib.hid (HX3.out.keep hb4)
  have HB4 := Lib.hid (HB3.out.trans (hb4.mono HB3.out.size))
  have s0 := HX4.out.x0
  have s1 := HX4.out.x1
  have s2 := HX4.out.y0
  have s3 := HX4.out.y1
  have r0 := HX4.out.r0
  have r1 := HX4.out.r1
  have f0 := HX4.out.f0
  have f1 := HX4.out.f1
  have hlt := HX4.out.lt
  clear t0 t1 t2 t3 hb4 HX3 HB3
  have HADD := Lib.hid (fun (wx : World) (hx : Below w.heap.size w wx) => mulSizes_any _ _ xs ys wx (HR1.out.keep hx) (HR2.out.keep hx) HS1.out.canon.1 HS2.out.canon.1 (by omega) (by omega))
  go_wp2_with fail
  go_region_held3 (fun w' => w'.cell? ⟨w.heap.size, 0, none⟩ = some (.bool n1) ∧ w'.cell? ⟨w.heap.size + 1, 0, none⟩ = some (.bool n2) ∧ w'.cell? ⟨w.heap.size, 1, none⟩ = some (.slice p1 xs.length c1) ∧ w'.cell? ⟨w.heap.size + 1, 1, none⟩ = some (.slice p2 ys.length c2))
    ((repeat' apply And.intro) <;> (first | assumption | exact cell_set2 (by omega) (by assumption) _ _ | go_keep))
    (first
     | (go_at_call 85; refine (HADD.out _ (by first | exact HB4.out | exact HB4.out.drew)).mono ?_; rintro e w5 ⟨g, os, rfl, hg, hL, hol, hd, hv, hb5⟩; have hq5 : Below w4.heap.size w4 w5 := ⟨hb5.os, hb5.tape, hb5.output, hb5.size, hb5.block⟩; have hx5 := HX4.out.keep hq5; have k50 := hx5.x0; have k51 := hx5.x1; have k52 := hx5.y1; have k53 := hx5.y0; have HL5 := Lib.hid hL; have HD5 := Lib.hid hd; have HV5 := Lib.hid hv; have HO5 := Lib.hid hol; have HG5 := Lib.hid (show w4.heap.size ≤ g from hg); have HX5 := Lib.hid hx5; have HB5 := Lib.hid (HB4.out.trans (hq5.mono HB4.out.size)); clear hL hd hv hol hg hq5 hb5 hx5)
     | (go_at_call 82; refine (fit_any (n1 != n2) _ w4.heap.size _ _ HL5.out HD5.out HG5.out (by have := HO5.out; omega)).mono ?_; rintro e w6 ⟨neg, u, ws, er, rfl, hM, hb6, hcase⟩; obtain ⟨p, c, rfl⟩ := MU.form hM; have HM6 := Lib.hid hM; have HC6 := Lib.hid hcase; have HB6 := Lib.hid (HB5.out.trans (hb6.mono HB5.out.size)); have hx6 := HX5.out.keep hb6; have k60 := hx6.x0; have k61 := hx6.x1; have k62 := hx6.y1; have k63 := hx6.y0; have m0 := hx6.r0; have m1 := hx6.r1; have mf0 := hx6.f0; have mf1 := hx6.f1; clear hM hcase hb6 hx6))
  go_wp2_with fail
  have zz := two_setW (x0 := .bool neg) (x1 := .slice p ws.length c) m0 m1
  refine bodyPost_ret (v := .tuple #[.agg #[.bool neg, .slice p ws.length c], .int .i64 er]) (by simp [results, Tryz.results48, go_sem, zz.1, zz.2]) rfl ?_
  exact ResPost.mk (HM6.out.set2 hlt _ _) (by omega) ((HB6.out.setCell (by simp; omega) _).setCell (by simp; omega) _) (by rw [HV5.out, sg_mul, ← HS1.out.eq, ← HS2.out.eq]) HC6.out
end
end Go.Proofs.YtpebnofjcodikaaGreatDoor
