/- Layer 2: math/bits.Div64 by the base 10^18, whatever the high word below it. -/
import Derived.Test.YtapeomcnjjfihaaDoorWDiv64
import Derived.Test.YtapeomcnjjfihaaDoorWKnuth
import Derived.Deep.CutRange
import Derived.Deep.CutBlock
import Derived.Test.YtapeomcnjjfihaaDoorShelf
namespace Go.Proofs.YtapeomcnjjfihaaDoor
open Go.ChangeShapes Go.WideShapes Go.ChangeAt Go.RowKit
set_option linter.unusedVariables false
set_option linter.unusedSimpArgs false
/-- Div64's answer, and that it makes no memory. -/
def D64Q (W : World) (hi lo y : Int) (e : Ending) (w' : World) : Prop :=
  ∃ q r : Int, e = .returned (.tuple #[.int .u64 q, .int .u64 r]) ∧ hi * 18446744073709551616 + lo = q * y + r ∧ 0 ≤ q ∧ 0 ≤ r ∧ r < y ∧ ∃ n, w' = W.drewN n
theorem bl_base : Lib.bitLen (1000000000000000000 : Int).toNat = 60 := by decide +kernel
theorem lz_base (w : World) : Calls Tryd.prog 113 #[.int .u64 1000000000000000000] w fun e w' => e = .returned (.int .i64 4) ∧ w = w' := by
  refine (Tryd.bits_LeadingZeros64 1000000000000000000 w (by omega) (by omega)).mono ?_
  rintro e w' ⟨rfl, rfl⟩
  exact ⟨by rw [bl_base]; rfl, rfl⟩
theorem or_high {a b : Int} (ha : 0 ≤ a ∧ a < 1000000000000000000) (hb : 0 ≤ b ∧ b < 16) : bits BinOp.or IntKind.u64 (a * 16) b = a * 16 + b :=
  bits_join .u64 64 (by decide) (fun n h h' => by rw [IntKind.wrap_u64]; omega) 4 (a * 16) b (by omega) (by omega) (by omega) (by omega) (by omega) (by omega)
theorem and_low {m : Int} (h : 0 ≤ m) (h' : m ≤ 18446744073709551615) : bits BinOp.and IntKind.u64 m 4294967295 = m % 4294967296 :=
  bits_mask .u64 64 (by decide) (fun n h h' => by rw [IntKind.wrap_u64]; omega) 32 (by decide) m h (by omega)
set_option maxRecDepth 100000 in
set_option maxHeartbeats 4000000 in
theorem div64_base (hi lo : Int) (hh : 0 < hi ∧ hi < 1000000000000000000) (hl : 0 ≤ lo ∧ lo ≤ 18446744073709551615) (w : World) :
    Calls Tryd.prog 99 #[.int .u64 hi, .int .u64 lo, .int .u64 1000000000000000000] w (D64Q w hi lo 1000000000000000000) := by
  have h0 : (hi == 0) = false := by simp; omega
  have h0' : ¬ hi = 0 := by omega
  have h1 : ¬ (1000000000000000000 : Int) ≤ hi := by omega
  have e10 : bits BinOp.and IntKind.u64 16000000000000000000 4294967295 = 1983905792 := and_low (by omega) (by omega)
  obtain ⟨h, hhe⟩ : ∃ h, hi * 16 + lo / 1152921504606846976 = h := ⟨_, rfl⟩
  obtain ⟨m, hme⟩ : ∃ m, IntKind.u64.wrap (lo * 16) = m := ⟨_, rfl⟩
  have eor : bits BinOp.or IntKind.u64 (hi * 16) (lo / 1152921504606846976) = h := by rw [← hhe]; exact or_high (by omega) (by omega)
  have hmm : m = lo * 16 % 18446744073709551616 := by rw [← hme, IntKind.wrap_u64]
  obtain ⟨d1, hd1⟩ : ∃ d1, m / 4294967296 = d1 := ⟨_, rfl⟩
  obtain ⟨d0, hd0⟩ : ∃ d0, m % 4294967296 = d0 := ⟨_, rfl⟩
  have eand : bits BinOp.and IntKind.u64 m 4294967295 = d0 := by rw [and_low (by omega) (by omega), hd0]
  have hm0 : 0 ≤ m ∧ m ≤ 18446744073709551615 := by omega
  have hd1b : 0 ≤ d1 ∧ d1 < 4294967296 := by omega
  have hd0b : 0 ≤ d0 ∧ d0 < 4294967296 := by omega
  have hb : 0 ≤ h ∧ h < 16000000000000000000 := by omega
  have HN := Lib.hid (show 16 * (hi * 18446744073709551616 + lo) = (h * 4294967296 + d1) * 4294967296 + d0 by omega)
  have A1 := Lib.hid (show DArg 3725290298 1983905792 h d1 from ⟨by omega, by omega, by omega, by omega, hb.1, by omega, hd1b.1, hd1b.2⟩)
  obtain ⟨q, hq⟩ : ∃ q, h / 3725290298 = q := ⟨_, rfl⟩
  have I0 := Lib.hid (show DInv 3725290298 1983905792 h d1 q (h - q * 3725290298) by rw [← hq]; exact DInv.start A1.out)
  have hqb : 0 ≤ q ∧ q ≤ 4294967297 := ⟨I0.out.q0, I0.out.q1⟩
  have hqr : 0 ≤ h - q * 3725290298 ∧ h - q * 3725290298 < 4294967296 := ⟨I0.out.r0, I0.out.r1⟩
  clear hhe hmm hd0
  go_enter Tryd.func99, Tryd.ntmps99
  go_upto_block 0 with (go_at_call 113; refine (lz_base _).mono ?_; rintro e w2 ⟨rfl, rfl⟩)
  have HQ := Lib.hid hq
  clear e10 hme eor hd1 eand hq hl hh h0 h0' h1
  go_cut [15] from 67 to 85 (fun a wx => ∃ q, a = .int .u64 q ∧ DOut (3725290298 * 4294967296 + 1983905792) h d1 q ∧ q < 4294967296 ∧ w = wx)
  case first =>
    go_wp2
    go_loop [15, 16] (fun a b => ∃ q r : Int, a = .int .u64 q ∧ b = .int .u64 r ∧ DInv 3725290298 1983905792 h d1 q r) (fun _ b => (4294967296 - intOf b).toNat)
    case atStart => exact ⟨q, _, by rw [HQ.out], rfl, I0.out⟩
    case round =>
      obtain ⟨qq, r, rfl, rfl, hI⟩ := hrel
      have HI := Lib.hid hI
      have r0 := hI.r0; have r1 := hI.r1; have q0 := hI.q0; have q1 := hI.q1
      clear hI
      by_cases c1 : 4294967296 ≤ qq
      · have HT := Lib.hid (show 4294967296 ≤ qq ∨ 4294967296 * r + d1 < qq * 1983905792 from .inl c1)
        have hq1 : 1 ≤ qq := by omega
        by_cases c3 : 4294967296 ≤ r + 3725290298
        · go_wp2
          go_meet
          exact ⟨_, rfl, HI.out.leave A1.out HT.out c3, (HI.out.leave A1.out HT.out c3).lt (by omega) (by omega) (by omega), rfl⟩
        · go_wp2
          go_round
          case rel => exact ⟨_, _, rfl, rfl, HI.out.step A1.out HT.out (by omega)⟩
          case measure => simp [intOf]; omega
      · by_cases c2 : 4294967296 * r + d1 < qq * 1983905792
        · have HT := Lib.hid (show 4294967296 ≤ qq ∨ 4294967296 * r + d1 < qq * 1983905792 from .inr c2)
          have hq1 : 1 ≤ qq := by omega
          by_cases c3 : 4294967296 ≤ r + 3725290298
          · go_wp2
            go_meet
            exact ⟨_, rfl, HI.out.leave A1.out HT.out c3, (HI.out.leave A1.out HT.out c3).lt (by omega) (by omega) (by omega), rfl⟩
          · go_wp2
            go_round
            case rel => exact ⟨_, _, rfl, rfl, HI.out.step A1.out HT.out (by omega)⟩
            case measure => simp [intOf]; omega
        · go_wp2
          go_meet
          exact ⟨_, rfl, HI.out.exit A1.out (by omega) (by omega), by omega, rfl⟩
  case rest =>
    obtain ⟨q, rfl, hO, hql, rfl⟩ := hcut
    have hr := hO.rest
    have hq0 := hO.q0
    have HO := Lib.hid hO
    obtain ⟨u, hu⟩ : ∃ u, h * 4294967296 + d1 - q * 16000000000000000000 = u := ⟨_, rfl⟩
    have hr2 : 0 ≤ u ∧ u < 16000000000000000000 := by rw [← hu]; exact hr
    have HU := Lib.hid hu
    have hwr : IntKind.u64.wrap (IntKind.u64.wrap (IntKind.u64.wrap (h * 4294967296) + d1) - IntKind.u64.wrap (q * 16000000000000000000)) = u := by
      simp only [IntKind.wrap_u64]; omega
    have A0 := Lib.hid (show DArg 3725290298 1983905792 u d0 from ⟨by omega, by omega, by omega, by omega, hr2.1, by omega, hd0b.1, hd0b.2⟩)
    obtain ⟨g, hg⟩ : ∃ g, u / 3725290298 = g := ⟨_, rfl⟩
    have J0 := Lib.hid (show DInv 3725290298 1983905792 u d0 g (u - g * 3725290298) by rw [← hg]; exact DInv.start A0.out)
    have hgb : 0 ≤ g ∧ g ≤ 4294967297 := ⟨J0.out.q0, J0.out.q1⟩
    have hgr : 0 ≤ u - g * 3725290298 ∧ u - g * 3725290298 < 4294967296 := ⟨J0.out.r0, J0.out.r1⟩
    clear hr hu hO
    go_upto_block 2 with (fail)
    have HG := Lib.hid hg
    clear hwr hg
    go_cut [18] from 102 to 120 (fun a wx => ∃ g, a = .int .u64 g ∧ DOut (3725290298 * 4294967296 + 1983905792) u d0 g ∧ g < 4294967296 ∧ w = wx)
    case first =>
      go_wp2
      go_loop [18, 16] (fun a b => ∃ q r : Int, a = .int .u64 q ∧ b = .int .u64 r ∧ DInv 3725290298 1983905792 u d0 q r) (fun _ b => (4294967296 - intOf b).toNat)
      case atStart => exact ⟨g, _, by rw [HG.out], rfl, J0.out⟩
      case round =>
        obtain ⟨qq, r, rfl, rfl, hI⟩ := hrel
        have HI := Lib.hid hI
        have r0 := hI.r0; have r1 := hI.r1; have q0 := hI.q0; have q1 := hI.q1
        clear hI
        by_cases c1 : 4294967296 ≤ qq
        · have HT := Lib.hid (show 4294967296 ≤ qq ∨ 4294967296 * r + d0 < qq * 1983905792 from .inl c1)
          have hq1 : 1 ≤ qq := by omega
          by_cases c3 : 4294967296 ≤ r + 3725290298
          · go_wp2
            go_meet
            exact ⟨_, rfl, HI.out.leave A0.out HT.out c3, (HI.out.leave A0.out HT.out c3).lt (by omega) (by omega) (by omega), rfl⟩
          · go_wp2
            go_round
            case rel => exact ⟨_, _, rfl, rfl, HI.out.step A0.out HT.out (by omega)⟩
            case measure => simp [intOf]; omega
        · by_cases c2 : 4294967296 * r + d0 < qq * 1983905792
          · have HT := Lib.hid (show 4294967296 ≤ qq ∨ 4294967296 * r + d0 < qq * 1983905792 from .inr c2)
            have hq1 : 1 ≤ qq := by omega
            by_cases c3 : 4294967296 ≤ r + 3725290298
            · go_wp2
              go_meet
              exact ⟨_, rfl, HI.out.leave A0.out HT.out c3, (HI.out.leave A0.out HT.out c3).lt (by omega) (by omega) (by omega), rfl⟩
            · go_wp2
              go_round
              case rel => exact ⟨_, _, rfl, rfl, HI.out.step A0.out HT.out (by omega)⟩
              case measure => simp [intOf]; omega
          · go_wp2
            go_meet
            exact ⟨_, rfl, HI.out.exit A0.out (by omega) (by omega), by omega, rfl⟩
    case rest =>
      obtain ⟨g, rfl, hO2, hgl, rfl⟩ := hcut
      have hr3 := hO2.rest
      have hg0 := hO2.q0
      have HO2 := Lib.hid hO2
      obtain ⟨v, hv⟩ : ∃ v, u * 4294967296 + d0 - g * 16000000000000000000 = v := ⟨_, rfl⟩
      have hv2 : 0 ≤ v ∧ v < 16000000000000000000 := by rw [← hv]; exact hr3
      have HV := Lib.hid hv
      have hwv : IntKind.u64.wrap (IntKind.u64.wrap (IntKind.u64.wrap (u * 4294967296) + d0) - IntKind.u64.wrap (g * 16000000000000000000)) = v := by
        simp only [IntKind.wrap_u64]; omega
      clear hr3 hv hO2
      go_wp2
      go_ret2
      have hb := HO.out.both (d0 := d0) (q0 := g) (by rw [show (3725290298 : Int) * 4294967296 + 1983905792 = 16000000000000000000 by decide, HU.out]; exact HO2.out)
      rw [← HN.out, show (3725290298 : Int) * 4294967296 + 1983905792 = 16 * 1000000000000000000 by decide] at hb
      have hu2 := HU.out
      have hv3 := HV.out
      have hk := knuth16 hb (by omega) (by omega)
      refine ⟨q * 4294967296 + g, v / 16, rfl, ?_, by omega, by omega, by omega, 0, rfl⟩
      omega
end Go.Proofs.YtapeomcnjjfihaaDoor
