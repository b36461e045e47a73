/- Layer 2: the plain mathematics of the shift before a division of two words by any word. Layer 2: math/bits.Div64 by any divisor above the high word. -/
import Derived.Test.YtpebnofjcodikaaGreatDoorPGWj
import Derived.Lib.ItoaNum
namespace Go.Proofs.YtpebnofjcodikaaGreatDoor
section
open Go.ChangeShapes Go.WideShapes Go.ChangeAt Go.RowKit
set_option linter.unusedVariables false
set_option linter.unusedSimpArgs false
theorem lz_bounds {y : Int} {s : Nat} (h0 : 0 < y) (h1 : y ≤ 18446744073709551615) (hlz : 64 - (Lib.bitLen y.toNat : Int) = s) :
    s ≤ 63 ∧ 9223372036854775808 ≤ y * 2 ^ s ∧ y * 2 ^ s ≤ 18446744073709551615 := by
  obtain ⟨n, rfl⟩ := Int.eq_ofNat_of_zero_le (show 0 ≤ y by omega)
  have hb := Lib.bitLenAux_bounds 64 n (by omega) (by omega)
  have e : Lib.bitLen (Int.toNat (n : Int)) = Lib.bitLenAux 64 n := by rw [Int.toNat_natCast]; rfl
  rw [e] at hlz
  generalize Lib.bitLenAux 64 n = b at *
  obtain ⟨b1, b2, b3⟩ := hb
  have hbs : b + s = 64 := by omega
  have p1 : 2 ^ (b - 1) * 2 ^ s ≤ n * 2 ^ s := Nat.mul_le_mul_right _ b2
  have p2 : n * 2 ^ s < 2 ^ b * 2 ^ s := Nat.mul_lt_mul_of_pos_right b3 (Nat.two_pow_pos s)
  rw [← Nat.pow_add, show b - 1 + s = 63 by omega] at p1
  rw [← Nat.pow_add, hbs] at p2
  refine ⟨by omega, ?_, ?_⟩
  · have : ((9223372036854775808 : Nat) : Int) ≤ ((n * 2 ^ s : Nat) : Int) := by exact_mod_cast p1
    simpa using this
  · have : ((n * 2 ^ s : Nat) : Int) < ((18446744073709551616 : Nat) : Int) := by exact_mod_cast p2
    simp at this
    omega
structure DNorm (hi lo y : Int) (s : Nat) (P Y h m : Int) : Prop where
  pow : (2 : Int) ^ s = P
  pos : 0 < P
  top : y * P = Y
  y0 : 9223372036854775808 ≤ Y
  y1 : Y ≤ 18446744073709551615
  wy : IntKind.u64.wrap (y * 2 ^ s) = Y
  wh : bits BinOp.or IntKind.u64 (IntKind.u64.wrap (hi * 2 ^ s)) (lo / 2 ^ (64 - s)) = h
  wm : IntKind.u64.wrap (lo * 2 ^ s) = m
  h0 : 0 ≤ h
  h1 : h < Y
  m0 : 0 ≤ m
  m1 : m ≤ 18446744073709551615
  sum : P * (hi * 18446744073709551616 + lo) = h * 18446744073709551616 + m
theorem norm64 {hi lo y : Int} {s : Nat} (hh : 0 ≤ hi ∧ hi < y) (hy : y ≤ 18446744073709551615) (hl : 0 ≤ lo ∧ lo ≤ 18446744073709551615)
    (hlz : 64 - (Lib.bitLen y.toNat : Int) = s) : ∃ P Y h m : Int, DNorm hi lo y s P Y h m := by
  obtain ⟨hs, hy1, hy2⟩ := lz_bounds (by omega) hy hlz
  have hP : (0 : Int) < 2 ^ s := Int.pow_pos (by decide)
  have hR : (0 : Int) < 2 ^ (64 - s) := Int.pow_pos (by decide)
  have hPR : (2 : Int) ^ s * 2 ^ (64 - s) = 18446744073709551616 := by rw [← Int.pow_add, show s + (64 - s) = 64 by omega]; rfl
  have hP2 : (2 : Int) ^ s ≤ 18446744073709551616 := by
    have := mul_le_mul_nn (show (1 : Int) ≤ 2 ^ (64 - s) by omega) (show (0 : Int) ≤ 2 ^ s by omega)
    rw [Int.one_mul, Int.mul_comm, hPR] at this
    exact this
  obtain ⟨P, hPe⟩ : ∃ P : Int, (2 : Int) ^ s = P := ⟨_, rfl⟩
  obtain ⟨R, hRe⟩ : ∃ R : Int, (2 : Int) ^ (64 - s) = R := ⟨_, rfl⟩
  obtain ⟨Y, hYe⟩ : ∃ Y : Int, y * P = Y := ⟨_, rfl⟩
  obtain ⟨a, ha⟩ : ∃ a, lo / R = a := ⟨_, rfl⟩
  obtain ⟨b, hb⟩ : ∃ b, lo % R = b := ⟨_, rfl⟩
  rw [hPe] at hP hPR hy1 hy2 hP2
  rw [hRe] at hR hPR
  rw [hYe] at hy1 hy2
  have ea : R * a + b = lo := by rw [← ha, ← hb]; exact Int.mul_ediv_add_emod lo R
  have hb0 : 0 ≤ b := by rw [← hb]; exact Int.emod_nonneg _ (by omega)
  have hb1 : b < R := by rw [← hb]; exact Int.emod_lt_of_pos _ hR
  have ha0 : 0 ≤ a := by rw [← ha]; exact Int.ediv_nonneg hl.1 (by omega)
  have ha1 : a < P := by
    by_cases h : a < P
    · exact h
    · have h1 := mul_le_mul_nn (show P ≤ a by omega) (show 0 ≤ R by omega)
      rw [hPR, Int.mul_comm] at h1
      omega
  have e1 : lo * P = a * 18446744073709551616 + b * P := by
    rw [← ea, ← hPR, Int.add_mul, Int.mul_comm P R, ← Int.mul_assoc, Int.mul_comm R a]
  have e2 : b * P < 18446744073709551616 := by
    have := mul_le_mul_nn (show b + 1 ≤ R by omega) (show 0 ≤ P by omega)
    rw [Int.mul_comm R P, hPR, Int.add_mul, Int.one_mul] at this
    omega
  have e3 : 0 ≤ b * P := Int.mul_nonneg hb0 (by omega)
  have e4 : hi * P + P ≤ Y := by
    have := mul_le_mul_nn (show hi + 1 ≤ y by omega) (show 0 ≤ P by omega)
    rw [hYe, Int.add_mul, Int.one_mul] at this
    exact this
  have e5 : 0 ≤ hi * P := Int.mul_nonneg hh.1 (by omega)
  refine ⟨P, Y, hi * P + a, b * P, hPe, hP, hYe, hy1, hy2, ?_, ?_, ?_, by omega, by omega, e3, by omega, ?_⟩
  · rw [hPe, hYe, IntKind.wrap_u64]; omega
  · rw [hRe, ha, hPe, show IntKind.u64.wrap (hi * P) = hi * P by rw [IntKind.wrap_u64]; omega]
    exact bits_join .u64 64 (by decide) (fun n h h' => by rw [IntKind.wrap_u64]; omega) s (hi * P) a e5 (by rw [hPe]; exact Int.mul_emod_left _ _) (by omega) ha0 (by rw [hPe]; exact ha1) (by omega)
  · rw [hPe, IntKind.wrap_u64, e1]; omega
  · rw [Int.mul_add, Int.mul_comm P lo, e1, ← Int.mul_assoc, Int.mul_comm P hi, Int.add_mul]; omega
theorem knuthP {P n q y r Y : Int} (hP : 0 < P) (hY : y * P = Y) (e : P * n = q * Y + r) (h0 : 0 ≤ r) (h1 : r < Y) : n = q * y + r / P ∧ 0 ≤ r / P ∧ r / P < y := by
  have e2 : q * Y = P * (q * y) := by rw [← hY, Int.mul_comm P, Int.mul_assoc]
  have e3 : r = P * (n - q * y) := by rw [Int.mul_sub, ← e2]; omega
  have e4 : r / P = n - q * y := by rw [e3]; exact Int.mul_ediv_cancel_left _ (by omega)
  refine ⟨by omega, Int.ediv_nonneg h0 (by omega), ?_⟩
  by_cases h : r / P < y
  · exact h
  · have h3 := mul_le_mul_nn (show y ≤ n - q * y by omega) (show 0 ≤ P by omega)
    rw [hY, Int.mul_comm _ P, ← e3] at h3
    omega
end
section
open Go.ChangeShapes Go.WideShapes Go.ChangeAt Go.RowKit
set_option linter.unusedVariables false
set_option linter.unusedSimpArgs false
theorem tdiv_wrap {h y1 : Int} (h0 : 0 ≤ h) (h1 : h ≤ 18446744073709551615) (hy : 0 < y1) : IntKind.u64.wrap (h.tdiv y1) = h / y1 := by
  rw [Int.tdiv_eq_ediv_of_nonneg h0, IntKind.wrap_u64]
  have := Int.ediv_nonneg h0 (show 0 ≤ y1 by omega)
  have := Int.ediv_le_self y1 h0
  omega
theorem prod_bounds {q y0 : Int} (h0 : 0 ≤ q) (h1 : q < 4294967296) (a0 : 0 ≤ y0) (a1 : y0 < 4294967296) : 0 ≤ q * y0 ∧ q * y0 ≤ 18446744069414584320 := by
  refine ⟨Int.mul_nonneg h0 a0, ?_⟩
  have := mul_le_mul_nn (show q ≤ 4294967296 by omega) a0
  omega
theorem prod_wrap {q y0 p : Int} (hp : q * y0 = p) (h0 : 0 ≤ p) (h1 : p ≤ 18446744073709551615) : IntKind.u64.wrap (q * y0) = p := by
  rw [hp, IntKind.wrap_u64]; omega
set_option maxRecDepth 100000 in
set_option maxHeartbeats 8000000 in
theorem div64_gen (hi lo y : Int) (s : Nat) (hlz : 64 - (Lib.bitLen y.toNat : Int) = s) (hh : 0 < hi ∧ hi < y) (hy : y ≤ 18446744073709551615) (hl : 0 ≤ lo ∧ lo ≤ 18446744073709551615) (w : World) :
    Calls Tryz.prog 140 #[.int .u64 hi, .int .u64 lo, .int .u64 y] w (D64Q w hi lo y) := by
  have h0 : (hi == 0) = false := by simp; omega
  have h0' : ¬ hi = 0 := by omega
  have h1 : ¬ y ≤ hi := by omega
  have hy0 : (y == 0) = false := by simp; omega
  have hy0' : ¬ y = 0 := by omega
  have hs : s ≤ 63 := (lz_bounds (by omega) hy hlz).1
  obtain ⟨P, Y, h, m, hN⟩ := norm64 ⟨by omega, hh.2⟩ hy hl hlz
  have N := Lib.hid hN
  obtain ⟨n1, n2, n3, n4, n5, eY, eh, em, n6, n7, n8, n9, n10⟩ := hN
  have HLZ := Lib.hid hlz
  obtain ⟨y1, ey1⟩ : ∃ y1, Y / 4294967296 = y1 := ⟨_, rfl⟩
  obtain ⟨y0, ey0⟩ : ∃ y0, bits BinOp.and IntKind.u64 Y 4294967295 = y0 := ⟨_, rfl⟩
  obtain ⟨d1, ed1⟩ : ∃ d1, m / 4294967296 = d1 := ⟨_, rfl⟩
  obtain ⟨d0, ed0⟩ : ∃ d0, bits BinOp.and IntKind.u64 m 4294967295 = d0 := ⟨_, rfl⟩
  have f0 : Y % 4294967296 = y0 := by rw [← ey0, and_low (by omega) (by omega)]
  have g0 : m % 4294967296 = d0 := by rw [← ed0, and_low (by omega) (by omega)]
  have EY : Y = y1 * 4294967296 + y0 := by omega
  have a1 : 2147483648 ≤ y1 := by omega
  have b1 : y1 < 4294967296 := by omega
  have a0 : 0 ≤ y0 := by omega
  have b0 : y0 < 4294967296 := by omega
  have c1 : 0 ≤ d1 ∧ d1 < 4294967296 := by omega
  have c0 : 0 ≤ d0 ∧ d0 < 4294967296 := by omega
  have hz : (y1 == 0) = false := by simp; omega
  have hz' : ¬ y1 = 0 := by omega
  have HN := Lib.hid (show P * (hi * 18446744073709551616 + lo) = (h * 4294967296 + d1) * 4294967296 + d0 by omega)
  have A1 := Lib.hid (show DArg y1 y0 h d1 from ⟨a1, b1, a0, b0, n6, by omega, c1.1, c1.2⟩)
  obtain ⟨q, hq⟩ : ∃ q, h / y1 = q := ⟨_, rfl⟩
  have eq : IntKind.u64.wrap (h.tdiv y1) = q := by rw [← hq]; exact tdiv_wrap n6 (by omega) (by omega)
  obtain ⟨p, hp⟩ : ∃ p, q * y1 = p := ⟨_, rfl⟩
  have I0 := Lib.hid (show DInv y1 y0 h d1 q (h - p) by rw [← hp, ← hq]; exact DInv.start A1.out)
  have hqb : 0 ≤ q ∧ q ≤ 4294967297 := ⟨I0.out.q0, I0.out.q1⟩
  have hqr : 0 ≤ h - p ∧ h - p < 4294967296 := ⟨I0.out.r0, I0.out.r1⟩
  have hp0 : 0 ≤ p := by rw [← hp]; exact Int.mul_nonneg hqb.1 (by omega)
  have ep : IntKind.u64.wrap (q * y1) = p := prod_wrap hp hp0 (by omega)
  have HY := Lib.hid EY
  have HP := Lib.hid hp
  have hhY : h ≤ 18446744073709551615 := by omega
  clear hlz n1 n3 n10 n7 f0 g0 hq EY hp
  have H := Lib.hid (And.intro n2 n8)
  clear n2 n8 n9
  go_enter Tryz.func140, Tryz.ntmps140
  go_upto_block 0 with (go_at_call 163; refine (Tryz.bits_LeadingZeros64 y _ (by omega) hy).mono ?_; rintro e w2 ⟨rfl, hw⟩; obtain rfl := hw.symm; rw [HLZ.out])
  clear ey1 ey0 eh em ed1 ed0 eq ep eY
  go_cut [15] from 67 to 85 (fun a wx => ∃ q, a = .int .u64 q ∧ DOut (y1 * 4294967296 + y0) h d1 q ∧ q < 4294967296 ∧ w = wx)
  case first =>
    go_wp2
    go_loop [15, 16] (fun a b => ∃ q r : Int, a = .int .u64 q ∧ b = .int .u64 r ∧ DInv y1 y0 h d1 q r) (fun _ b => (4294967296 - intOf b).toNat)
    case atStart => exact ⟨q, _, rfl, rfl, I0.out⟩
    case round =>
      obtain ⟨qq, r, rfl, rfl, hI⟩ := hrel
      have HI := Lib.hid hI
      have r0 := hI.r0; have r1 := hI.r1; have q0 := hI.q0; have q1 := hI.q1
      clear hI
      by_cases c1 : 4294967296 ≤ qq
      · have HT := Lib.hid (show 4294967296 ≤ qq ∨ 4294967296 * r + d1 < qq * y0 from .inl c1)
        have hq1 : 1 ≤ qq := by omega
        by_cases c3 : 4294967296 ≤ r + y1
        · go_wp2
          go_meet
          exact ⟨_, rfl, HI.out.leave A1.out HT.out c3, (HI.out.leave A1.out HT.out c3).lt (by omega) A1.out.h1 (by omega), rfl⟩
        · go_wp2
          go_round
          case rel => exact ⟨_, _, rfl, rfl, HI.out.step A1.out HT.out (by omega)⟩
          case measure => simp [intOf]; omega
      · obtain ⟨pp, hpp⟩ : ∃ pp, qq * y0 = pp := ⟨_, rfl⟩
        have hpb : 0 ≤ pp ∧ pp ≤ 18446744069414584320 := by rw [← hpp]; exact prod_bounds q0 (by omega) a0 b0
        have epp : IntKind.u64.wrap (qq * y0) = pp := prod_wrap hpp hpb.1 (by omega)
        have HPP := Lib.hid hpp
        clear hpp
        by_cases c2 : 4294967296 * r + d1 < pp
        · have HT := Lib.hid (show 4294967296 ≤ qq ∨ 4294967296 * r + d1 < qq * y0 from .inr (by rw [HPP.out]; exact c2))
          have hq1 : 1 ≤ qq := (HI.out.next A1.out HT.out).1
          by_cases c3 : 4294967296 ≤ r + y1
          · go_wp2
            go_meet
            exact ⟨_, rfl, HI.out.leave A1.out HT.out c3, (HI.out.leave A1.out HT.out c3).lt (by omega) A1.out.h1 (by omega), rfl⟩
          · go_wp2
            go_round
            case rel => exact ⟨_, _, rfl, rfl, HI.out.step A1.out HT.out (by omega)⟩
            case measure => simp [intOf]; omega
        · go_wp2
          go_meet
          exact ⟨_, rfl, HI.out.exit A1.out (by omega) (by rw [HPP.out]; omega), by omega, rfl⟩
  case rest =>
    obtain ⟨q, rfl, hO, hql, rfl⟩ := hcut
    have hr := hO.rest
    have hq0 := hO.q0
    have HO := Lib.hid hO
    rw [← HY.out] at hr
    obtain ⟨z, hz2⟩ : ∃ z, q * Y = z := ⟨_, rfl⟩
    rw [hz2] at hr
    obtain ⟨u, hu⟩ : ∃ u, h * 4294967296 + d1 - z = u := ⟨_, rfl⟩
    have hr2 : 0 ≤ u ∧ u < Y := by rw [← hu]; exact hr
    have HU := Lib.hid hu
    have HZ := Lib.hid hz2
    have hwr : IntKind.u64.wrap (IntKind.u64.wrap (IntKind.u64.wrap (h * 4294967296) + d1) - IntKind.u64.wrap (q * Y)) = u := by
      rw [hz2]
      simp only [IntKind.wrap_u64]; omega
    have A0 := Lib.hid (show DArg y1 y0 u d0 from ⟨a1, b1, a0, b0, hr2.1, by rw [← HY.out]; exact hr2.2, c0.1, c0.2⟩)
    obtain ⟨g, hg⟩ : ∃ g, u / y1 = g := ⟨_, rfl⟩
    have eg : IntKind.u64.wrap (u.tdiv y1) = g := by rw [← hg]; exact tdiv_wrap hr2.1 (by omega) (by omega)
    obtain ⟨p2, hp2⟩ : ∃ p2, g * y1 = p2 := ⟨_, rfl⟩
    have J0 := Lib.hid (show DInv y1 y0 u d0 g (u - p2) by rw [← hp2, ← hg]; exact DInv.start A0.out)
    have hgb : 0 ≤ g ∧ g ≤ 4294967297 := ⟨J0.out.q0, J0.out.q1⟩
    have hgr : 0 ≤ u - p2 ∧ u - p2 < 4294967296 := ⟨J0.out.r0, J0.out.r1⟩
    have hp20 : 0 ≤ p2 := by rw [← hp2]; exact Int.mul_nonneg hgb.1 (by omega)
    have ep2 : IntKind.u64.wrap (g * y1) = p2 := prod_wrap hp2 hp20 (by omega)
    clear hr hu hO hz2 hg hp2
    go_upto_block 2 with (fail)
    clear hwr eg ep2
    go_cut [18] from 102 to 120 (fun a wx => ∃ g, a = .int .u64 g ∧ DOut (y1 * 4294967296 + y0) u d0 g ∧ g < 4294967296 ∧ w = wx)
    case first =>
      go_wp2
      go_loop [18, 16] (fun a b => ∃ q r : Int, a = .int .u64 q ∧ b = .int .u64 r ∧ DInv y1 y0 u d0 q r) (fun _ b => (4294967296 - intOf b).toNat)
      case atStart => exact ⟨g, _, rfl, rfl, J0.out⟩
      case round =>
        obtain ⟨qq, r, rfl, rfl, hI⟩ := hrel
        have HI := Lib.hid hI
        have r0 := hI.r0; have r1 := hI.r1; have q0 := hI.q0; have q1 := hI.q1
        clear hI
        by_cases c1 : 4294967296 ≤ qq
        · have HT := Lib.hid (show 4294967296 ≤ qq ∨ 4294967296 * r + d0 < qq * y0 from .inl c1)
          have hq1 : 1 ≤ qq := by omega
          by_cases c3 : 4294967296 ≤ r + y1
          · go_wp2
            go_meet
            exact ⟨_, rfl, HI.out.leave A0.out HT.out c3, (HI.out.leave A0.out HT.out c3).lt (by omega) A0.out.h1 (by omega), rfl⟩
          · go_wp2
            go_round
            case rel => exact ⟨_, _, rfl, rfl, HI.out.step A0.out HT.out (by omega)⟩
            case measure => simp [intOf]; omega
        · obtain ⟨pp, hpp⟩ : ∃ pp, qq * y0 = pp := ⟨_, rfl⟩
          have hpb : 0 ≤ pp ∧ pp ≤ 18446744069414584320 := by rw [← hpp]; exact prod_bounds q0 (by omega) a0 b0
          have epp : IntKind.u64.wrap (qq * y0) = pp := prod_wrap hpp hpb.1 (by omega)
          have HPP := Lib.hid hpp
          clear hpp
          by_cases c2 : 4294967296 * r + d0 < pp
          · have HT := Lib.hid (show 4294967296 ≤ qq ∨ 4294967296 * r + d0 < qq * y0 from .inr (by rw [HPP.out]; exact c2))
            have hq1 : 1 ≤ qq := (HI.out.next A0.out HT.out).1
            by_cases c3 : 4294967296 ≤ r + y1
            · go_wp2
              go_meet
              exact ⟨_, rfl, HI.out.leave A0.out HT.out c3, (HI.out.leave A0.out HT.out c3).lt (by omega) A0.out.h1 (by omega), rfl⟩
            · go_wp2
              go_round
              case rel => exact ⟨_, _, rfl, rfl, HI.out.step A0.out HT.out (by omega)⟩
              case measure => simp [intOf]; omega
          · go_wp2
            go_meet
            exact ⟨_, rfl, HI.out.exit A0.out (by omega) (by rw [HPP.out]; omega), by omega, rfl⟩
    case rest =>
      obtain ⟨g, rfl, hO2, hgl, rfl⟩ := hcut
      have hr3 := hO2.rest
      have hg0 := hO2.q0
      have HO2 := Lib.hid hO2
      rw [← HY.out] at hr3
      obtain ⟨z2, hz3⟩ : ∃ z2, g * Y = z2 := ⟨_, rfl⟩
      rw [hz3] at hr3
      obtain ⟨v, hv⟩ : ∃ v, u * 4294967296 + d0 - z2 = v := ⟨_, rfl⟩
      have hv2 : 0 ≤ v ∧ v < Y := by rw [← hv]; exact hr3
      have HV := Lib.hid hv
      have hwv : IntKind.u64.wrap (IntKind.u64.wrap (IntKind.u64.wrap (u * 4294967296) + d0) - IntKind.u64.wrap (g * Y)) = v := by
        rw [hz3]
        simp only [IntKind.wrap_u64]; omega
      have HZ3 := Lib.hid hz3
      clear hr3 hv hO2 hz3
      go_wp2
      go_ret2
      have hb := HO.out.both (d0 := d0) (q0 := g) (by rw [show h * 4294967296 + d1 - q * (y1 * 4294967296 + y0) = u by rw [← HY.out, HZ.out]; exact HU.out]; exact HO2.out)
      rw [← HN.out, ← HY.out, HZ.out, HU.out, HZ3.out, HV.out] at hb
      have hk := knuthP H.out.1 N.out.top hb hv2.1 hv2.2
      rw [N.out.pow]
      refine ⟨q * 4294967296 + g, v / P, rfl, hk.1, by omega, hk.2.1, hk.2.2, 0, rfl⟩
theorem div64_all (hi lo y : Int) (hh : 0 ≤ hi ∧ hi < y) (hy : y ≤ 18446744073709551615) (hl : 0 ≤ lo ∧ lo ≤ 18446744073709551615) (w : World) :
    Calls Tryz.prog 140 #[.int .u64 hi, .int .u64 lo, .int .u64 y] w (D64Post w hi lo y) := by
  by_cases h0 : hi = 0
  · subst h0; exact div64_small lo y hl ⟨by omega, hy⟩ w
  · have hb : Lib.bitLen y.toNat ≤ 64 := Lib.bitLen_le y.toNat 64 (by omega) (by omega)
    refine (div64_gen hi lo y (64 - Lib.bitLen y.toNat) (by omega) ⟨by omega, hh.2⟩ hy hl w).mono ?_
    rintro e w2 ⟨q, r, rfl, h1, h2, h3, h4, n, rfl⟩
    exact ⟨q, r, rfl, h1, h2, h3, h4, below_drewN (Below.refl _ _) n⟩
end
end Go.Proofs.YtpebnofjcodikaaGreatDoor
