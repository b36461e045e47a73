/- The document's rest of two floats, run. -/
import Derived.Test.YtdkbhliafilghaaGreatDoorRlRa
import Derived.Test.YtdkbhliafilghaaGreatDoorRlK
import Derived.Test.YtdkbhliafilghaaGreatDoorRlMu
import Derived.LoopTactic
namespace Go.Proofs.YtdkbhliafilghaaGreatDoor
open Go Go.ChangeShapes Go.WideShapes Go.RowKit
set_option linter.unusedVariables false
set_option linter.unusedSimpArgs false
theorem run_tofloat (r x : Nat) (h : Ieee.double.nearest false r 0 = x) (w : World) : (convert 22 30 (.int .u64 (r : Int))).run Tryz.prog w = .ok (.float .f64 x) w := by
  have h2 : Conv.intToFloat .f64 ((r : Nat) : Int) = pure (.float .f64 x) := by
    unfold Conv.intToFloat FloatKind.nearest
    rw [← h]
    have e1 : decide (((r : Nat) : Int) < 0) = false := by simp
    rw [e1, Int.natAbs_natCast]
    rfl
  simp [convert, run_underlying Tryz.underlying30, run_underlying Tryz.underlying22, h2, Result.andThen]
theorem pow_lt64 {k : Nat} (h : k ≤ 53) : (2 : Nat) ^ k ≤ 9007199254740992 := by
  have : (2 : Nat) ^ k ≤ 2 ^ 53 := Nat.pow_le_pow_right (by decide) h
  exact this
/- Loops of the rest, from where the steps are one. -/
set_option maxRecDepth 100000 in
set_option maxHeartbeats 4000000 in
theorem rest_any (a b rr : Nat) (ha : a < 18446744073709551616) (hna : nanB a = false) (hia : infB a = false) (hb : b < 18446744073709551616) (hnb : nanB b = false) (hzb : zeroB b = false) (hrs : RS a b rr) (w : World) :
    Calls Tryz.prog 25 #[.int .u64 (a : Int), .int .u64 (b : Int)] w fun e w' => e = .returned (.int .u64 ((Ieee.double.word (negB a) rr : Nat) : Int)) ∧ w = w' := by
  have e2 : fIN = 9218868437227405312 := rfl
  obtain ⟨hrI, hri, hrf⟩ := hrs
  have HIb := Lib.hid (risInf_any b hb)
  have HZa := Lib.hid (risZero_any a ha)
  have HPa := Lib.hid (rparts_any a ha)
  have HPb := Lib.hid (rparts_any b hb)
  have hsw := self_word ha
  by_cases hret : infB b = true ∨ zeroB a = true
  · have hra : Ieee.double.word (negB a) rr = a := by
      rcases hret with h | h
      · rw [hri h]; exact hsw
      · have h0 : a % fSG = 0 := by unfold zeroB at h; simpa using h
        cases hib : infB b
        · have := hrf hib
          rw [h0, mag_zero, Nat.zero_mod] at this
          have hr0 : rr = 0 := mag_inj (by rw [this, mag_zero])
          rw [hr0, ← h0]; exact hsw
        · rw [hri hib]; exact hsw
    have HRA := Lib.hid hra
    obtain ⟨ib, hib⟩ : ∃ x, infB b = x := ⟨_, rfl⟩
    obtain ⟨za, hza⟩ : ∃ x, zeroB a = x := ⟨_, rfl⟩
    rw [hib] at HIb hret
    rw [hza] at HZa hret
    have hcs : ib = true ∨ (ib = false ∧ za = true) := by cases ib <;> simp_all
    clear hri hrf hra hsw hib hza hret HPa HPb hna hia hnb hzb ha hb hrI e2
    rcases hcs with rfl | ⟨rfl, rfl⟩
    all_goals
      go_enter Tryz.func25, Tryz.ntmps25
      go_wp2_with (first
        | (go_at_call 24; (with_reducible refine (HIb.out _).mono ?_); rintro e w9 ⟨rfl, rfl⟩)
        | (go_at_call 12; (with_reducible refine (HZa.out _).mono ?_); rintro e w9 ⟨rfl, rfl⟩)
        | fail)
      go_ret
      exact ⟨by rw [HRA.out]; rfl, rfl⟩
  · have hib : infB b = false := by cases h : infB b <;> simp_all
    have hza : zeroB a = false := by cases h : zeroB a <;> simp_all
    rw [hib] at HIb
    rw [hza] at HZa
    have hm := hrf hib
    have hb0 : 0 < magV (b % fSG) := by
      unfold zeroB at hzb
      rw [decide_eq_false_iff_not] at hzb
      exact mag_pos (by omega)
    have x1 := exq_lo a
    have x2 := exq_lo b
    have y1 := man_lt a
    have y2 := man_lt b
    have hge := @rt_ge a b rr hb0 hrI hm
    have hlt := @rt_lt a b rr hb0 hrI hm
    have hrt := @rt_ret a b rr hb0 hrI hm
    have HS := Lib.hid hsw
    have HSG := Lib.hid (and_sign a ha)
    have HOR := Lib.hid (or_sign rr (negB a) (by omega))
    obtain ⟨M, hM⟩ : ∃ x, manB a = x := ⟨_, rfl⟩
    obtain ⟨N, hN⟩ : ∃ x, manB b = x := ⟨_, rfl⟩
    obtain ⟨E, hE⟩ : ∃ x, exqB a = x := ⟨_, rfl⟩
    obtain ⟨F, hF⟩ : ∃ x, exqB b = x := ⟨_, rfl⟩
    rw [hM, hE] at HPa
    rw [hN, hF] at HPb
    rw [hE] at x1
    rw [hF] at x2
    rw [hM] at y1
    rw [hN] at y2
    rw [hE, hF, hM, hN] at hge hlt hrt
    have hn0 : 0 < N := by rw [← hN]; exact man_pos hb0
    clear hri hrf hsw hib hza hret hna hia hnb hzb hb hrI e2 hm hb0 hM hN hE hF
    by_cases hc : E < F
    · obtain ⟨d, hd⟩ : ∃ d : Nat, F - E = (d : Int) := ⟨(F - E).toNat, by omega⟩
      rw [hd] at hlt hrt
      rw [Int.toNat_natCast] at hlt hrt
      by_cases hq : 53 < d ∨ M / 2 ^ d < N
      · have hra := hrt hc (by omega)
        have hra2 : Ieee.double.word (negB a) rr = a := by rw [hra]; exact HS.out
        have HRA := Lib.hid hra2
        have HW := Lib.hid (show IntKind.i64.wrap (F - E) = (d : Int) by rw [IntWalk.i64_in _ (by omega)]; exact hd)
        have hd2 : (d : Int) ≤ 2100 := by omega
        clear hra hra2 hge hlt hrt HOR HSG HS
        rcases hq with hq | hq
        · have hq2 : (53 : Int) < (d : Int) := by omega
          clear hq hd
          go_enter Tryz.func25, Tryz.ntmps25
          go_upto_region 6 with (first
            | (go_at_call 24; (with_reducible refine (HIb.out _).mono ?_); rintro e w9 ⟨rfl, rfl⟩)
            | (go_at_call 12; (with_reducible refine (HZa.out _).mono ?_); rintro e w9 ⟨rfl, rfl⟩)
            | (go_at_call 46; first | ((with_reducible refine (HPa.out _).mono ?_); rintro e w9 ⟨rfl, rfl⟩) | ((with_reducible refine (HPb.out _).mono ?_); rintro e w9 ⟨rfl, rfl⟩))
            | fail)
          have hW := HW.out
          go_wp2_with fail
          go_ret
          exact ⟨by rw [HRA.out]; rfl, rfl⟩
        · by_cases hq3 : 53 < d
          · have hq2 : (53 : Int) < (d : Int) := by omega
            clear hq hd hq3
            go_enter Tryz.func25, Tryz.ntmps25
            go_upto_region 6 with (first
              | (go_at_call 24; (with_reducible refine (HIb.out _).mono ?_); rintro e w9 ⟨rfl, rfl⟩)
              | (go_at_call 12; (with_reducible refine (HZa.out _).mono ?_); rintro e w9 ⟨rfl, rfl⟩)
              | (go_at_call 46; first | ((with_reducible refine (HPa.out _).mono ?_); rintro e w9 ⟨rfl, rfl⟩) | ((with_reducible refine (HPb.out _).mono ?_); rintro e w9 ⟨rfl, rfl⟩))
              | fail)
            have hW := HW.out
            go_wp2_with fail
            go_ret
            exact ⟨by rw [HRA.out]; rfl, rfl⟩
          · have hq2 : (d : Int) ≤ 53 := by omega
            have hp := pow_lt64 (k := d) (by omega)
            obtain ⟨Q, hQ⟩ : ∃ Q, M / 2 ^ d = Q := ⟨_, rfl⟩
            rw [hQ] at hq
            have hq4 : (Q : Int) < (N : Int) := by omega
            have hMd : (M : Int) / 2 ^ d = (Q : Int) := by rw [← hQ]; push_cast; rfl
            clear hd hq3 hq hQ
            go_enter Tryz.func25, Tryz.ntmps25
            go_upto_region 6 with (first
              | (go_at_call 24; (with_reducible refine (HIb.out _).mono ?_); rintro e w9 ⟨rfl, rfl⟩)
              | (go_at_call 12; (with_reducible refine (HZa.out _).mono ?_); rintro e w9 ⟨rfl, rfl⟩)
              | (go_at_call 46; first | ((with_reducible refine (HPa.out _).mono ?_); rintro e w9 ⟨rfl, rfl⟩) | ((with_reducible refine (HPb.out _).mono ?_); rintro e w9 ⟨rfl, rfl⟩))
              | fail)
            have hW := HW.out
            go_wp2_with fail
            go_ret
            exact ⟨by rw [HRA.out]; rfl, rfl⟩
      · have HT := Lib.hid (hlt hc (by omega))
        have HW := Lib.hid (show IntKind.i64.wrap (F - E) = (d : Int) by rw [IntWalk.i64_in _ (by omega)]; exact hd)
        have hq2 : (d : Int) ≤ 53 := by omega
        have hp := pow_lt64 (k := d) (by omega)
        obtain ⟨Q, hQ⟩ : ∃ Q, M / 2 ^ d = Q := ⟨_, rfl⟩
        rw [hQ] at hq
        have hq4 : (N : Int) ≤ (Q : Int) := by omega
        have hMd : (M : Int) / 2 ^ d = (Q : Int) := by rw [← hQ]; push_cast; rfl
        obtain ⟨N2, hN2⟩ : ∃ N2, N * 2 ^ d = N2 := ⟨_, rfl⟩
        rw [hN2] at HT
        have hNN : IntKind.u64.wrap ((N : Int) * 2 ^ d) = (N2 : Int) := by
          have h1 : (N : Int) * 2 ^ d = (N2 : Int) := by rw [← hN2]; push_cast; rfl
          have h2 := HT.out.nl
          rw [h1]; exact IntWalk.u64_in _ (by omega)
        have HNN := Lib.hid hNN
        have hN2z : 0 < N2 := HT.out.n0
        clear hge hlt hrt hd hq hQ hN2 hNN
        go_enter Tryz.func25, Tryz.ntmps25
        go_upto_region 6 with (first
          | (go_at_call 24; (with_reducible refine (HIb.out _).mono ?_); rintro e w9 ⟨rfl, rfl⟩)
          | (go_at_call 12; (with_reducible refine (HZa.out _).mono ?_); rintro e w9 ⟨rfl, rfl⟩)
          | (go_at_call 46; first | ((with_reducible refine (HPa.out _).mono ?_); rintro e w9 ⟨rfl, rfl⟩) | ((with_reducible refine (HPb.out _).mono ?_); rintro e w9 ⟨rfl, rfl⟩))
          | fail)
        have hW := HW.out
        go_upto_region 8 with fail
        have hNN := HNN.out
        go_upto_region 10 with fail
        clear hNN hW HNN HW hMd hq4
        go_wp2_with fail
        obtain ⟨D, hD⟩ : ∃ D : Nat, E - E = (D : Int) := ⟨(E - E).toNat, by have := HT.out.fe; omega⟩
        have hN1 := HT.out.n0
        have hN2 := HT.out.nl
        have hM1 := HT.out.ml
        have hE1 := HT.out.hi
        have hE2 := HT.out.lo
        have hD2 : (D : Int) ≤ 2100 := by omega
        have HEQ := Lib.hid (show magV rr = (M * 2 ^ D % N2) * 2 ^ (E + 1074).toNat by have h := HT.out.eq; rw [hD, Int.toNat_natCast] at h; exact h)
        have HRI := Lib.hid HT.out.rI
        have HDD := Lib.hid hD
        have h0m : M * 2 ^ 0 % N2 = M % N2 := by simp
        have HM0 := Lib.hid h0m
        have hNz : ¬ (N2 : Int) = 0 := by omega
        clear hD h0m HT
        go_loopw [6, 9] (fun s6 s9 wr => ∃ j r : Nat, s6 = .int .i64 (E - (j : Int)) ∧ s9 = .int .u64 (r : Int) ∧ j ≤ D ∧ r < 9007199254740992 ∧ r = M * 2 ^ j % N2 ∧ w = wr) (fun s6 s9 wr => (RowKit.intOf s6 + 1100).toNat)
        case atStart => exact ⟨0, M % N2, by simp, by simp, by omega, by have := Nat.mod_lt M hN1; omega, HM0.out.symm, rfl⟩
        case round =>
          obtain ⟨j, r, rfl, rfl, hj, hr, hrj, rfl⟩ := hrel
          have HRJ := Lib.hid hrj
          clear hrj
          by_cases hgo : j < D
          · exfalso
            have h1 := HDD.out
            omega
          · have hjD : j = D := by omega
            subst hjD
            have hE : E - (j : Int) = E := by have := HDD.out; omega
            have HEQ2 := Lib.hid (show magV rr = r * 2 ^ (E + 1074).toNat by rw [HEQ.out, HRJ.out])
            have hE3 : E ≤ 972 := by omega
            have hx0 := nearest_small r hr
            obtain ⟨x0, y1, y2, y3⟩ := hx0
            have hcv := run_tofloat r x0 y3 w
            have HX0 := Lib.hid y1
            have HX1 := Lib.hid y2
            have HR := Lib.hid hr
            have hK := eK_eq
            have hb8 := run_f64bits rr w
            have HK := Lib.hid hK
            rw [hE]
            clear HEQ HRJ HDD HM0 hgo hj hE y1 y2 y3 hK hr hc hD2 hM1
            by_cases hF : 0 < E
            · obtain ⟨K, rfl⟩ : ∃ K : Nat, E = (K : Int) := ⟨E.toNat, by omega⟩
              have HEQ3 := Lib.hid (show magV rr = r * 2 ^ (K + eK) by rw [HEQ2.out]; congr 2; have := HK.out; omega)
              clear HEQ2
              go_wp2_with fail
              go_loopw [8, 10] (fun s8 s10 wr => ∃ j x : Nat, s8 = .int .i64 ((K : Int) - (j : Int)) ∧ s10 = .float .f64 x ∧ j ≤ K ∧ x < fIN ∧ magV x = r * 2 ^ (j + eK) ∧ w = wr) (fun s8 s10 wr => (RowKit.intOf s8).toNat)
              case atStart => exact ⟨0, x0, by simp, rfl, by omega, HX0.out, by rw [HX1.out, Nat.zero_add], rfl⟩
              case round =>
                obtain ⟨j, x, rfl, rfl, hj, hx, hxm, rfl⟩ := hrel
                have HXI := Lib.hid hx
                have HXM := Lib.hid hxm
                clear hx hxm
                by_cases hgo : j < K
                · have hg1 : (0 : Int) < (K : Int) - (j : Int) := by omega
                  obtain ⟨z, z1, z2⟩ := sc_up (j := j + 1) HR.out HRI.out HEQ3.out hgo
                  have m1 := run_float_arith (P := Tryz.prog) w .mul 30 .f64 x _ z (mul_two HXI.out z1 (by rw [z2, HXM.out, show j + 1 + eK = (j + eK) + 1 by omega, Nat.pow_succ, Nat.mul_comm _ 2, Nat.mul_left_comm]))
                  have HZ1 := Lib.hid z1
                  have HZ2 := Lib.hid z2
                  clear z1 z2
                  go_wp2_with fail
                  exact ⟨⟨j + 1, z, by congr 1; omega, rfl, by omega, HZ1.out, HZ2.out, trivial⟩, by simp only [RowKit.intOf]; omega⟩
                · have hjK : j = K := by omega
                  subst hjK
                  have hxr : x = rr := mag_inj (by rw [HXM.out, HEQ3.out])
                  subst hxr
                  have hz0 : (j : Int) - (j : Int) = 0 := by omega
                  rw [hz0]
                  have hsg := HSG.out
                  have hor := HOR.out
                  rw [← hsg] at hor
                  obtain ⟨sg, hsg2⟩ : ∃ sg, bits .and .u64 (a : Int) 9223372036854775808 = sg := ⟨_, rfl⟩
                  rw [hsg2] at hor
                  clear hsg HSG HOR HS
                  go_wp2_with fail
                  go_loopw [8, 10] (fun s8 s10 wr => s8 = .int .i64 0 ∧ s10 = .float .f64 x ∧ w = wr) (fun s8 s10 wr => 0)
                  case atStart => exact ⟨rfl, rfl, rfl⟩
                  case round =>
                    obtain ⟨rfl, rfl, rfl⟩ := hrel
                    go_wp2_with fail
                    go_ret
                    exact ⟨rfl, rfl⟩
            · obtain ⟨K, hK2⟩ : ∃ K : Nat, E = -(K : Int) := ⟨(-E).toNat, by omega⟩
              subst hK2
              have hKe : K ≤ 1074 := by omega
              have HEQ3 := Lib.hid (show magV rr = r * 2 ^ (eK - K) by rw [HEQ2.out]; congr 2; have := HK.out; omega)
              clear HEQ2
              go_wp2_with fail
              go_loopw [8, 10] (fun s8 s10 wr => s8 = .int .i64 (-(K : Int)) ∧ s10 = .float .f64 x0 ∧ w = wr) (fun s8 s10 wr => 0)
              case atStart => exact ⟨rfl, rfl, rfl⟩
              case round =>
                obtain ⟨rfl, rfl, rfl⟩ := hrel
                go_wp2_with fail
                go_loopw [8, 10] (fun s8 s10 wr => ∃ j x : Nat, s8 = .int .i64 (-(K : Int) + (j : Int)) ∧ s10 = .float .f64 x ∧ j ≤ K ∧ x < fIN ∧ magV x = r * 2 ^ (eK - j) ∧ w = wr) (fun s8 s10 wr => (-(RowKit.intOf s8)).toNat)
                case atStart => exact ⟨0, x0, by simp, rfl, by omega, HX0.out, by rw [HX1.out, Nat.sub_zero], rfl⟩
                case round =>
                  obtain ⟨j, x, rfl, rfl, hj, hx, hxm, rfl⟩ := hrel
                  have HXI := Lib.hid hx
                  have HXM := Lib.hid hxm
                  clear hx hxm
                  by_cases hgo : j < K
                  · have hg1 : -(K : Int) + (j : Int) < 0 := by omega
                    obtain ⟨z, z1, z2⟩ := sc_dn (j := j + 1) HR.out (by have := HK.out; omega)
                    have m1 := run_float_arith (P := Tryz.prog) w .quo 30 .f64 x _ z (div_two HXI.out z1 (by rw [z2, HXM.out, show eK - j = (eK - (j + 1)) + 1 by have := HK.out; omega, Nat.pow_succ, Nat.mul_comm _ 2, Nat.mul_left_comm]))
                    have HZ1 := Lib.hid z1
                    have HZ2 := Lib.hid z2
                    clear z1 z2
                    go_wp2_with fail
                    exact ⟨⟨j + 1, z, by congr 1; omega, rfl, by omega, HZ1.out, HZ2.out, trivial⟩, by simp only [RowKit.intOf]; omega⟩
                  · have hjK : j = K := by omega
                    subst hjK
                    have hxr : x = rr := mag_inj (by rw [HXM.out, HEQ3.out])
                    subst hxr
                    have hz0 : -(j : Int) + (j : Int) = 0 := by omega
                    rw [hz0]
                    have hsg := HSG.out
                    have hor := HOR.out
                    rw [← hsg] at hor
                    obtain ⟨sg, hsg2⟩ : ∃ sg, bits .and .u64 (a : Int) 9223372036854775808 = sg := ⟨_, rfl⟩
                    rw [hsg2] at hor
                    clear hsg HSG HOR HS
                    go_wp2_with fail
                    go_ret
                    exact ⟨rfl, rfl⟩
    · have HT := Lib.hid (hge (by omega))
      have hc2 : ¬ E < F := hc
      clear hge hlt hrt
      go_enter Tryz.func25, Tryz.ntmps25
      go_wp2_with (first
        | (go_at_call 24; (with_reducible refine (HIb.out _).mono ?_); rintro e w9 ⟨rfl, rfl⟩)
        | (go_at_call 12; (with_reducible refine (HZa.out _).mono ?_); rintro e w9 ⟨rfl, rfl⟩)
        | (go_at_call 46; first | ((with_reducible refine (HPa.out _).mono ?_); rintro e w9 ⟨rfl, rfl⟩) | ((with_reducible refine (HPb.out _).mono ?_); rintro e w9 ⟨rfl, rfl⟩))
        | fail)
      obtain ⟨D, hD⟩ : ∃ D : Nat, E - F = (D : Int) := ⟨(E - F).toNat, by have := HT.out.fe; omega⟩
      have hN1 := HT.out.n0
      have hN := HT.out.nl
      have hM1 := HT.out.ml
      have hE1 := HT.out.hi
      have hE2 := HT.out.lo
      have hD2 : (D : Int) ≤ 2100 := by omega
      have HEQ := Lib.hid (show magV rr = (M * 2 ^ D % N) * 2 ^ (F + 1074).toNat by have h := HT.out.eq; rw [hD, Int.toNat_natCast] at h; exact h)
      have HRI := Lib.hid HT.out.rI
      have HDD := Lib.hid hD
      have h0m : M * 2 ^ 0 % N = M % N := by simp
      have HM0 := Lib.hid h0m
      have hNz : ¬ (N : Int) = 0 := by omega
      clear hD h0m HT
      go_loopw [6, 9] (fun s6 s9 wr => ∃ j r : Nat, s6 = .int .i64 (E - (j : Int)) ∧ s9 = .int .u64 (r : Int) ∧ j ≤ D ∧ r < 9007199254740992 ∧ r = M * 2 ^ j % N ∧ w = wr) (fun s6 s9 wr => (RowKit.intOf s6 + 1100).toNat)
      case atStart => exact ⟨0, M % N, by simp, by simp, by omega, by have := Nat.mod_lt M hN1; omega, HM0.out.symm, rfl⟩
      case round =>
        obtain ⟨j, r, rfl, rfl, hj, hr, hrj, rfl⟩ := hrel
        have HRJ := Lib.hid hrj
        clear hrj
        by_cases hgo : j < D
        · have hg1 : F < E - (j : Int) := by have := HDD.out; omega
          obtain ⟨r2, hr2⟩ : ∃ r2, 2 * r % N = r2 := ⟨_, rfl⟩
          have hr3 : (2 * (r : Int)) % (N : Int) = (r2 : Int) := by rw [← hr2]; push_cast; rfl
          have hr4 : r2 = M * 2 ^ (j + 1) % N := by rw [← hr2, HRJ.out, rt_dbl]
          have hr5 : r2 < 9007199254740992 := by rw [← hr2]; have := Nat.mod_lt (2 * r) hN1; omega
          have HR4 := Lib.hid hr4
          have HR5 := Lib.hid hr5
          have hj2 : (j : Int) ≤ 2100 := by omega
          clear hr2 hr4 hr5
          go_wp2_with fail
          exact ⟨⟨j + 1, r2, by congr 1; omega, by first | rfl | rw [hr3], by omega, HR5.out, HR4.out, trivial⟩, by simp only [RowKit.intOf]; omega⟩
        · have hjD : j = D := by omega
          subst hjD
          have hF : E - (j : Int) = F := by have := HDD.out; omega
          have HEQ2 := Lib.hid (show magV rr = r * 2 ^ (F + 1074).toNat by rw [HEQ.out, HRJ.out])
          have hE3 : F ≤ 972 := by omega
          have hx0 := nearest_small r hr
          obtain ⟨x0, y1, y2, y3⟩ := hx0
          have hcv := run_tofloat r x0 y3 w
          have HX0 := Lib.hid y1
          have HX1 := Lib.hid y2
          have HR := Lib.hid hr
          have hK := eK_eq
          have hb8 := run_f64bits rr w
          have HK := Lib.hid hK
          rw [hF]
          clear HEQ HRJ HDD HM0 hgo hj hF y1 y2 y3 hK hr hc hD2 hM1
          by_cases hF : 0 < F
          · obtain ⟨K, rfl⟩ : ∃ K : Nat, F = (K : Int) := ⟨F.toNat, by omega⟩
            have HEQ3 := Lib.hid (show magV rr = r * 2 ^ (K + eK) by rw [HEQ2.out]; congr 2; have := HK.out; omega)
            clear HEQ2
            go_wp2_with fail
            go_loopw [8, 10] (fun s8 s10 wr => ∃ j x : Nat, s8 = .int .i64 ((K : Int) - (j : Int)) ∧ s10 = .float .f64 x ∧ j ≤ K ∧ x < fIN ∧ magV x = r * 2 ^ (j + eK) ∧ w = wr) (fun s8 s10 wr => (RowKit.intOf s8).toNat)
            case atStart => exact ⟨0, x0, by simp, rfl, by omega, HX0.out, by rw [HX1.out, Nat.zero_add], rfl⟩
            case round =>
              obtain ⟨j, x, rfl, rfl, hj, hx, hxm, rfl⟩ := hrel
              have HXI := Lib.hid hx
              have HXM := Lib.hid hxm
              clear hx hxm
              by_cases hgo : j < K
              · have hg1 : (0 : Int) < (K : Int) - (j : Int) := by omega
                obtain ⟨z, z1, z2⟩ := sc_up (j := j + 1) HR.out HRI.out HEQ3.out hgo
                have m1 := run_float_arith (P := Tryz.prog) w .mul 30 .f64 x _ z (mul_two HXI.out z1 (by rw [z2, HXM.out, show j + 1 + eK = (j + eK) + 1 by omega, Nat.pow_succ, Nat.mul_comm _ 2, Nat.mul_left_comm]))
                have HZ1 := Lib.hid z1
                have HZ2 := Lib.hid z2
                clear z1 z2
                go_wp2_with fail
                exact ⟨⟨j + 1, z, by congr 1; omega, rfl, by omega, HZ1.out, HZ2.out, trivial⟩, by simp only [RowKit.intOf]; omega⟩
              · have hjK : j = K := by omega
                subst hjK
                have hxr : x = rr := mag_inj (by rw [HXM.out, HEQ3.out])
                subst hxr
                have hz0 : (j : Int) - (j : Int) = 0 := by omega
                rw [hz0]
                have hsg := HSG.out
                have hor := HOR.out
                rw [← hsg] at hor
                obtain ⟨sg, hsg2⟩ : ∃ sg, bits .and .u64 (a : Int) 9223372036854775808 = sg := ⟨_, rfl⟩
                rw [hsg2] at hor
                clear hsg HSG HOR HS
                go_wp2_with fail
                go_loopw [8, 10] (fun s8 s10 wr => s8 = .int .i64 0 ∧ s10 = .float .f64 x ∧ w = wr) (fun s8 s10 wr => 0)
                case atStart => exact ⟨rfl, rfl, rfl⟩
                case round =>
                  obtain ⟨rfl, rfl, rfl⟩ := hrel
                  go_wp2_with fail
                  go_ret
                  exact ⟨rfl, rfl⟩
          · obtain ⟨K, hK2⟩ : ∃ K : Nat, F = -(K : Int) := ⟨(-F).toNat, by omega⟩
            subst hK2
            have hKe : K ≤ 1074 := by omega
            have HEQ3 := Lib.hid (show magV rr = r * 2 ^ (eK - K) by rw [HEQ2.out]; congr 2; have := HK.out; omega)
            clear HEQ2
            go_wp2_with fail
            go_loopw [8, 10] (fun s8 s10 wr => s8 = .int .i64 (-(K : Int)) ∧ s10 = .float .f64 x0 ∧ w = wr) (fun s8 s10 wr => 0)
            case atStart => exact ⟨rfl, rfl, rfl⟩
            case round =>
              obtain ⟨rfl, rfl, rfl⟩ := hrel
              go_wp2_with fail
              go_loopw [8, 10] (fun s8 s10 wr => ∃ j x : Nat, s8 = .int .i64 (-(K : Int) + (j : Int)) ∧ s10 = .float .f64 x ∧ j ≤ K ∧ x < fIN ∧ magV x = r * 2 ^ (eK - j) ∧ w = wr) (fun s8 s10 wr => (-(RowKit.intOf s8)).toNat)
              case atStart => exact ⟨0, x0, by simp, rfl, by omega, HX0.out, by rw [HX1.out, Nat.sub_zero], rfl⟩
              case round =>
                obtain ⟨j, x, rfl, rfl, hj, hx, hxm, rfl⟩ := hrel
                have HXI := Lib.hid hx
                have HXM := Lib.hid hxm
                clear hx hxm
                by_cases hgo : j < K
                · have hg1 : -(K : Int) + (j : Int) < 0 := by omega
                  obtain ⟨z, z1, z2⟩ := sc_dn (j := j + 1) HR.out (by have := HK.out; omega)
                  have m1 := run_float_arith (P := Tryz.prog) w .quo 30 .f64 x _ z (div_two HXI.out z1 (by rw [z2, HXM.out, show eK - j = (eK - (j + 1)) + 1 by have := HK.out; omega, Nat.pow_succ, Nat.mul_comm _ 2, Nat.mul_left_comm]))
                  have HZ1 := Lib.hid z1
                  have HZ2 := Lib.hid z2
                  clear z1 z2
                  go_wp2_with fail
                  exact ⟨⟨j + 1, z, by congr 1; omega, rfl, by omega, HZ1.out, HZ2.out, trivial⟩, by simp only [RowKit.intOf]; omega⟩
                · have hjK : j = K := by omega
                  subst hjK
                  have hxr : x = rr := mag_inj (by rw [HXM.out, HEQ3.out])
                  subst hxr
                  have hz0 : -(j : Int) + (j : Int) = 0 := by omega
                  rw [hz0]
                  have hsg := HSG.out
                  have hor := HOR.out
                  rw [← hsg] at hor
                  obtain ⟨sg, hsg2⟩ : ∃ sg, bits .and .u64 (a : Int) 9223372036854775808 = sg := ⟨_, rfl⟩
                  rw [hsg2] at hor
                  clear hsg HSG HOR HS
                  go_wp2_with fail
                  go_ret
                  exact ⟨rfl, rfl⟩
end Go.Proofs.YtdkbhliafilghaaGreatDoor
