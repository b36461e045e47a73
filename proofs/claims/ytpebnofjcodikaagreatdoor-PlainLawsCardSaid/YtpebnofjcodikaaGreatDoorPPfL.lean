/- strconv's decimal: leftShift. -/
import Derived.Test.YtpebnofjcodikaaGreatDoorPGPfM
namespace Go.Proofs.YtpebnofjcodikaaGreatDoor
open Go Go.ChangeShapes Go.WideShapes Go.RowKit Go.PlainAid
set_option linter.unusedVariables false
set_option linter.unusedSimpArgs false
/-- The table of new digits in memory, in blocks below b. -/
structure LC (w : World) (b : Nat) : Prop where
  ex : ∃ R o c, R < b ∧ 61 ≤ c ∧ w.cell? ⟨15, 0, none⟩ = some (.slice (some ⟨R, o, none⟩) 61 c) ∧ 15 < b ∧
    ∀ k, k ≤ 60 → w.cell? ⟨R, o + k * 2, none⟩ = some (.int .i64 (dl k : Nat)) ∧ ∃ s : ByteArray, w.cell? ⟨R, o + k * 2 + 1, none⟩ = some (.string s) ∧ (1 ≤ k → s.size = k - dl k + 1 ∧ 5 ^ k < 10 ^ s.size ∧ 5 ^ k % 10 ≠ 0 ∧ ∀ i, i < s.size → bt s i = ((48 + dg (5 ^ k) s.size i : Nat) : Int))
theorem LC.keep {w w' : World} {b : Nat} (h : LC w b) (hb : Below b w w') : LC w' b := by
  obtain ⟨R, o, c, h1, h2, h3, h4, h5⟩ := h.ex
  refine ⟨R, o, c, h1, h2, (hb.cell (p := ⟨_, _, none⟩) h4).trans h3, h4, fun k hk => ?_⟩
  obtain ⟨a1, s, a2, a3⟩ := h5 k hk
  exact ⟨(hb.cell (p := ⟨_, _, none⟩) h1).trans a1, s, (hb.cell (p := ⟨_, _, none⟩) h1).trans a2, a3⟩
/-- While digits are put down: j of them. -/
structure LS (wr : World) (w : World) (b : Nat) (V n T L : Nat) (dp : Int) (ng tr : Bool) (j : Nat) : Prop where
  ex : ∃ g, DB wr b g n dp ng (tr || drp T L j) ∧ (∀ i, i + j < n → g i = 48 + dg V n i) ∧ (∀ i, L ≤ i + j → i < L → i < 800 → g i = 48 + dg T L i)
  x : Below b w wr
theorem LS.step_in {wr w : World} {b V n T L : Nat} {dp : Int} {ng tr : Bool} {j d : Nat} (h : LS wr w b V n T L dp ng tr j) (hj : j < L) (hL : n ≤ L) (h8 : L - 1 - j < 800) (hd : d = dg T L (L - 1 - j)) :
    LS (wr.setCell ⟨b, L - 1 - j, none⟩ (.int .u8 ((d + 48 : Nat) : Int))) w b V n T L dp ng tr (j + 1) := by
  obtain ⟨g, h1, h2, h3⟩ := h.ex
  have hdl := dg_lt T L (L - 1 - j)
  have hK := cK_eq
  refine ⟨⟨updG g (L - 1 - j) (d + 48), ?_, fun i hi => ?_, fun i hi hiL hi8 => ?_⟩, h.x.setCell (Nat.le_refl _) _⟩
  · rw [drp_in (by omega) hj]
    exact h1.setD h8 (by omega)
  · unfold updG
    rw [if_neg (by omega)]
    exact h2 i (by omega)
  · unfold updG
    by_cases he : i = L - 1 - j
    · rw [if_pos he, he, hd]; omega
    · rw [if_neg he]
      exact h3 i (by omega) hiL hi8
theorem LS.step_out {wr w : World} {b V n T L : Nat} {dp : Int} {ng tr : Bool} {j d : Nat} (h : LS wr w b V n T L dp ng tr j) (hj : j < L) (hL : n ≤ L) (h8 : ¬ L - 1 - j < 800) (hd : d = dg T L (L - 1 - j)) :
    (d ≠ 0 → LS (wr.setCell ⟨b, 803, none⟩ (.bool true)) w b V n T L dp ng tr (j + 1)) ∧ (d = 0 → LS wr w b V n T L dp ng tr (j + 1)) := by
  obtain ⟨g, h1, h2, h3⟩ := h.ex
  have hK := cK_eq
  have hdr := drp_out (T := T) (by omega : cK ≤ L - 1 - j) hj
  constructor
  · intro h0
    refine ⟨⟨g, ?_, fun i hi => h2 i (by omega), fun i hi hiL hi8 => h3 i (by omega) hiL hi8⟩, h.x.setCell (Nat.le_refl _) _⟩
    rw [hdr, show decide (dg T L (L - 1 - j) ≠ 0) = true by rw [← hd]; simpa using h0]
    simp only [Bool.or_true]
    exact h1.setT true
  · intro h0
    refine ⟨⟨g, ?_, fun i hi => h2 i (by omega), fun i hi hiL hi8 => h3 i (by omega) hiL hi8⟩, h.x⟩
    rw [hdr, show decide (dg T L (L - 1 - j) ≠ 0) = false by rw [← hd, h0]; rfl, Bool.or_false]
    exact h1
set_option maxRecDepth 100000 in
set_option maxHeartbeats 8000000 in
theorem left_any (b k : Nat) (s : DS) (ng : Bool) (w : World) (hN : Nrm s) (h1 : 1 ≤ k) (h2 : k ≤ 60) (hdp : -100000 ≤ s.dp ∧ s.dp ≤ 100000) (hM : DM w b s ng) (hC : LC w b) :
    Calls Tryz.prog 216 #[.pointer (some ⟨b, 0, none⟩), .int .u64 (k : Int)] w fun e w' => e = .returned (.tuple #[]) ∧ DM w' b (lsh k s) ng ∧ Below b w w' := by
  obtain ⟨V, n, dp, tr⟩ := s
  obtain ⟨g, hD, hg⟩ := hM.ex
  obtain ⟨R, o, c, r1, r2, r3, r4, r5⟩ := hC.ex
  obtain ⟨a1, st, a2, a3⟩ := r5 k h2
  obtain ⟨s1, s2, s3, s4⟩ := a3 h1
  obtain ⟨d1, d2, d3, d4, d5⟩ := dl_pow k h1 h2
  have hnu := nu_digits hN.n1 hN.hi hN.lo h1 h2
  simp only at *
  obtain ⟨D, hD0⟩ : ∃ D, dl k = D := ⟨_, rfl⟩
  have HD := Lib.hid hD
  have HG := Lib.hid hg
  have HPR := Lib.hid (fun W (hW : DB W b g n dp ng tr) => prefix_any b V n (5 ^ k) st.size st g dp ng tr W hN.n8 hW hg hN.hi s2 s3 rfl (by rw [s1]; omega) s4)
  have hnuE : nu V n k = if decide (V * 10 ^ st.size < 5 ^ k * 10 ^ n) = true then D - 1 else D := by
    unfold nu; rw [s1, hD0]; simp only [decide_eq_true_eq]
  obtain ⟨lt, hlt⟩ : ∃ lt, decide (V * 10 ^ st.size < 5 ^ k * 10 ^ n) = lt := ⟨_, rfl⟩
  rw [hlt] at HPR hnuE
  obtain ⟨u, hu⟩ : ∃ u, nu V n k = u := ⟨_, rfl⟩
  rw [hu] at hnu hnuE
  have c1 := hD.cn
  have HN := Lib.hid hN
  rw [hD0] at a1 d1 d3
  have hnI : (n : Int) ≤ 800 := by have := hN.n8; simp only at this; omega
  have hkI : (k : Int) ≤ 60 := by omega
  have hDI : (D : Int) ≤ 19 := by omega
  have hDI1 : (1 : Int) ≤ (D : Int) := by omega
  obtain ⟨L, hL⟩ : ∃ L, n + u = L := ⟨_, rfl⟩
  have hu19 : u ≤ 19 := by rw [hnuE]; split <;> omega
  have HLw := Lib.hid (show IntKind.i64.wrap ((n : Int) + (u : Int)) = (L : Int) by rw [IntWalk.i64_in _ (by omega)]; omega)
  have HUD := Lib.hid (show IntKind.i64.wrap ((D : Int) - 1) = ((D - 1 : Nat) : Int) by rw [IntWalk.i64_in _ (by omega)]; omega)
  obtain ⟨T, hT⟩ : ∃ T, V * 2 ^ k = T := ⟨_, rfl⟩
  rw [hL, hT] at hnu
  have HE := Lib.hid (show lsh k ⟨V, n, dp, tr⟩ = trimS ⟨cutV T L, cutN L, dp + (u : Nat), tr || decide (lw T (L - cK) ≠ 0)⟩ by unfold lsh; simp only [hu, hL, hT])
  obtain ⟨S, hSS⟩ : ∃ S, lsh k ⟨V, n, dp, tr⟩ = S := ⟨_, rfl⟩
  rw [hSS] at HE ⊢
  have HT := Lib.hid hT
  have HLL := Lib.hid hL
  have HNU := Lib.hid hnu
  have hLI : (L : Int) ≤ 819 := by omega
  have HDP := Lib.hid (show IntKind.i64.wrap (dp + (u : Int)) = dp + (u : Int) from IntWalk.i64_in _ (by omega))
  clear hD hg hC hM r5 a3 s2 s3 s4 hlt hN d2 d4 d5 hSS hT hnu hu s1 hD0 d1 d3
  have HUE := Lib.hid hnuE
  clear hnuE
  go_enter Tryz.func216, Tryz.ntmps216
  go_wp2_with fail
  go_quiet ((go_at_call 239; exact Calls.quiet_of (HPR.out _ (HD.out.drew _))))
  obtain ⟨W0, hW0⟩ : ∃ W0, w.drewN nq = W0 := ⟨_, rfl⟩
  have HD0 := Lib.hid (show DB W0 b g n dp ng tr by rw [← hW0]; exact HD.out.drew nq)
  have HX0 := Lib.hid (show Below b w W0 by rw [← hW0]; exact below_drewN (Below.refl _ _) _)
  rw [hW0]
  have cw1 := HD0.out.cn
  have HS0 : LS W0 w b V n T L dp ng tr 0 := ⟨⟨g, by rw [drp_zero, Bool.or_false]; exact HD0.out, fun i hi => HG.out i (by omega), fun i hi hi2 _ => absurd hi2 (by omega)⟩, HX0.out⟩
  have HS := Lib.hid HS0
  clear HS0 hW0 HX0 HPR a1 a2 c1 r1 r2 r3 r4 HD HG
  have hway : ∃ u2 : Nat, u2 = u ∧ ((lt = true ∧ D - 1 = u2) ∨ (lt = false ∧ D = u2)) := ⟨u, rfl, by
    have h := HUE.out
    cases lt
    · exact .inr ⟨rfl, by rw [h]; simp⟩
    · exact .inl ⟨rfl, by rw [h]; simp⟩⟩
  obtain ⟨u2, rfl, hway⟩ := hway
  rcases hway with ⟨rfl, h1⟩ | ⟨rfl, h1⟩
  · have HU1 := Lib.hid h1
    have hUD := HUD.out
    rw [h1] at hUD
    clear h1
    go_upto_region 4 with fail
    have hLw := HLw.out
    go_upto_region 5 with fail
    clear hUD hLw
    go_wp2_with (fail)
    go_loopw [5, 6, 7, 8, 9] (fun s5 s6 s7 s8 s9 wr => ∃ j : Nat, s5 = .int .i64 ((n : Int) - 1 - (j : Int)) ∧ s6 = .int .i64 ((L : Int) - (j : Int)) ∧ s7 = .int .u64 ((cy V k j : Nat) : Int) ∧ j ≤ n ∧ LS wr w b V n T L dp ng tr j) (fun s5 s6 s7 s8 s9 wr => (RowKit.intOf s5 + 1).toNat)
    case atStart => exact ⟨0, by simp, by simp, by rw [cy_zero]; rfl, by omega, HS.out⟩
    case round =>
      obtain ⟨j, rfl, rfl, rfl, hj, hS2⟩ := hrel
      have HS2 := Lib.hid hS2
      clear hS2
      by_cases hgo : j < n
      · have hjL : j < L := by have := HLL.out; omega
        have hLn : n ≤ L := by have := HLL.out; omega
        obtain ⟨rho, hrho⟩ : ∃ rho, n - 1 - j = rho := ⟨_, rfl⟩
        have hr5 : (n : Int) - 1 - (j : Int) = (rho : Int) := by omega
        have hrI : (rho : Int) < 800 := by omega
        obtain ⟨g2, k1, k2, k3⟩ := HS2.out.ex
        have c5 := k1.c rho (by omega)
        have hg5 := k2 rho (by omega)
        have hd10 := dg_lt V n rho
        have hst := cy_step (V := V) (n := n) (k := k) hgo
        have hdg := cy_dig (V := V) (n := n) (k := k) (L := L) hgo hjL
        have hcl := cy_lt V k j
        rw [hrho] at hst hdg
        have hp60 : (2 : Nat) ^ k ≤ 1152921504606846976 := by
          have : (2 : Nat) ^ k ≤ 2 ^ 60 := Nat.pow_le_pow_right (by decide) (by omega)
          exact this
        obtain ⟨d, hd⟩ : ∃ d, dg V n rho = d := ⟨_, rfl⟩
        rw [hd] at hg5 hd10 hst hdg
        have hx : IntKind.u64.wrap (((g2 rho : Nat) : Int) - 48) = (d : Int) := by rw [hg5, IntWalk.u64_in _ (by omega)]; omega
        have hx8 : ((g2 rho : Nat) : Int) ≤ 57 := by omega
        obtain ⟨x, hxx⟩ : ∃ x, g2 rho = x := ⟨_, rfl⟩
        rw [hxx] at c5 hx hx8
        obtain ⟨p, hp⟩ : ∃ p, d * 2 ^ k = p := ⟨_, rfl⟩
        have hpl : p ≤ 10376293541461622784 := by
          rw [← hp]
          have h1 : d * 2 ^ k ≤ 9 * 2 ^ k := Nat.mul_le_mul_right _ (by omega)
          omega
        have hpw : IntKind.u64.wrap ((d : Int) * 2 ^ k) = (p : Int) := by
          have h1 : (d : Int) * 2 ^ k = (p : Int) := by rw [← hp]; push_cast; rfl
          rw [h1]; exact IntWalk.u64_in _ (by omega)
        rw [hp] at hst hdg
        obtain ⟨cc0, hcc⟩ : ∃ c0, cy V k j = c0 := ⟨_, rfl⟩
        rw [hcc] at hst hdg hcl ⊢
        obtain ⟨m, hm⟩ : ∃ m, cc0 + p = m := ⟨_, rfl⟩
        rw [hm] at hst hdg
        have hmw : IntKind.u64.wrap ((cc0 : Int) + (p : Int)) = (m : Int) := by rw [IntWalk.u64_in _ (by omega)]; omega
        have hml : (m : Int) < 18446744073709551616 := by omega
        have hT2 := HT.out
        rw [hT2] at hdg
        obtain ⟨q1, hq1⟩ : ∃ q1, cy V k (j + 1) = q1 := ⟨_, rfl⟩
        rw [hq1] at hst
        obtain ⟨r1, hr1⟩ : ∃ r1, m % 10 = r1 := ⟨_, rfl⟩
        have hqw : (m : Int) / 10 = (q1 : Int) := by omega
        have hrw : (m : Int) - 10 * (q1 : Int) = (r1 : Int) := by omega
        have hql : (q1 : Int) ≤ 1844674407370955161 := by omega
        have HRD := Lib.hid (show r1 = dg T L (L - 1 - j) by rw [← hr1]; exact hdg)
        have HQ := Lib.hid hq1
        have HX := Lib.hid hx
        have HPW := Lib.hid hpw
        have HMW := Lib.hid hmw
        have hccI : (cc0 : Int) < 18446744073709551616 := by omega
        rw [hr5]
        have hrho1 : IntKind.i64.wrap ((rho : Int) - 1) = (rho : Int) - 1 := IntWalk.i64_in _ (by omega)
        have HRH := Lib.hid (show (rho : Int) - 1 = (n : Int) - 1 - ((j + 1 : Nat) : Int) by omega)
        clear k1 k2 k3 hg5 hd10 hst hdg hcl hp60 hd hxx hp hpl hcc hm hT2 hq1 hr1 hr5 hrho hx hpw hmw
        go_upto_region 9 with fail
        have hx := HX.out
        have hpw := HPW.out
        have hmw := HMW.out
        go_upto_region 10 with fail
        clear hx hpw hmw HX HPW HMW c5
        go_upto_region 12 with fail
        clear hml hccI hql hqw hrw
        have hwc : IntKind.i64.wrap ((L : Int) - (j : Int) - 1) = ((L - 1 - j : Nat) : Int) := by rw [IntWalk.i64_in _ (by omega)]; omega
        obtain ⟨om, hom⟩ : ∃ om, L - 1 - j = om := ⟨_, rfl⟩
        rw [hom] at hwc
        have HOM := Lib.hid (show (L : Int) - ((j + 1 : Nat) : Int) = (om : Int) by omega)
        have hrdg : r1 = dg T L om := by rw [← hom]; exact HRD.out
        have hr9 : (r1 : Int) ≤ 9 := by have := dg_lt T L om; omega
        by_cases h8 : om < 800
        · have h8I : (om : Int) < 800 := by omega
          obtain ⟨g2, k1, k2, k3⟩ := HS2.out.ex
          have cc := k1.c om (by omega)
          have cf := k1.f om (by omega)
          have HN2 := Lib.hid (HS2.out.step_in (d := r1) hjL hLn (by omega) (by rw [hom]; exact hrdg))
          rw [hom] at HN2
          rw [show ((r1 + 48 : Nat) : Int) = (r1 : Int) + 48 by omega] at HN2
          clear k1 k2 k3 hrdg hom
          go_wp2_with fail
          exact ⟨⟨j + 1, by rw [HRH.out], by rw [HOM.out], by rw [HQ.out], by omega, HN2.out⟩, by simp only [RowKit.intOf]; omega⟩
        · have h8I : ¬ (om : Int) < 800 := by omega
          obtain ⟨g2, k1, k2, k3⟩ := HS2.out.ex
          have ct := k1.ct
          have cf := k1.f 803 (by omega)
          have HN2 := Lib.hid (HS2.out.step_out (d := r1) hjL hLn (by omega) (by rw [hom]; exact hrdg))
          clear k1 k2 k3 hrdg hom
          by_cases hr0 : r1 = 0
          · have hr0I : (r1 : Int) = 0 := by omega
            have HN3 := Lib.hid (HN2.out.2 hr0)
            subst hr0
            clear HN2
            go_wp2_with fail
            exact ⟨⟨j + 1, by rw [HRH.out], by rw [HOM.out], by rw [HQ.out], by omega, HN3.out⟩, by simp only [RowKit.intOf]; omega⟩
          · have hr0I : ¬ (r1 : Int) = 0 := by omega
            have HN3 := Lib.hid (HN2.out.1 hr0)
            clear HN2 hr0
            go_wp2_with fail
            exact ⟨⟨j + 1, by rw [HRH.out], by rw [HOM.out], by rw [HQ.out], by omega, HN3.out⟩, by simp only [RowKit.intOf]; omega⟩
      · have hjn : j = n := by omega
        subst hjn
        have hj1 : (j : Int) - 1 - (j : Int) = -1 := by omega
        have hcy : cy V k j = T / 10 ^ j := by rw [cy_top HN.out.hi, HT.out]
        have hcl := cy_lt V k j
        rw [hcy] at hcl
        have hp60 : (2 : Nat) ^ k ≤ 1152921504606846976 := by
          have : (2 : Nat) ^ k ≤ 2 ^ 60 := Nat.pow_le_pow_right (by decide) (by omega)
          exact this
        have HCL := Lib.hid (show ∀ i, j ≤ i → T / 10 ^ i ≤ 1152921504606846976 by
          intro i hi
          have h1 : T / 10 ^ i ≤ T / 10 ^ j := Nat.div_le_div_left (Nat.pow_le_pow_right (by decide) hi) (Nat.pow_pos (by decide))
          omega)
        rw [hj1, hcy]
        clear hcl hp60 hcy hj1 hgo hj
        go_wp2_with fail
        go_loopw [6, 7, 10, 11] (fun s6 s7 s10 s11 wr => ∃ i : Nat, s6 = .int .i64 ((L : Int) - (i : Int)) ∧ s7 = .int .u64 ((T / 10 ^ i : Nat) : Int) ∧ j ≤ i ∧ i ≤ L ∧ LS wr w b V j T L dp ng tr i) (fun s6 s7 s10 s11 wr => (RowKit.intOf s6).toNat)
        case atStart => exact ⟨j, rfl, rfl, by omega, by have := HLL.out; omega, HS2.out⟩
        case round =>
          clear HS2
          obtain ⟨i, rfl, rfl, hji, hiL, hS2⟩ := hrel
          have HS2 := Lib.hid hS2
          clear hS2
          have hil := HCL.out i hji
          by_cases h0 : 0 < T / 10 ^ i
          · have hjL : i < L := top_pos HNU.out.1 h0
            have hLn : j ≤ L := by have := HLL.out; omega
            have hst := top_step T i
            have hdg := top_dig (T := T) hjL
            obtain ⟨m, hm⟩ : ∃ m, T / 10 ^ i = m := ⟨_, rfl⟩
            obtain ⟨q1, hq1⟩ : ∃ q1, T / 10 ^ (i + 1) = q1 := ⟨_, rfl⟩
            rw [hm] at hst hdg h0 hil ⊢
            rw [hq1] at hst
            obtain ⟨r1, hr1⟩ : ∃ r1, m % 10 = r1 := ⟨_, rfl⟩
            have hqw : (m : Int) / 10 = (q1 : Int) := by omega
            have hrw : (m : Int) - 10 * (q1 : Int) = (r1 : Int) := by omega
            have hml : (m : Int) ≤ 1152921504606846976 := by omega
            have hql : (q1 : Int) ≤ 115292150460684697 := by omega
            have hm0 : (0 : Int) < (m : Int) := by omega
            have HRD := Lib.hid (show r1 = dg T L (L - 1 - i) by rw [← hr1]; exact hdg)
            have HQ := Lib.hid hq1
            clear hst hdg hm hq1 hr1 hil h0
            go_upto_region 21 with fail
            clear hml hql hqw hrw hm0
            have hwc : IntKind.i64.wrap ((L : Int) - (i : Int) - 1) = ((L - 1 - i : Nat) : Int) := by rw [IntWalk.i64_in _ (by omega)]; omega
            obtain ⟨om, hom⟩ : ∃ om, L - 1 - i = om := ⟨_, rfl⟩
            rw [hom] at hwc
            have HOM := Lib.hid (show (L : Int) - ((i + 1 : Nat) : Int) = (om : Int) by omega)
            have hrdg : r1 = dg T L om := by rw [← hom]; exact HRD.out
            have hr9 : (r1 : Int) ≤ 9 := by have := dg_lt T L om; omega
            by_cases h8 : om < 800
            · have h8I : (om : Int) < 800 := by omega
              obtain ⟨g2, k1, k2, k3⟩ := HS2.out.ex
              have cc := k1.c om (by omega)
              have cf := k1.f om (by omega)
              have HN2 := Lib.hid (HS2.out.step_in (d := r1) hjL hLn (by omega) (by rw [hom]; exact hrdg))
              rw [hom] at HN2
              rw [show ((r1 + 48 : Nat) : Int) = (r1 : Int) + 48 by omega] at HN2
              clear k1 k2 k3 hrdg hom
              go_wp2_with fail
              exact ⟨⟨i + 1, by rw [HOM.out], by rw [HQ.out], by omega, by omega, HN2.out⟩, by simp only [RowKit.intOf]; have := HOM.out; omega⟩
            · have h8I : ¬ (om : Int) < 800 := by omega
              obtain ⟨g2, k1, k2, k3⟩ := HS2.out.ex
              have ct := k1.ct
              have cf := k1.f 803 (by omega)
              have HN2 := Lib.hid (HS2.out.step_out (d := r1) hjL hLn (by omega) (by rw [hom]; exact hrdg))
              clear k1 k2 k3 hrdg hom
              by_cases hr0 : r1 = 0
              · have hr0I : (r1 : Int) = 0 := by omega
                have HN3 := Lib.hid (HN2.out.2 hr0)
                subst hr0
                clear HN2
                go_wp2_with fail
                exact ⟨⟨i + 1, by rw [HOM.out], by rw [HQ.out], by omega, by omega, HN3.out⟩, by simp only [RowKit.intOf]; have := HOM.out; omega⟩
              · have hr0I : ¬ (r1 : Int) = 0 := by omega
                have HN3 := Lib.hid (HN2.out.1 hr0)
                clear HN2 hr0
                go_wp2_with fail
                exact ⟨⟨i + 1, by rw [HOM.out], by rw [HQ.out], by omega, by omega, HN3.out⟩, by simp only [RowKit.intOf]; have := HOM.out; omega⟩
          · have hz : T / 10 ^ i = 0 := Nat.eq_zero_of_not_pos h0
            have hiE : i = L := top_zero HNU.out.2 (by have h1 : 1 ≤ j := HN.out.n1; have := HLL.out; omega) hiL hz
            subst hiE
            obtain ⟨g3, k1, k2, k3⟩ := HS2.out.ex
            rw [drp_all (Nat.sub_le _ _)] at k1
            rw [hz]
            have HK := Lib.hid k1
            have c800 := k1.cn
            have c801 := k1.cd
            have f800 := k1.f 800 (by omega)
            have f801 := k1.f 801 (by omega)
            have hG3 : Dgs g3 (cutV T i) (cutN i) := fun x hx => by
              rw [cut_dg hx]
              have h1 : x < i := by unfold cutN at hx; omega
              have h2 : x < 800 := by have := cutN_le i; omega
              exact k3 x (by omega) h1 h2
            have HG3 := Lib.hid hG3
            have HX2 := Lib.hid HS2.out.x
            have hLw := HLw.out
            have hdpw := HDP.out
            clear k1 k2 k3 hG3 hz h0 hil HCL
            by_cases h8 : 800 ≤ i
            · have h8I : (800 : Int) ≤ (i : Int) := by omega
              have hcN : cutN i = 800 := by unfold cutN; have := cK_eq; omega
              have HTR := Lib.hid (fun W (hW : DB W b g3 800 (dp + (u2 : Int)) ng (tr || decide (lw T (i - cK) ≠ 0))) => trim_any b (cutV T i) (cutN i) (dp + (u2 : Int)) ng (tr || decide (lw T (i - cK) ≠ 0)) g3 W (cutN_le i) (by rw [hcN]; exact hW) HG3.out)
              have HD5 := Lib.hid (((HK.out.setN i).setN 800).setP (dp + (u2 : Int)))
              clear hcN
              go_wp2_with fail
              refine (HTR.out _ HD5.out).mono ?_
              rintro e w9 ⟨rfl, hDM, hb9⟩
              go_wp2_with fail
              refine ⟨rfl, .tuple #[], by simp [results, Tryz.results216, go_sem], rfl, ?_, ?_⟩
              · rw [HE.out]; exact hDM
              · exact (((HX2.out.setCell (Nat.le_refl _) _).setCell (Nat.le_refl _) _).setCell (Nat.le_refl _) _).trans hb9
            · have h8I : ¬ (800 : Int) ≤ (i : Int) := by omega
              have hcN : cutN i = i := by unfold cutN; have := cK_eq; omega
              have HTR := Lib.hid (fun W (hW : DB W b g3 i (dp + (u2 : Int)) ng (tr || decide (lw T (i - cK) ≠ 0))) => trim_any b (cutV T i) (cutN i) (dp + (u2 : Int)) ng (tr || decide (lw T (i - cK) ≠ 0)) g3 W (cutN_le i) (by rw [hcN]; exact hW) HG3.out)
              have HD5 := Lib.hid ((HK.out.setN i).setP (dp + (u2 : Int)))
              clear hcN
              go_wp2_with fail
              refine (HTR.out _ HD5.out).mono ?_
              rintro e w9 ⟨rfl, hDM, hb9⟩
              go_wp2_with fail
              refine ⟨rfl, .tuple #[], by simp [results, Tryz.results216, go_sem], rfl, ?_, ?_⟩
              · rw [HE.out]; exact hDM
              · exact ((HX2.out.setCell (Nat.le_refl _) _).setCell (Nat.le_refl _) _).trans hb9
  · subst h1
    go_upto_region 4 with fail
    have hLw := HLw.out
    go_upto_region 5 with fail
    clear hLw
    go_wp2_with (fail)
    go_loopw [5, 6, 7, 8, 9] (fun s5 s6 s7 s8 s9 wr => ∃ j : Nat, s5 = .int .i64 ((n : Int) - 1 - (j : Int)) ∧ s6 = .int .i64 ((L : Int) - (j : Int)) ∧ s7 = .int .u64 ((cy V k j : Nat) : Int) ∧ j ≤ n ∧ LS wr w b V n T L dp ng tr j) (fun s5 s6 s7 s8 s9 wr => (RowKit.intOf s5 + 1).toNat)
    case atStart => exact ⟨0, by simp, by simp, by rw [cy_zero]; rfl, by omega, HS.out⟩
    case round =>
      obtain ⟨j, rfl, rfl, rfl, hj, hS2⟩ := hrel
      have HS2 := Lib.hid hS2
      clear hS2
      by_cases hgo : j < n
      · have hjL : j < L := by have := HLL.out; omega
        have hLn : n ≤ L := by have := HLL.out; omega
        obtain ⟨rho, hrho⟩ : ∃ rho, n - 1 - j = rho := ⟨_, rfl⟩
        have hr5 : (n : Int) - 1 - (j : Int) = (rho : Int) := by omega
        have hrI : (rho : Int) < 800 := by omega
        obtain ⟨g2, k1, k2, k3⟩ := HS2.out.ex
        have c5 := k1.c rho (by omega)
        have hg5 := k2 rho (by omega)
        have hd10 := dg_lt V n rho
        have hst := cy_step (V := V) (n := n) (k := k) hgo
        have hdg := cy_dig (V := V) (n := n) (k := k) (L := L) hgo hjL
        have hcl := cy_lt V k j
        rw [hrho] at hst hdg
        have hp60 : (2 : Nat) ^ k ≤ 1152921504606846976 := by
          have : (2 : Nat) ^ k ≤ 2 ^ 60 := Nat.pow_le_pow_right (by decide) (by omega)
          exact this
        obtain ⟨d, hd⟩ : ∃ d, dg V n rho = d := ⟨_, rfl⟩
        rw [hd] at hg5 hd10 hst hdg
        have hx : IntKind.u64.wrap (((g2 rho : Nat) : Int) - 48) = (d : Int) := by rw [hg5, IntWalk.u64_in _ (by omega)]; omega
        have hx8 : ((g2 rho : Nat) : Int) ≤ 57 := by omega
        obtain ⟨x, hxx⟩ : ∃ x, g2 rho = x := ⟨_, rfl⟩
        rw [hxx] at c5 hx hx8
        obtain ⟨p, hp⟩ : ∃ p, d * 2 ^ k = p := ⟨_, rfl⟩
        have hpl : p ≤ 10376293541461622784 := by
          rw [← hp]
          have h1 : d * 2 ^ k ≤ 9 * 2 ^ k := Nat.mul_le_mul_right _ (by omega)
          omega
        have hpw : IntKind.u64.wrap ((d : Int) * 2 ^ k) = (p : Int) := by
          have h1 : (d : Int) * 2 ^ k = (p : Int) := by rw [← hp]; push_cast; rfl
          rw [h1]; exact IntWalk.u64_in _ (by omega)
        rw [hp] at hst hdg
        obtain ⟨cc0, hcc⟩ : ∃ c0, cy V k j = c0 := ⟨_, rfl⟩
        rw [hcc] at hst hdg hcl ⊢
        obtain ⟨m, hm⟩ : ∃ m, cc0 + p = m := ⟨_, rfl⟩
        rw [hm] at hst hdg
        have hmw : IntKind.u64.wrap ((cc0 : Int) + (p : Int)) = (m : Int) := by rw [IntWalk.u64_in _ (by omega)]; omega
        have hml : (m : Int) < 18446744073709551616 := by omega
        have hT2 := HT.out
        rw [hT2] at hdg
        obtain ⟨q1, hq1⟩ : ∃ q1, cy V k (j + 1) = q1 := ⟨_, rfl⟩
        rw [hq1] at hst
        obtain ⟨r1, hr1⟩ : ∃ r1, m % 10 = r1 := ⟨_, rfl⟩
        have hqw : (m : Int) / 10 = (q1 : Int) := by omega
        have hrw : (m : Int) - 10 * (q1 : Int) = (r1 : Int) := by omega
        have hql : (q1 : Int) ≤ 1844674407370955161 := by omega
        have HRD := Lib.hid (show r1 = dg T L (L - 1 - j) by rw [← hr1]; exact hdg)
        have HQ := Lib.hid hq1
        have HX := Lib.hid hx
        have HPW := Lib.hid hpw
        have HMW := Lib.hid hmw
        have hccI : (cc0 : Int) < 18446744073709551616 := by omega
        rw [hr5]
        have hrho1 : IntKind.i64.wrap ((rho : Int) - 1) = (rho : Int) - 1 := IntWalk.i64_in _ (by omega)
        have HRH := Lib.hid (show (rho : Int) - 1 = (n : Int) - 1 - ((j + 1 : Nat) : Int) by omega)
        clear k1 k2 k3 hg5 hd10 hst hdg hcl hp60 hd hxx hp hpl hcc hm hT2 hq1 hr1 hr5 hrho hx hpw hmw
        go_upto_region 9 with fail
        have hx := HX.out
        have hpw := HPW.out
        have hmw := HMW.out
        go_upto_region 10 with fail
        clear hx hpw hmw HX HPW HMW c5
        go_upto_region 12 with fail
        clear hml hccI hql hqw hrw
        have hwc : IntKind.i64.wrap ((L : Int) - (j : Int) - 1) = ((L - 1 - j : Nat) : Int) := by rw [IntWalk.i64_in _ (by omega)]; omega
        obtain ⟨om, hom⟩ : ∃ om, L - 1 - j = om := ⟨_, rfl⟩
        rw [hom] at hwc
        have HOM := Lib.hid (show (L : Int) - ((j + 1 : Nat) : Int) = (om : Int) by omega)
        have hrdg : r1 = dg T L om := by rw [← hom]; exact HRD.out
        have hr9 : (r1 : Int) ≤ 9 := by have := dg_lt T L om; omega
        by_cases h8 : om < 800
        · have h8I : (om : Int) < 800 := by omega
          obtain ⟨g2, k1, k2, k3⟩ := HS2.out.ex
          have cc := k1.c om (by omega)
          have cf := k1.f om (by omega)
          have HN2 := Lib.hid (HS2.out.step_in (d := r1) hjL hLn (by omega) (by rw [hom]; exact hrdg))
          rw [hom] at HN2
          rw [show ((r1 + 48 : Nat) : Int) = (r1 : Int) + 48 by omega] at HN2
          clear k1 k2 k3 hrdg hom
          go_wp2_with fail
          exact ⟨⟨j + 1, by rw [HRH.out], by rw [HOM.out], by rw [HQ.out], by omega, HN2.out⟩, by simp only [RowKit.intOf]; omega⟩
        · have h8I : ¬ (om : Int) < 800 := by omega
          obtain ⟨g2, k1, k2, k3⟩ := HS2.out.ex
          have ct := k1.ct
          have cf := k1.f 803 (by omega)
          have HN2 := Lib.hid (HS2.out.step_out (d := r1) hjL hLn (by omega) (by rw [hom]; exact hrdg))
          clear k1 k2 k3 hrdg hom
          by_cases hr0 : r1 = 0
          · have hr0I : (r1 : Int) = 0 := by omega
            have HN3 := Lib.hid (HN2.out.2 hr0)
            subst hr0
            clear HN2
            go_wp2_with fail
            exact ⟨⟨j + 1, by rw [HRH.out], by rw [HOM.out], by rw [HQ.out], by omega, HN3.out⟩, by simp only [RowKit.intOf]; omega⟩
          · have hr0I : ¬ (r1 : Int) = 0 := by omega
            have HN3 := Lib.hid (HN2.out.1 hr0)
            clear HN2 hr0
            go_wp2_with fail
            exact ⟨⟨j + 1, by rw [HRH.out], by rw [HOM.out], by rw [HQ.out], by omega, HN3.out⟩, by simp only [RowKit.intOf]; omega⟩
      · have hjn : j = n := by omega
        subst hjn
        have hj1 : (j : Int) - 1 - (j : Int) = -1 := by omega
        have hcy : cy V k j = T / 10 ^ j := by rw [cy_top HN.out.hi, HT.out]
        have hcl := cy_lt V k j
        rw [hcy] at hcl
        have hp60 : (2 : Nat) ^ k ≤ 1152921504606846976 := by
          have : (2 : Nat) ^ k ≤ 2 ^ 60 := Nat.pow_le_pow_right (by decide) (by omega)
          exact this
        have HCL := Lib.hid (show ∀ i, j ≤ i → T / 10 ^ i ≤ 1152921504606846976 by
          intro i hi
          have h1 : T / 10 ^ i ≤ T / 10 ^ j := Nat.div_le_div_left (Nat.pow_le_pow_right (by decide) hi) (Nat.pow_pos (by decide))
          omega)
        rw [hj1, hcy]
        clear hcl hp60 hcy hj1 hgo hj
        go_wp2_with fail
        go_loopw [6, 7, 10, 11] (fun s6 s7 s10 s11 wr => ∃ i : Nat, s6 = .int .i64 ((L : Int) - (i : Int)) ∧ s7 = .int .u64 ((T / 10 ^ i : Nat) : Int) ∧ j ≤ i ∧ i ≤ L ∧ LS wr w b V j T L dp ng tr i) (fun s6 s7 s10 s11 wr => (RowKit.intOf s6).toNat)
        case atStart => exact ⟨j, rfl, rfl, by omega, by have := HLL.out; omega, HS2.out⟩
        case round =>
          clear HS2
          obtain ⟨i, rfl, rfl, hji, hiL, hS2⟩ := hrel
          have HS2 := Lib.hid hS2
          clear hS2
          have hil := HCL.out i hji
          by_cases h0 : 0 < T / 10 ^ i
          · have hjL : i < L := top_pos HNU.out.1 h0
            have hLn : j ≤ L := by have := HLL.out; omega
            have hst := top_step T i
            have hdg := top_dig (T := T) hjL
            obtain ⟨m, hm⟩ : ∃ m, T / 10 ^ i = m := ⟨_, rfl⟩
            obtain ⟨q1, hq1⟩ : ∃ q1, T / 10 ^ (i + 1) = q1 := ⟨_, rfl⟩
            rw [hm] at hst hdg h0 hil ⊢
            rw [hq1] at hst
            obtain ⟨r1, hr1⟩ : ∃ r1, m % 10 = r1 := ⟨_, rfl⟩
            have hqw : (m : Int) / 10 = (q1 : Int) := by omega
            have hrw : (m : Int) - 10 * (q1 : Int) = (r1 : Int) := by omega
            have hml : (m : Int) ≤ 1152921504606846976 := by omega
            have hql : (q1 : Int) ≤ 115292150460684697 := by omega
            have hm0 : (0 : Int) < (m : Int) := by omega
            have HRD := Lib.hid (show r1 = dg T L (L - 1 - i) by rw [← hr1]; exact hdg)
            have HQ := Lib.hid hq1
            clear hst hdg hm hq1 hr1 hil h0
            go_upto_region 21 with fail
            clear hml hql hqw hrw hm0
            have hwc : IntKind.i64.wrap ((L : Int) - (i : Int) - 1) = ((L - 1 - i : Nat) : Int) := by rw [IntWalk.i64_in _ (by omega)]; omega
            obtain ⟨om, hom⟩ : ∃ om, L - 1 - i = om := ⟨_, rfl⟩
            rw [hom] at hwc
            have HOM := Lib.hid (show (L : Int) - ((i + 1 : Nat) : Int) = (om : Int) by omega)
            have hrdg : r1 = dg T L om := by rw [← hom]; exact HRD.out
            have hr9 : (r1 : Int) ≤ 9 := by have := dg_lt T L om; omega
            by_cases h8 : om < 800
            · have h8I : (om : Int) < 800 := by omega
              obtain ⟨g2, k1, k2, k3⟩ := HS2.out.ex
              have cc := k1.c om (by omega)
              have cf := k1.f om (by omega)
              have HN2 := Lib.hid (HS2.out.step_in (d := r1) hjL hLn (by omega) (by rw [hom]; exact hrdg))
              rw [hom] at HN2
              rw [show ((r1 + 48 : Nat) : Int) = (r1 : Int) + 48 by omega] at HN2
              clear k1 k2 k3 hrdg hom
              go_wp2_with fail
              exact ⟨⟨i + 1, by rw [HOM.out], by rw [HQ.out], by omega, by omega, HN2.out⟩, by simp only [RowKit.intOf]; have := HOM.out; omega⟩
            · have h8I : ¬ (om : Int) < 800 := by omega
              obtain ⟨g2, k1, k2, k3⟩ := HS2.out.ex
              have ct := k1.ct
              have cf := k1.f 803 (by omega)
              have HN2 := Lib.hid (HS2.out.step_out (d := r1) hjL hLn (by omega) (by rw [hom]; exact hrdg))
              clear k1 k2 k3 hrdg hom
              by_cases hr0 : r1 = 0
              · have hr0I : (r1 : Int) = 0 := by omega
                have HN3 := Lib.hid (HN2.out.2 hr0)
                subst hr0
                clear HN2
                go_wp2_with fail
                exact ⟨⟨i + 1, by rw [HOM.out], by rw [HQ.out], by omega, by omega, HN3.out⟩, by simp only [RowKit.intOf]; have := HOM.out; omega⟩
              · have hr0I : ¬ (r1 : Int) = 0 := by omega
                have HN3 := Lib.hid (HN2.out.1 hr0)
                clear HN2 hr0
                go_wp2_with fail
                exact ⟨⟨i + 1, by rw [HOM.out], by rw [HQ.out], by omega, by omega, HN3.out⟩, by simp only [RowKit.intOf]; have := HOM.out; omega⟩
          · have hz : T / 10 ^ i = 0 := Nat.eq_zero_of_not_pos h0
            have hiE : i = L := top_zero HNU.out.2 (by have h1 : 1 ≤ j := HN.out.n1; have := HLL.out; omega) hiL hz
            subst hiE
            obtain ⟨g3, k1, k2, k3⟩ := HS2.out.ex
            rw [drp_all (Nat.sub_le _ _)] at k1
            rw [hz]
            have HK := Lib.hid k1
            have c800 := k1.cn
            have c801 := k1.cd
            have f800 := k1.f 800 (by omega)
            have f801 := k1.f 801 (by omega)
            have hG3 : Dgs g3 (cutV T i) (cutN i) := fun x hx => by
              rw [cut_dg hx]
              have h1 : x < i := by unfold cutN at hx; omega
              have h2 : x < 800 := by have := cutN_le i; omega
              exact k3 x (by omega) h1 h2
            have HG3 := Lib.hid hG3
            have HX2 := Lib.hid HS2.out.x
            have hLw := HLw.out
            have hdpw := HDP.out
            clear k1 k2 k3 hG3 hz h0 hil HCL
            by_cases h8 : 800 ≤ i
            · have h8I : (800 : Int) ≤ (i : Int) := by omega
              have hcN : cutN i = 800 := by unfold cutN; have := cK_eq; omega
              have HTR := Lib.hid (fun W (hW : DB W b g3 800 (dp + (D : Int)) ng (tr || decide (lw T (i - cK) ≠ 0))) => trim_any b (cutV T i) (cutN i) (dp + (D : Int)) ng (tr || decide (lw T (i - cK) ≠ 0)) g3 W (cutN_le i) (by rw [hcN]; exact hW) HG3.out)
              have HD5 := Lib.hid (((HK.out.setN i).setN 800).setP (dp + (D : Int)))
              clear hcN
              go_wp2_with fail
              refine (HTR.out _ HD5.out).mono ?_
              rintro e w9 ⟨rfl, hDM, hb9⟩
              go_wp2_with fail
              refine ⟨rfl, .tuple #[], by simp [results, Tryz.results216, go_sem], rfl, ?_, ?_⟩
              · rw [HE.out]; exact hDM
              · exact (((HX2.out.setCell (Nat.le_refl _) _).setCell (Nat.le_refl _) _).setCell (Nat.le_refl _) _).trans hb9
            · have h8I : ¬ (800 : Int) ≤ (i : Int) := by omega
              have hcN : cutN i = i := by unfold cutN; have := cK_eq; omega
              have HTR := Lib.hid (fun W (hW : DB W b g3 i (dp + (D : Int)) ng (tr || decide (lw T (i - cK) ≠ 0))) => trim_any b (cutV T i) (cutN i) (dp + (D : Int)) ng (tr || decide (lw T (i - cK) ≠ 0)) g3 W (cutN_le i) (by rw [hcN]; exact hW) HG3.out)
              have HD5 := Lib.hid ((HK.out.setN i).setP (dp + (D : Int)))
              clear hcN
              go_wp2_with fail
              refine (HTR.out _ HD5.out).mono ?_
              rintro e w9 ⟨rfl, hDM, hb9⟩
              go_wp2_with fail
              refine ⟨rfl, .tuple #[], by simp [results, Tryz.results216, go_sem], rfl, ?_, ?_⟩
              · rw [HE.out]; exact hDM
              · exact ((HX2.out.setCell (Nat.le_refl _) _).setCell (Nat.le_refl _) _).trans hb9
end Go.Proofs.YtpebnofjcodikaaGreatDoor
