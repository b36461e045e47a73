/- Layer 4: the document's number, walked. -/
import Derived.Test.YtcjomeghcihecaaDoorPGLxR2
namespace Go.Proofs.YtcjomeghcihecaaDoor
open Go Go.ChangeShapes Go.WideShapes Go.ChangeAt Go.RowKit Go.PlainAid Go.Maps
set_option linter.unusedVariables false
set_option linter.unusedSimpArgs false
theorem vb_eq {a b : Bool} (h : a = b) : Value.bool a = Value.bool b := by rw [h]
set_option maxRecDepth 100000 in
set_option maxHeartbeats 4000000 in
theorem number_r (s : ByteArray) (w : World) (hs : s.size ≤ 20000) (a : Nat) (ha : a < s.size) :
    Calls Tryd.prog 34 #[.string s, .int .i64 a] w (PcP w a (numD (Rs s a))) := by
  have hb := get_bt s
  have hd := dig_len_le s a
  have hf := fr_len_le s a
  have hx := ex_len_le s a
  obtain ⟨D, hD⟩ : ∃ x, a + digN (Rs s a) = x := ⟨_, rfl⟩
  obtain ⟨F, hF⟩ : ∃ x, a + frE (Rs s a) = x := ⟨_, rfl⟩
  obtain ⟨X, hX⟩ : ∃ x, a + exE (Rs s a) = x := ⟨_, rfl⟩
  have hDs : D ≤ s.size := by omega
  have hFs : F ≤ s.size := by omega
  have hXs : X ≤ s.size := by omega
  have haX : a ≤ X := by omega
  have HD := Lib.hid hD
  have HF := Lib.hid hF
  have HX := Lib.hid hX
  have HDG := Lib.hid (digits_r s)
  clear hD hF hX hd hf hx
  go_enter Tryd.func34, Tryd.ntmps34
  go_upto_region 3 with (first | (go_at_call 44; (with_reducible refine (HDG.out _ hs a (by omega)).mono ?_); rintro e w1 ⟨rfl, rfl⟩; rw [HD.out]) | fail)
  obtain ⟨W1, hW1⟩ : ∃ W, w.alloc (.cells #[.int .i64 0, .string ⟨#[]⟩, .int .i64 0] 52) = W := ⟨_, rfl⟩
  rw [hW1]
  have HW1 := Lib.hid hW1
  clear hW1
  have w1x : IntKind.i64.wrap ((D : Int) + 1) = (D : Int) + 1 := i64_in (by omega) (by omega)
  obtain ⟨fb, hfb⟩ : ∃ b, frT s D = b := ⟨_, rfl⟩
  have HFB := Lib.hid hfb
  clear hfb
  go_cut [29] from 12 to 30 (fun b wx => b = .bool fb ∧ W1 = wx)
  case first =>
    by_cases h1 : D + 1 < s.size
    · have hz1 : (D : Int) + 1 < (s.size : Int) := by omega
      have hz0 : (D : Int) < (s.size : Int) := by omega
      cases h2 : (bt s D == 46) with
      | false =>
        have hv : fb = false := by rw [← HFB.out]; simp [frT, h2]
        subst hv
        go_wp2_with fail
        go_meet
        exact ⟨rfl, rfl⟩
      | true =>
        have hv : fb = isDi (bt s (D + 1)) := by rw [← HFB.out]; simp [frT, h1, h2]
        have HV := Lib.hid hv
        clear hv
        go_wp2_with (first | (go_at_call 27; (with_reducible refine (rDigit_any (bt s (D + 1)) _).mono ?_); rintro e w1 ⟨rfl, hw1⟩; (have hw2 := hw1.symm; clear hw1; subst hw2)) | fail)
        go_meet
        exact ⟨vb_eq HV.out.symm, rfl⟩
    · have hz1 : ¬ (D : Int) + 1 < (s.size : Int) := by omega
      have hv : fb = false := by rw [← HFB.out]; simp [frT, h1]
      subst hv
      go_wp2_with fail
      go_meet
      exact ⟨rfl, rfl⟩
  case rest =>
  obtain ⟨rfl, rfl⟩ := hcut
  go_upto_if 29 with fail
  have hfv : F = if fb = true then D + 1 + digN (Rs s (D + 1)) else D := by
    have h := frE_r s a
    rw [HD.out, HFB.out] at h
    rw [← HF.out, h]
    split
    · have := HD.out; omega
    · exact HD.out
  have hkv : frK (Rs s a) = if fb = true then 6 else 5 := by
    unfold frK
    have h := frE_r s a
    rw [HD.out, HFB.out] at h
    rw [h]
    split
    · rw [if_neg (by omega)]
    · rw [if_pos rfl]
  obtain ⟨kf, hkf⟩ : ∃ x, frK (Rs s a) = x := ⟨_, rfl⟩
  rw [hkf] at hkv
  have HKF := Lib.hid hkf
  have HKV := Lib.hid hkv
  have HFV := Lib.hid hfv
  clear hkf hkv hfv
  go_cut [5, 6] from 30 to 34 (fun k f wx => k = .int .i64 kf ∧ f = .int .i64 F ∧ W1 = wx)
  case first =>
    cases fb with
    | false =>
      obtain rfl : F = D := by have h := HFV.out; rw [if_neg (by decide)] at h; exact h
      obtain rfl : kf = 5 := by have h := HKV.out; rw [if_neg (by decide)] at h; exact h
      go_wp2_with fail
      go_meet
      exact ⟨rfl, rfl, rfl⟩
    | true =>
      have hv : F = D + 1 + digN (Rs s (D + 1)) := by have h := HFV.out; rw [if_pos rfl] at h; exact h
      obtain rfl : kf = 6 := by have h := HKV.out; rw [if_pos rfl] at h; exact h
      have HV := Lib.hid hv
      have hD1 : D + 1 ≤ s.size := by omega
      obtain ⟨D1, hD1e⟩ : ∃ x, D + 1 = x := ⟨_, rfl⟩
      rw [hD1e] at HV hD1
      replace w1x : IntKind.i64.wrap ((D : Int) + 1) = (D1 : Int) := by rw [w1x]; omega
      clear hv hD1e
      go_wp2_with (first | (go_at_call 44; (with_reducible refine (HDG.out _ hs D1 hD1).mono ?_); rintro e w1 ⟨rfl, hw1⟩; (have hw2 := hw1; clear hw1; subst hw2); rw [← HV.out]) | fail)
      go_meet
      exact ⟨rfl, rfl, rfl⟩
  case rest =>
  obtain ⟨rfl, rfl, rfl⟩ := hcut
  clear w1x
  go_upto_region 6 with fail
  have w2x : IntKind.i64.wrap ((F : Int) + 1) = (F : Int) + 1 := i64_in (by omega) (by omega)
  obtain ⟨eb, heb⟩ : ∃ b, exT s F = b := ⟨_, rfl⟩
  have HEB := Lib.hid heb
  clear heb
  go_cut [43] from 34 to 44 (fun b wx => b = .bool eb ∧ W1 = wx)
  case first =>
    by_cases h1 : F < s.size
    · have hz1 : (F : Int) < (s.size : Int) := by omega
      have hv : eb = (bt s F == 101) := by rw [← HEB.out]; simp [exT, h1]
      have HV := Lib.hid hv
      clear hv
      go_wp2_with fail
      go_meet
      exact ⟨vb_eq HV.out.symm, rfl⟩
    · have hz1 : ¬ (F : Int) < (s.size : Int) := by omega
      have hv : eb = false := by rw [← HEB.out]; simp [exT, h1]
      subst hv
      go_wp2_with fail
      go_meet
      exact ⟨rfl, rfl⟩
  case rest =>
  obtain ⟨rfl, rfl⟩ := hcut
  go_upto_if 43 with fail
  obtain ⟨kn, hkn⟩ : ∃ x, numK (Rs s a) = x := ⟨_, rfl⟩
  have hxv : (X = F ∧ kn = kf ∧ (eb = true → ∀ K, K = (if sgT s (F + 1) = true then F + 2 else F + 1) → ¬ (K < s.size ∧ isDi (bt s K) = true))) ∨ (eb = true ∧ kn = 6 ∧ ∀ K, K = (if sgT s (F + 1) = true then F + 2 else F + 1) → (K < s.size ∧ isDi (bt s K) = true) ∧ X = K + digN (Rs s K)) := by
    have h1 := exE_r s a
    have h2 := sgE_r s a (frE (Rs s a) + 1)
    have h3 : a + (frE (Rs s a) + 1) = F + 1 := by have := HF.out; omega
    have h4 : a + sgE (Rs s a) (frE (Rs s a) + 1) = if sgT s (F + 1) = true then F + 2 else F + 1 := by
      rw [h2, h3]
      split <;> omega
    rw [HF.out, HEB.out, h4] at h1
    have hk := exK_num (Rs s a)
    rw [HKF.out, hkn] at hk
    unfold exK at hk
    have hXo := HX.out
    have hFo := HF.out
    obtain ⟨Kx, hKx⟩ : ∃ x, (if sgT s (F + 1) = true then F + 2 else F + 1) = x := ⟨_, rfl⟩
    rw [hKx] at h1 h4 ⊢
    by_cases hc : eb = true ∧ 0 < digN (Rs s Kx)
    · rw [if_pos hc] at h1
      refine .inr ⟨hc.1, ?_, fun K hK => ⟨by rw [hK]; exact dig_pos.1 hc.2, ?_⟩⟩
      · rw [if_neg] at hk
        · exact hk.symm
        · have hp := hc.2
          have h5 : frE (Rs s a) + 1 ≤ sgE (Rs s a) (frE (Rs s a) + 1) := by rw [h2]; split <;> omega
          omega
      · rw [hK, ← hXo, h1, ← h4]; omega
    · rw [if_neg hc] at h1
      rw [if_pos h1] at hk
      exact .inl ⟨by omega, hk.symm, fun he K hK hh => hc ⟨he, dig_pos.2 (by rw [← hK]; exact hh)⟩⟩
  have HXV := Lib.hid hxv
  have HKN := Lib.hid hkn
  clear hxv hkn
  go_cut [5, 6] from 44 to 77 (fun k f wx => k = .int .i64 kn ∧ f = .int .i64 X ∧ W1 = wx)
  case first =>
    cases eb with
    | false =>
      obtain ⟨rfl, rfl, _⟩ | ⟨h, _⟩ := HXV.out
      · clear w2x
        go_wp2_with fail
        go_meet
        exact ⟨rfl, rfl, rfl⟩
      · cases h
    | true =>
      have hF1 : F < s.size := by
        have h := HEB.out
        unfold exT at h
        simp only [Bool.and_eq_true, decide_eq_true_eq] at h
        exact h.1
      go_upto_region 8 with fail
      obtain ⟨G, hG⟩ : ∃ x, F + 1 = x := ⟨_, rfl⟩
      have hG1 : (F : Int) + 1 = (G : Int) := by omega
      have hGs : G ≤ s.size := by omega
      have HG := Lib.hid hG
      rw [hG1]
      clear hG hG1 w2x
      have w3x : IntKind.i64.wrap ((G : Int) + 1) = (G : Int) + 1 := i64_in (by omega) (by omega)
      obtain ⟨sb, hsb⟩ : ∃ b, sgT s G = b := ⟨_, rfl⟩
      have HSB := Lib.hid hsb
      clear hsb
      go_cut [61] from 46 to 62 (fun b wx => b = .bool sb ∧ W1 = wx)
      case first =>
        by_cases h1 : G < s.size
        · have hz1 : (G : Int) < (s.size : Int) := by omega
          cases h2 : (bt s G == 43) with
          | true =>
            have hv : sb = true := by rw [← HSB.out]; simp [sgT, h1, h2]
            subst hv
            go_wp2_with fail
            go_meet
            exact ⟨rfl, rfl⟩
          | false =>
            have hv : sb = (bt s G == 45) := by rw [← HSB.out]; simp [sgT, h1, h2]
            have HV := Lib.hid hv
            clear hv
            go_wp2_with fail
            go_meet
            exact ⟨vb_eq HV.out.symm, rfl⟩
        · have hz1 : ¬ (G : Int) < (s.size : Int) := by omega
          have hv : sb = false := by rw [← HSB.out]; simp [sgT, h1]
          subst hv
          go_wp2_with fail
          go_meet
          exact ⟨rfl, rfl⟩
      case rest =>
      obtain ⟨rfl, rfl⟩ := hcut
      go_upto_if 61 with fail
      obtain ⟨K, hK⟩ : ∃ x, (if sb = true then G + 1 else G) = x := ⟨_, rfl⟩
      have hKs : K ≤ s.size := by
        rw [← hK]
        split
        · rename_i h
          have h2 := HSB.out
          rw [h] at h2
          unfold sgT at h2
          simp only [Bool.and_eq_true, decide_eq_true_eq] at h2
          omega
        · exact hGs
      have hKe : K = if sgT s (F + 1) = true then F + 2 else F + 1 := by
        rw [HG.out, HSB.out, ← hK]
        have := HG.out
        split <;> omega
      have HKE := Lib.hid hKe
      have HK := Lib.hid hK
      clear hK hKe
      go_cut [7] from 62 to 64 (fun k wx => k = .int .i64 K ∧ W1 = wx)
      case first =>
        cases sb with
        | true =>
          have hv := HK.out
          rw [if_pos rfl] at hv
          go_wp2_with fail
          go_meet
          exact ⟨by rw [← hv]; go_num, rfl⟩
        | false =>
          obtain rfl : K = G := by have h := HK.out; rw [if_neg (by decide)] at h; exact h.symm
          clear w3x
          go_wp2_with fail
          go_meet
          exact ⟨rfl, rfl⟩
      case rest =>
      obtain ⟨rfl, rfl⟩ := hcut
      clear w3x
      rcases HXV.out with ⟨rfl, rfl, hno⟩ | ⟨_, rfl, hyes⟩
      · have hno2 := hno rfl K HKE.out
        have HXV := 0
        clear hno
        by_cases h1 : K < s.size
        · have hz1 : (K : Int) < (s.size : Int) := by omega
          have hc : isDi (bt s K) = false := by
            cases hc : isDi (bt s K) with
            | false => rfl
            | true => exact absurd ⟨h1, hc⟩ hno2
          clear hno2
          go_wp2_with (first | (go_at_call 27; (with_reducible refine (rDigit_any (bt s K) _).mono ?_); rintro e w1 ⟨rfl, hw1⟩; (have hw2 := hw1.symm; clear hw1; subst hw2)) | fail)
          go_meet
          exact ⟨rfl, rfl, rfl⟩
        · have hz1 : ¬ (K : Int) < (s.size : Int) := by omega
          clear hno2
          go_wp2_with fail
          go_meet
          exact ⟨rfl, rfl, rfl⟩
      · obtain ⟨⟨h1, hc⟩, hXe⟩ := hyes K HKE.out
        have hz1 : (K : Int) < (s.size : Int) := by omega
        have HXE := Lib.hid hXe
        clear hyes hXe
        go_wp2_with (first | (go_at_call 27; (with_reducible refine (rDigit_any (bt s K) _).mono ?_); rintro e w1 ⟨rfl, hw1⟩; (have hw2 := hw1.symm; clear hw1; subst hw2)) | (go_at_call 44; (with_reducible refine (HDG.out _ hs K hKs).mono ?_); rintro e w1 ⟨rfl, hw1⟩; (have hw2 := hw1; clear hw1; subst hw2); rw [← HXE.out]) | fail)
        go_meet
        exact ⟨rfl, rfl, rfl⟩
  case rest =>
  obtain ⟨rfl, rfl, rfl⟩ := hcut
  clear w2x
  go_upto_region 13 with fail
  obtain ⟨T, hT⟩ : ∃ x, s.extract a X = x := ⟨_, rfl⟩
  have hTz : T.size = X - a := by rw [← hT, ← HX.out, Lib.size_eq, ext_list, List.length_take, Rs_len]; have := HX.out; omega
  have hTb : T = bsOf ((Rs s a).take (exE (Rs s a))) := by rw [← hT, ← HX.out]; exact ext_bs s a _
  have hT0 : 0 < X - a → bt T 0 = bt s a := fun h => by rw [← hT, ← HX.out]; exact ext_bt (k := 0) (by have := HX.out; omega) (by have := HX.out; omega)
  have HT := Lib.hid hT
  have HTZ := Lib.hid hTz
  have HTB := Lib.hid hTb
  have hTl : (T.size : Int) ≤ 20000 := by omega
  have hTg := get_bt T
  clear hTz hTb
  have hBAD := numBad_r s a ha
  rw [HX.out, HKN.out] at hBAD
  obtain ⟨b1, hb1⟩ : ∃ b, bd1 s a X kn = b := ⟨_, rfl⟩
  obtain ⟨b2, hb2⟩ : ∃ b, bd2 s X = b := ⟨_, rfl⟩
  rw [hb1, hb2] at hBAD
  have HBAD := Lib.hid hBAD
  have HB1 := Lib.hid hb1
  have HB2 := Lib.hid hb2
  clear hBAD hb1 hb2
  have haXz : (a : Int) ≤ (X : Int) := by omega
  have hXsz : (X : Int) ≤ (s.size : Int) := by omega
  go_upto_region 14 with fail
  clear hT
  go_cut [97] from 81 to 98 (fun b wx => b = .bool b1 ∧ W1 = wx)
  case first =>
    by_cases h1 : 540 < X - a
    · have hz1 : (T.size : Int) > 540 := by have := HTZ.out; omega
      have hv : b1 = true := by rw [← HB1.out]; simp [bd1, h1]
      subst hv
      go_wp2_with fail
      go_meet
      exact ⟨rfl, rfl⟩
    · have hz1 : ¬ (T.size : Int) > 540 := by have := HTZ.out; omega
      cases h5 : (kn == 5) with
      | false =>
        have hv : b1 = false := by rw [← HB1.out]; simp [bd1, h1, h5]
        subst hv
        go_wp2_with fail
        go_meet
        exact ⟨rfl, rfl⟩
      | true =>
        by_cases h2 : 1 < X - a
        · have hz2 : (T.size : Int) > 1 := by have := HTZ.out; omega
          have hz3 : 0 < T.size := by omega
          have ht0 := hT0 (by omega)
          have hv : b1 = (bt T 0 == 48) := by rw [← HB1.out, ht0]; simp [bd1, h1, h2, h5]
          have HV := Lib.hid hv
          clear hv ht0
          go_wp2_with fail
          go_meet
          exact ⟨vb_eq HV.out.symm, rfl⟩
        · have hz2 : ¬ (T.size : Int) > 1 := by have := HTZ.out; omega
          have hv : b1 = false := by rw [← HB1.out]; simp [bd1, h1, h2]
          subst hv
          go_wp2_with fail
          go_meet
          exact ⟨rfl, rfl⟩
  case rest =>
  obtain ⟨rfl, rfl⟩ := hcut
  clear hT0
  have hw1 := HW1.out
  cases b1 with
  | true =>
    subst hw1
    go_wp2_with fail
    refine bodyPost_ret (v := .agg #[.int .i64 (-1), .string ⟨#[]⟩, .int .i64 0]) (by simp [results, Tryd.results34, go_sem]) rfl ⟨_, _, _, rfl, (Below.refl _ _).alloc (Nat.le_refl _) _, .inl ⟨?_, rfl⟩⟩
    unfold numD
    rw [HBAD.out]
    simp
  | false =>
  go_upto_region 16 with fail
  go_cut [114] from 99 to 115 (fun b wx => b = .bool b2 ∧ W1 = wx)
  case first =>
    clear hw1
    by_cases h1 : X < s.size
    · have hz1 : (X : Int) < (s.size : Int) := by omega
      cases h2 : isLi (bt s X) with
      | true =>
        have hv : b2 = true := by rw [← HB2.out]; simp [bd2, h1, h2]
        subst hv
        go_wp2_with (first | (go_at_call 26; (with_reducible refine (rLetter_any (bt s X) _).mono ?_); rintro e w1 ⟨rfl, hw1⟩; (have hw2 := hw1.symm; clear hw1; subst hw2)) | fail)
        go_meet
        exact ⟨rfl, rfl⟩
      | false =>
        have hv : b2 = (bt s X == 46) := by rw [← HB2.out]; simp [bd2, h1, h2]
        have HV := Lib.hid hv
        clear hv
        go_wp2_with (first | (go_at_call 26; (with_reducible refine (rLetter_any (bt s X) _).mono ?_); rintro e w1 ⟨rfl, hw1⟩; (have hw2 := hw1.symm; clear hw1; subst hw2)) | fail)
        go_meet
        exact ⟨vb_eq HV.out.symm, rfl⟩
    · have hz1 : ¬ (X : Int) < (s.size : Int) := by omega
      have hv : b2 = false := by rw [← HB2.out]; simp [bd2, h1]
      subst hv
      go_wp2_with fail
      go_meet
      exact ⟨rfl, rfl⟩
  case rest =>
  obtain ⟨rfl, rfl⟩ := hcut
  subst hw1
  cases b2 with
  | true =>
    go_wp2_with fail
    refine bodyPost_ret (v := .agg #[.int .i64 (-1), .string ⟨#[]⟩, .int .i64 0]) (by simp [results, Tryd.results34, go_sem]) rfl ⟨_, _, _, rfl, (Below.refl _ _).alloc (Nat.le_refl _) _, .inl ⟨?_, rfl⟩⟩
    unfold numD
    rw [HBAD.out]
    simp
  | false =>
    go_wp2_with fail
    refine bodyPost_ret (v := .agg #[.int .i64 kn, .string T, .int .i64 X]) (by simp [results, Tryd.results34, go_sem]) rfl ⟨_, _, _, rfl, (Below.refl _ _).alloc (Nat.le_refl _) _, .inr ⟨(numK (Rs s a), (Rs s a).take (exE (Rs s a)), exE (Rs s a)), ?_, HKN.out.symm, HTB.out, by rw [← HX.out]⟩⟩
    unfold numD
    rw [HBAD.out]
    rfl
end Go.Proofs.YtcjomeghcihecaaDoor
