/- strconv's decimal: floatBits. strconv's decimal: floatBits, of any decimal. -/
import Derived.Test.YtpebnofjcodikaaGreatDoorPGPfU
import Derived.Test.YtpebnofjcodikaaGreatDoorPGRlU
import Derived.Deep.CutBlock
import Derived.BigQuiet
namespace Go.Proofs.YtpebnofjcodikaaGreatDoor
section
open Go Go.ChangeShapes Go.WideShapes Go.RowKit
set_option linter.unusedVariables false
set_option linter.unusedSimpArgs false
theorem shR_nrm : ∀ f k s, Nrm s → k ≤ 60 * (f + 1) → Nrm (shR f k s) ∧ (shR f k s).dp ≤ s.dp ∧ s.dp - 860 * ((f : Int) + 1) ≤ (shR f k s).dp := by
  intro f
  induction f with
  | zero =>
    intro k s h hk
    have h1 := (rsh_nrm (k := k) h).1
    have h2 := rsh_dp (k := k) h (by omega)
    exact ⟨h1, h2.1, by have := h2.2; simp only [shR]; omega⟩
  | succ f ih =>
    intro k s h hk
    by_cases hk2 : 60 < k
    · rw [shR_go hk2]
      have h1 := (rsh_nrm (k := 60) h).1
      have h2 := rsh_dp (k := 60) h (by omega)
      obtain ⟨a1, a2, a3⟩ := ih (k - 60) (rsh 60 s) h1 (by omega)
      exact ⟨a1, by omega, by omega⟩
    · rw [shR_stop hk2]
      have h1 := (rsh_nrm (k := k) h).1
      have h2 := rsh_dp (k := k) h (by omega)
      exact ⟨h1, h2.1, by omega⟩
/-- The table powtab in memory, in blocks below b. -/
structure PWT (w : World) (b : Nat) : Prop where
  ex : ∃ R o c, R < b ∧ 9 ≤ c ∧ w.cell? ⟨17, 0, none⟩ = some (.slice (some ⟨R, o, none⟩) 9 c) ∧ 17 < b ∧ ∀ i, i < 9 → w.cell? ⟨R, o + i, none⟩ = some (.int .i64 ((pw i : Nat) : Int))
theorem PWT.keep {w w' : World} {b : Nat} (h : PWT w b) (hb : Below b w w') : PWT w' b := by
  obtain ⟨R, o, c, h1, h2, h3, h4, h5⟩ := h.ex
  exact ⟨R, o, c, h1, h2, (hb.cell (p := ⟨_, _, none⟩) h4).trans h3, h4, fun i hi => (hb.cell (p := ⟨_, _, none⟩) h1).trans (h5 i hi)⟩
/-- What a float of 64 bits is made of, in memory. -/
structure FI (w : World) (F b : Nat) : Prop where
  m : w.cell? ⟨F, 0, none⟩ = some (.int .u64 52)
  e : w.cell? ⟨F, 1, none⟩ = some (.int .u64 11)
  bs : w.cell? ⟨F, 2, none⟩ = some (.int .i64 (-1023))
  l : F < b
theorem FI.keep {w w' : World} {F b : Nat} (h : FI w F b) (hb : Below b w w') : FI w' F b :=
  ⟨(hb.cell (p := ⟨_, _, none⟩) h.l).trans h.m, (hb.cell (p := ⟨_, _, none⟩) h.l).trans h.e, (hb.cell (p := ⟨_, _, none⟩) h.l).trans h.bs, h.l⟩
theorem drew_2 {w : World} {a b : Nat} : ∃ q, (w.drewN a).drewN b = w.drewN q := ⟨a + b, by unfold World.drewN; simp [Nat.add_assoc]⟩
theorem DM.drew {w : World} {b : Nat} {s : DS} {ng : Bool} (h : DM w b s ng) (q : Nat) : DM (w.drewN q) b s ng := by
  obtain ⟨g, hD, hg⟩ := h.ex
  exact ⟨g, hD.drew q, hg⟩
theorem and_u52 (m : Nat) (hm : m < 18446744073709551616) : bits .and .u64 (m : Int) 4503599627370496 = if m / 4503599627370496 % 2 = 0 then 0 else 4503599627370496 := by
  have h := u64_and_nat m 4503599627370496 hm (by omega)
  refine h.trans ?_
  have e1 : (m &&& 4503599627370496) % 2 ^ 52 = 0 := by rw [Nat.and_mod_two_pow]; simp
  have e2 : (m &&& 4503599627370496) / 2 ^ 52 = (m / 2 ^ 52) &&& 1 := by rw [Nat.and_div_two_pow]
  rw [Nat.and_one_is_mod] at e2
  rw [show (2 : Nat) ^ 52 = 4503599627370496 from rfl] at e1 e2
  generalize m &&& 4503599627370496 = y at *
  by_cases hc : m / 4503599627370496 % 2 = 0
  · rw [if_pos hc, show y = 0 by omega]; rfl
  · rw [if_neg hc, show y = 4503599627370496 by omega]; rfl
/-- The shift back into range, and the exponent. -/
def fbE (x : DS × Int) : DS × Int := if x.2 - 1 < -1022 then (shR 40 (-1022 - (x.2 - 1)).toNat x.1, -1022) else (x.1, x.2 - 1)
/-- The pattern, and whether it is too large. -/
def fbX (x : DS × Int) (ng : Bool) : Nat × Bool :=
  if 1024 ≤ x.2 then (Ieee.double.word ng fIN, true)
  else if rin (lsh 53 x.1) = 9007199254740992 then (if 1023 ≤ x.2 then (Ieee.double.word ng fIN, true) else (Ieee.double.word ng ((x.2 + 1024).toNat * 4503599627370496), false))
  else if rin (lsh 53 x.1) / 4503599627370496 % 2 = 0 then (Ieee.double.word ng (rin (lsh 53 x.1) % 4503599627370496), false)
  else (Ieee.double.word ng (rin (lsh 53 x.1) % 4503599627370496 + (x.2 + 1023).toNat * 4503599627370496), false)
noncomputable def fb (s : DS) (ng : Bool) : Nat × Bool := fbX (fbE (whl runB fB (s, 0) (whl runA fA (s, 0) (s, 0)))) ng
set_option maxRecDepth 100000 in
set_option maxHeartbeats 4000000 in
theorem fb_any (b F : Nat) (s : DS) (ng : Bool) (w : World) (hN : Nrm s) (hdp : -330 ≤ s.dp ∧ s.dp ≤ 310) (hM : DM w b s ng) (hC : LC w b) (hP : PWT w b) (hF : FI w F b) :
    Calls Tryz.prog 231 #[.pointer (some ⟨b, 0, none⟩), .pointer (some ⟨F, 0, none⟩)] w fun e w' => e = .returned (.tuple #[.int .u64 (((fb s ng).1 : Nat) : Int), .bool (fb s ng).2]) ∧ Below b w w' := by
  obtain ⟨A0, hA0⟩ : ∃ A0, whl runA fA (s, 0) (s, 0) = A0 := ⟨_, rfl⟩
  obtain ⟨B0, hB0⟩ : ∃ B0, whl runB fB (s, 0) A0 = B0 := ⟨_, rfl⟩
  obtain ⟨R, hR⟩ : ∃ R, fbX (fbE B0) ng = R := ⟨_, rfl⟩
  rw [show fb s ng = R by unfold fb; rw [hA0, hB0, hR]]
  have HA0 := Lib.hid hA0
  have HB0 := Lib.hid hB0
  have HR := Lib.hid hR
  have HN := Lib.hid hN
  have HM := Lib.hid hM
  have HC := Lib.hid hC
  have HP := Lib.hid hP
  have HF := Lib.hid hF
  obtain ⟨g, hD, _⟩ := hM.ex
  have c0 := hD.cn
  have c1 := hD.cd
  have hn1 := hN.n1
  have hb0 : (((s.n : Nat) : Int) == 0) = false := by simp; omega
  obtain ⟨h31, h33⟩ := hdp
  obtain ⟨dp, hdp⟩ : ∃ dp, s.dp = dp := ⟨_, rfl⟩
  rw [hdp] at c1 h31 h33
  have HDP := Lib.hid hdp
  clear hA0 hB0 hR hN hM hC hP hF hD hn1 hdp
  go_enter Tryz.func231, Tryz.ntmps231
  go_wp2_with fail
  refine wp_scope_fwd2 (r0 := ?r0) (r1 := ?r1) ?h0 ?h1 ?h
  case h0 => rfl
  case h1 => rfl
  intro J1 J0 hJ1 hJ0
  have HJ1 := Lib.hid hJ1
  have HJ0 := Lib.hid hJ0
  clear hJ1 hJ0
  go_wp2_with fail
  go_loopg [6] (wh s) (fun gk s6 wr => ∃ (t : DS) (e : Int), gk = wh t ∧ s6 = .int .i64 e ∧ IA (t, e) ∧ whl runA fA (s, 0) (t, e) = A0 ∧ DM wr b t ng ∧ Below b w wr)
  case atStart => exact ⟨s, 0, rfl, rfl, IA.start HN.out (by rw [HDP.out]; omega), HA0.out, HM.out, Below.refl _ _⟩
  case round =>
    obtain ⟨t, e, rfl, rfl, hI, hA, hMt, hX⟩ := hrel
    clear c0 c1 hb0 h31 h33 HDP HM HN
    obtain ⟨g1, hD1, _⟩ := hMt.ex
    have c1 := hD1.cd
    obtain ⟨R2, o2, cc, p1, p2, p3, p4, p5⟩ := (HP.out.keep hX).ex
    have he := hI.e
    simp only at he
    obtain ⟨he1, he2⟩ := he
    have hdt := hI.d
    simp only at hdt
    have HI := Lib.hid hI
    have HA := Lib.hid hA
    have HMt := Lib.hid hMt
    have HX := Lib.hid hX
    have HP5 := Lib.hid p5
    obtain ⟨dp, hdp⟩ : ∃ dp, t.dp = dp := ⟨_, rfl⟩
    rw [hdp] at c1 hdt
    have HDP := Lib.hid hdp
    obtain ⟨h31, h33⟩ := hdt
    have hccI : (9 : Int) ≤ (cc : Int) := by omega
    clear hI hA hMt hX p5 hdp hD1
    by_cases hgo : 0 < dp
    · obtain ⟨j, rfl⟩ : ∃ j : Nat, dp = (j : Int) := ⟨dp.toNat, by omega⟩
      have hrun : runA (t, e) = true := by unfold runA; simp only; rw [HDP.out]; exact decide_eq_true hgo
      obtain ⟨hI2, hlt⟩ := HI.out.step hrun
      have hA2 : whl runA fA (s, 0) (fA (t, e)) = A0 := by rw [← whl_go hrun]; exact HA.out
      have hf : fA (t, e) = (shR 40 (pw j) t, e + (pw j : Nat)) := by
        unfold fA; simp only; rw [HDP.out, Int.toNat_natCast, shR_stop (by have := pw_in j; omega)]
      rw [hf] at hI2 hA2 hlt
      have hpj := pw_in j
      have hHL := fun W (hW : ∃ q, W = wr.drewN q) => shift_right b (pw j) t ng W HI.out.nr hpj.1 (by omega) (by rw [HDP.out]; omega) (by obtain ⟨q, rfl⟩ := hW; exact HMt.out.drew q)
      have hBl : ∀ W, (∃ q, W = wr.drewN q) → Below b w W := fun W hW => by obtain ⟨q, rfl⟩ := hW; exact HX.out.trans (below_drewN (Below.refl _ _) _)
      have hP5 := HP5.out j
      obtain ⟨t2, ht2⟩ : ∃ t2, shR 40 (pw j) t = t2 := ⟨_, rfl⟩
      rw [ht2] at hI2 hA2 hlt hHL
      obtain ⟨k, hk⟩ : ∃ k, pw j = k := ⟨_, rfl⟩
      rw [hk] at hI2 hA2 hHL hP5 hpj
      have hkI : (k : Int) ≤ 27 := by omega
      have hkI1 : (1 : Int) ≤ (k : Int) := by omega
      obtain ⟨mk, hmk⟩ : ∃ mk : Int, -(k : Int) = mk := ⟨_, rfl⟩
      obtain ⟨ek, hek⟩ : ∃ ek : Int, e + (k : Int) = ek := ⟨_, rfl⟩
      rw [hmk] at hHL
      rw [hek] at hI2 hA2
      have HMK := Lib.hid hmk
      have HHL := Lib.hid hHL
      have HBL := Lib.hid hBl
      have HI2 := Lib.hid hI2
      have HA2 := Lib.hid hA2
      have HLT := Lib.hid hlt
      have HK := Lib.hid hk
      clear hrun hI2 hA2 hf hHL hBl hk ht2 hlt hpj hmk
      have HEW := Lib.hid (show IntKind.i64.wrap (e + (k : Int)) = ek by rw [IntWalk.i64_in _ (by omega)]; exact hek)
      clear hek
      by_cases h9 : 9 ≤ j
      · have h9I : (9 : Int) ≤ (j : Int) := by omega
        have hk27 : k = 27 := by rw [← HK.out]; unfold pw; rw [if_pos h9]
        subst hk27
        obtain rfl : mk = -27 := by have := HMK.out; omega
        clear hP5 hkI hkI1
        go_wp2_with fail
        go_quiet (fail)
        go_wp2_with fail
        refine Calls.mono (HHL.out _ ?_) ?_
        · first | exact ⟨_, rfl⟩ | exact drew_2
        rintro e9 w9 ⟨rfl, hDM, hb9⟩
        have HD9 := Lib.hid hDM
        have HX9 := Lib.hid ((HBL.out _ (by first | exact ⟨_, rfl⟩ | exact drew_2)).trans hb9)
        clear hDM hb9
        have hEW : IntKind.i64.wrap (e + 27) = ek := HEW.out
        go_wp2_with fail
        go_roundg (wh t2)
        case measure => exact HLT.out
        case rel => exact ⟨t2, ek, rfl, rfl, HI2.out, HA2.out, HD9.out, HX9.out⟩
      · have h9I : (j : Int) < 9 := by omega
        have cj := hP5 (by omega)
        have hkw := Lib.hid (show IntKind.i64.wrap (-(k : Int)) = mk by rw [IntWalk.i64_in _ (by omega)]; exact HMK.out)
        clear hP5
        go_wp2_with fail
        go_quiet (fail)
        have c1d : (wr.drewN nq).cell? ⟨b, 801, none⟩ = some (.int .i64 (j : Int)) := by simpa using c1
        have cjd : (wr.drewN nq).cell? ⟨R2, o2 + j, none⟩ = some (.int .i64 (k : Int)) := by simpa using cj
        have p3d : (wr.drewN nq).cell? ⟨17, 0, none⟩ = some (.slice (some ⟨R2, o2, none⟩) 9 cc) := by simpa using p3
        go_wp2_with fail
        go_quiet (fail)
        clear cj c1d cjd p3d
        have hkw := hkw.out
        go_wp2_with fail
        refine Calls.mono (HHL.out _ ?_) ?_
        · first | exact ⟨_, rfl⟩ | exact drew_2
        rintro e9 w9 ⟨rfl, hDM, hb9⟩
        have HD9 := Lib.hid hDM
        have HX9 := Lib.hid ((HBL.out _ (by first | exact ⟨_, rfl⟩ | exact drew_2)).trans hb9)
        clear hDM hb9 hkw
        have hEW := HEW.out
        go_wp2_with fail
        go_roundg (wh t2)
        case measure => exact HLT.out
        case rel => exact ⟨t2, ek, rfl, rfl, HI2.out, HA2.out, HD9.out, HX9.out⟩
    · have hd0 : dp ≤ 0 := by omega
      have hrun : runA (t, e) = false := by unfold runA; simp only; rw [HDP.out]; exact decide_eq_false hgo
      have hA2 : (t, e) = A0 := by rw [← HA.out, whl_stop hrun]
      have HB1 := Lib.hid (show whl runB fB (s, 0) (t, e) = B0 by rw [hA2]; exact HB0.out)
      have HIB := Lib.hid (show IB e (t, e) from IB.start HI.out.nr (by rw [HDP.out]; omega))
      clear hrun hA2 p1 p2 p3 p4 HP5 hccI HI HA HA0 HB0
      clear R2 o2 cc
      go_upto_block 2 with fail
      go_cut [6] from 61 to 102 (fun s6 wx => ∃ (t3 : DS) (e2 : Int), s6 = .int .i64 e2 ∧ IB e (t3, e2) ∧ runB (t3, e2) = false ∧ (t3, e2) = B0 ∧ DM wx b t3 ng ∧ Below b w wx)
      case first =>
        go_wp2_with fail
        go_loopg [6] (p40 - fw t) (fun gk s6 wz => ∃ (t3 : DS) (e2 : Int), gk = p40 - fw t3 ∧ s6 = .int .i64 e2 ∧ IB e (t3, e2) ∧ whl runB fB (s, 0) (t3, e2) = B0 ∧ DM wz b t3 ng ∧ Below b w wz)
        case atStart => exact ⟨t, e, rfl, rfl, HIB.out, HB1.out, HMt.out, HX.out⟩
        case round =>
          obtain ⟨t3, e2, rfl, rfl, hI, hA, hMz, hXz⟩ := hrel
          clear c1 h31 h33 hd0 hgo HDP HIB HB1 HMt HX
          obtain ⟨g1, hD1, hg1⟩ := hMz.ex
          have c1 := hD1.cd
          have c9 := hD1.c 0 (by omega)
          have hg0 := hg1 0 (by have := hI.nr.n1; simp only at this; omega)
          obtain ⟨x, hx⟩ : ∃ x, g1 0 = x := ⟨_, rfl⟩
          rw [hx] at c9 hg0
          obtain ⟨R2, o2, cc, p1, p2, p3, p4, p5⟩ := (HP.out.keep hXz).ex
          have hee := hI.e
          simp only at hee
          obtain ⟨he3, he4⟩ := hee
          have hdt := hI.d
          simp only at hdt
          have HI := Lib.hid hI
          have HA := Lib.hid hA
          have HMz := Lib.hid hMz
          have HXz := Lib.hid hXz
          have HP5 := Lib.hid p5
          obtain ⟨dp, hdp⟩ : ∃ dp, t3.dp = dp := ⟨_, rfl⟩
          rw [hdp] at c1 hdt
          have HDP := Lib.hid hdp
          obtain ⟨h31, h33⟩ := hdt
          have hccI : (9 : Int) ≤ (cc : Int) := by omega
          have HG0 := Lib.hid hg0
          clear hI hA hMz hXz p5 hdp hD1 hg1 hx hg0
          have hrunE : runB (t3, e2) = (decide (dp < 0) || (decide (dp = 0) && decide (dg t3.V t3.n 0 < 5))) := by unfold runB; simp only; rw [HDP.out]
          by_cases hgo : runB (t3, e2) = true
          · have hway : dp < 0 ∨ (dp = 0 ∧ x < 53) := by
              rw [hrunE] at hgo
              simp only [Bool.or_eq_true, Bool.and_eq_true, decide_eq_true_eq] at hgo
              have := HG0.out
              omega
            obtain ⟨j, hj⟩ : ∃ j : Nat, -dp = (j : Int) := ⟨(-dp).toNat, by omega⟩
            obtain ⟨hI2, hp4, hlt⟩ := HI.out.step hgo
            have hA2 : whl runB fB (s, 0) (fB (t3, e2)) = B0 := by rw [← whl_go hgo]; exact HA.out
            have hf : fB (t3, e2) = (shL 40 (pw j) t3, e2 - (pw j : Nat)) := by
              unfold fB; simp only; rw [HDP.out, hj, Int.toNat_natCast, shL_stop (by have := pw_in j; omega)]
            rw [hf] at hI2 hA2 hlt
            have hpj := pw_in j
            have hBl : ∀ W, (∃ q, W = wr.drewN q) → Below b w W := fun W hW => by obtain ⟨q, rfl⟩ := hW; exact HXz.out.trans (below_drewN (Below.refl _ _) _)
            have hHL := fun W (hW : ∃ q, W = wr.drewN q) => shift_left b (pw j) t3 ng W HI.out.nr hpj.1 (by omega) (by rw [HDP.out]; omega) (by obtain ⟨q, rfl⟩ := hW; exact HMz.out.drew q) (HC.out.keep (hBl W hW))
            have hP5 := HP5.out j
            obtain ⟨t2, ht2⟩ : ∃ t2, shL 40 (pw j) t3 = t2 := ⟨_, rfl⟩
            rw [ht2] at hI2 hA2 hlt hHL
            have hlt2 : p40 - fw t2 < p40 - fw t3 := by simp only at hlt hp4; omega
            obtain ⟨k, hk⟩ : ∃ k, pw j = k := ⟨_, rfl⟩
            rw [hk] at hI2 hA2 hHL hP5 hpj
            have hkI : (k : Int) ≤ 27 := by omega
            have hkI1 : (1 : Int) ≤ (k : Int) := by omega
            obtain ⟨ek, hek⟩ : ∃ ek : Int, e2 - (k : Int) = ek := ⟨_, rfl⟩
            rw [hek] at hI2 hA2
            have HHL := Lib.hid hHL
            have HBL := Lib.hid hBl
            have HI2 := Lib.hid hI2
            have HA2 := Lib.hid hA2
            have HLT := Lib.hid hlt2
            have HK := Lib.hid hk
            clear hI2 hA2 hf hHL hBl hk ht2 hlt hpj hrunE hgo hlt2 hp4
            have HEW := Lib.hid (show IntKind.i64.wrap (e2 - (k : Int)) = ek by rw [IntWalk.i64_in _ (by omega)]; exact hek)
            have HNG := Lib.hid (show IntKind.i64.wrap (-dp) = (j : Int) by rw [IntWalk.i64_in _ (by omega)]; exact hj)
            clear hek hj
            rcases hway with hd | ⟨hd, hx53⟩
            · by_cases h9 : 9 ≤ j
              · have h9I : (9 : Int) ≤ (j : Int) := by omega
                have hk27 : k = 27 := by rw [← HK.out]; unfold pw; rw [if_pos h9]
                subst hk27
                clear hP5 hkI hkI1
                have hng := HNG.out
                go_wp2_with fail
                go_quiet (fail)
                clear hng
                go_wp2_with fail
                refine Calls.mono (HHL.out _ ?_) ?_
                · first | exact ⟨_, rfl⟩ | exact drew_2
                rintro e9 w9 ⟨rfl, hDM, hb9⟩
                have HD9 := Lib.hid hDM
                have HX9 := Lib.hid ((HBL.out _ (by first | exact ⟨_, rfl⟩ | exact drew_2)).trans hb9)
                clear hDM hb9
                have hEW : IntKind.i64.wrap (e2 - 27) = ek := HEW.out
                go_wp2_with fail
                go_roundg (p40 - fw t2)
                case measure => exact HLT.out
                case rel => exact ⟨t2, ek, rfl, rfl, HI2.out, HA2.out, HD9.out, HX9.out⟩
              · have h9I : (j : Int) < 9 := by omega
                have cj := hP5 (by omega)
                clear hP5
                have hng := HNG.out
                go_wp2_with fail
                go_quiet (fail)
                have c1d : (wr.drewN nq).cell? ⟨b, 801, none⟩ = some (.int .i64 dp) := by simpa using c1
                have cjd : (wr.drewN nq).cell? ⟨R2, o2 + j, none⟩ = some (.int .i64 (k : Int)) := by simpa using cj
                have p3d : (wr.drewN nq).cell? ⟨17, 0, none⟩ = some (.slice (some ⟨R2, o2, none⟩) 9 cc) := by simpa using p3
                go_wp2_with fail
                go_quiet (fail)
                clear cj c1d cjd p3d hng
                go_wp2_with fail
                refine Calls.mono (HHL.out _ ?_) ?_
                · first | exact ⟨_, rfl⟩ | exact drew_2
                rintro e9 w9 ⟨rfl, hDM, hb9⟩
                have HD9 := Lib.hid hDM
                have HX9 := Lib.hid ((HBL.out _ (by first | exact ⟨_, rfl⟩ | exact drew_2)).trans hb9)
                clear hDM hb9
                have hEW := HEW.out
                go_wp2_with fail
                go_roundg (p40 - fw t2)
                case measure => exact HLT.out
                case rel => exact ⟨t2, ek, rfl, rfl, HI2.out, HA2.out, HD9.out, HX9.out⟩
            · subst hd
              have hx53I : (x : Int) < 53 := by omega
              obtain rfl : j = 0 := by
                have := HNG.out
                rw [IntWalk.i64_in _ (by omega)] at this
                omega
              have cj : wr.cell? ⟨R2, o2, none⟩ = some (.int .i64 (k : Int)) := hP5 (by omega)
              obtain rfl : k = 1 := by rw [← HK.out]; decide
              clear hP5 hkI hkI1
              go_wp2_with fail
              go_quiet (fail)
              have c1d : (wr.drewN nq).cell? ⟨b, 801, none⟩ = some (.int .i64 0) := by simpa using c1
              have cjd : (wr.drewN nq).cell? ⟨R2, o2, none⟩ = some (.int .i64 1) := by simpa using cj
              have p3d : (wr.drewN nq).cell? ⟨17, 0, none⟩ = some (.slice (some ⟨R2, o2, none⟩) 9 cc) := by simpa using p3
              go_wp2_with fail
              go_quiet (fail)
              clear cj c1d cjd p3d
              go_wp2_with fail
              refine Calls.mono (HHL.out _ ?_) ?_
              · first | exact ⟨_, rfl⟩ | exact drew_2
              rintro e9 w9 ⟨rfl, hDM, hb9⟩
              have HD9 := Lib.hid hDM
              have HX9 := Lib.hid ((HBL.out _ (by first | exact ⟨_, rfl⟩ | exact drew_2)).trans hb9)
              clear hDM hb9
              have hEW : IntKind.i64.wrap (e2 - 1) = ek := HEW.out
              go_wp2_with fail
              go_roundg (p40 - fw t2)
              case measure => exact HLT.out
              case rel => exact ⟨t2, ek, rfl, rfl, HI2.out, HA2.out, HD9.out, HX9.out⟩
          · have hrun : runB (t3, e2) = false := by simpa using hgo
            have HE := Lib.hid (show (t3, e2) = B0 by rw [← HA.out, whl_stop hrun])
            have hway : 0 < dp ∨ (dp = 0 ∧ ¬ x < 53) := by
              rw [hrunE] at hgo
              simp only [Bool.or_eq_true, Bool.and_eq_true, decide_eq_true_eq] at hgo
              have := HG0.out
              omega
            have HRN := Lib.hid hrun
            clear hrun hgo hrunE
            rcases hway with hd | ⟨hd, hx53⟩
            · have hd1 : ¬ dp < 0 := by omega
              have hd2 : ¬ dp = 0 := by omega
              go_wp2_with fail
              go_meet
              exact ⟨t3, e2, rfl, HI.out, HRN.out, HE.out, HMz.out, HXz.out⟩
            · subst hd
              have hx53I : ¬ (x : Int) < 53 := by omega
              go_wp2_with fail
              go_meet
              exact ⟨t3, e2, rfl, HI.out, HRN.out, HE.out, HMz.out, HXz.out⟩
      case rest =>
        obtain ⟨t3, e2, rfl, hI, hrn, hE, hM3, hX3⟩ := hcut
        clear c1 h31 h33 hd0 hgo HDP HIB HB1 HMt HX hrn HP
        obtain ⟨k1, k2, k3, k4⟩ := HF.out.keep hX3
        obtain ⟨n1, n2, n3, n4⟩ := hI
        simp only at n1 n2 n3 n4
        obtain ⟨E1, hE1⟩ : ∃ E1 : Int, e2 - 1 = E1 := ⟨_, rfl⟩
        have HE := Lib.hid hE
        have HM3 := Lib.hid hM3
        have HX3 := Lib.hid hX3
        have HN3 := Lib.hid n1
        have hE1a : E1 ≤ 1056 := by omega
        have hE1b : -1358 ≤ E1 := by omega
        obtain ⟨d31, d33⟩ := n2
        have HW1 := Lib.hid (show IntKind.i64.wrap (e2 - 1) = E1 by rw [IntWalk.i64_in _ (by omega)]; exact hE1)
        have HFE := Lib.hid (show fbE (t3, e2) = if E1 < -1022 then (shR 40 (-1022 - E1).toNat t3, -1022) else (t3, E1) by unfold fbE; simp only [hE1])
        clear hE hM3 hX3 n1 n3 n4 he1 he2 hE1
        have hw1 := HW1.out
        go_upto_if 111 with fail
        clear hw1
        go_cut [6, 10] from 111 to 125 (fun s6 s10 wx => ∃ (t4 : DS) (e4 : Int), s6 = .int .i64 e4 ∧ fbE B0 = (t4, e4) ∧ Nrm t4 ∧ -40000 ≤ t4.dp ∧ t4.dp ≤ 19 ∧ -1022 ≤ e4 ∧ e4 ≤ 1056 ∧ DM wx b t4 ng ∧ Below b w wx)
        case first =>
          by_cases hden : E1 < -1022
          · obtain ⟨k, hk⟩ : ∃ k : Nat, -1022 - E1 = (k : Int) := ⟨(-1022 - E1).toNat, by omega⟩
            have hf : fbE (t3, e2) = (shR 40 k t3, -1022) := by rw [HFE.out, if_pos hden, hk, Int.toNat_natCast]
            have hsn := shR_nrm 40 k t3 HN3.out (by omega)
            have hHL := shift_right b k t3 ng wc HN3.out (by omega) (by omega) ⟨by omega, by omega⟩ HM3.out
            obtain ⟨mk, hmk⟩ : ∃ mk : Int, -(k : Int) = mk := ⟨_, rfl⟩
            rw [hmk] at hHL
            have HHL := Lib.hid hHL
            have HSN := Lib.hid hsn
            have HFE2 := Lib.hid (show fbE B0 = (shR 40 k t3, -1022) by rw [← HE.out]; exact hf)
            have H1 := Lib.hid (show IntKind.i64.wrap (-1022 - E1) = (k : Int) by rw [IntWalk.i64_in _ (by omega)]; exact hk)
            have H2 := Lib.hid (show IntKind.i64.wrap (-(k : Int)) = mk by rw [IntWalk.i64_in _ (by omega)]; exact hmk)
            have H3 := Lib.hid (show IntKind.i64.wrap (E1 + (k : Int)) = -1022 by rw [IntWalk.i64_in _ (by omega)]; omega)
            have hkI : (k : Int) ≤ 400 := by omega
            have hkI1 : (1 : Int) ≤ (k : Int) := by omega
            clear hf hsn hHL hk hmk
            go_upto_region 27 with fail
            have h1 := H1.out
            go_upto_region 28 with fail
            clear h1
            have h2 := H2.out
            go_wp2_with fail
            refine HHL.out.mono ?_
            rintro e9 w9 ⟨rfl, hDM, hb9⟩
            have HD9 := Lib.hid hDM
            have HX9 := Lib.hid (HX3.out.trans hb9)
            clear hDM hb9 h2
            have h3 := H3.out
            go_wp2_with fail
            go_meet
            obtain ⟨q1, q2, q3⟩ := HSN.out
            exact ⟨_, -1022, rfl, HFE2.out, q1, by omega, by omega, by omega, by omega, HD9.out, HX9.out⟩
          · have HFE2 := Lib.hid (show fbE B0 = (t3, E1) by rw [← HE.out, HFE.out, if_neg hden])
            go_wp2_with fail
            go_meet
            exact ⟨t3, E1, rfl, HFE2.out, HN3.out, by omega, by omega, by omega, by omega, HM3.out, HX3.out⟩
        case rest =>
          obtain ⟨t4, e4, rfl, hFE, hN4, hd1, hd2, he1, he2, hM4, hX4⟩ := hcut
          clear k1 k2 k3 k4 HE HM3 HX3 HN3 hE1a hE1b d31 d33 HW1 HFE
          obtain ⟨k1, k2, k3, k4⟩ := HF.out.keep hX4
          have HRR := Lib.hid (show fbX (t4, e4) ng = R by rw [← hFE]; exact HR.out)
          obtain ⟨G, hG⟩ : ∃ G : Nat, e4 + 1023 = (G : Int) := ⟨(e4 + 1023).toNat, by omega⟩
          have hG1 : (1 : Int) ≤ (G : Int) := by omega
          have hG2 : (G : Int) ≤ 2079 := by omega
          have HG := Lib.hid (show IntKind.i64.wrap (e4 - -1023) = (G : Int) by rw [IntWalk.i64_in _ (by omega)]; omega)
          have HG2 := Lib.hid (show IntKind.i64.wrap (e4 + 1023) = (G : Int) by rw [IntWalk.i64_in _ (by omega)]; omega)
          have HG' := Lib.hid hG
          have HM4 := Lib.hid hM4
          have HX4 := Lib.hid hX4
          have HN4 := Lib.hid hN4
          obtain ⟨g4, hD4, _⟩ := hM4.ex
          have cg4 := hD4.cg
          clear hFE hN4 hM4 hX4 hG hD4
          by_cases hov : (2047 : Int) ≤ (G : Int)
          · have hgE : e4 = (G : Int) - 1023 := by have := HG'.out; omega
            have HRE := Lib.hid (show R = (Ieee.double.word ng fIN, true) by rw [← HRR.out]; unfold fbX; simp only; rw [if_pos (by omega)])
            clear hgE
            have hg := HG.out
            have hg2 := HG2.out
            have hovB : decide ((2047 : Int) ≤ (G : Int)) = true := decide_eq_true hov
            go_wp2_with fail
            go_quiet (fail)
            clear hg hg2
            go_wp2_with fail
            go_step3
            refine (show J1 _ _ from ?_)
            refine HJ1.out _ _ ?_
            obtain ⟨W5, hW5⟩ : ∃ W5, wc.drewN nq = W5 := ⟨_, rfl⟩
            rw [hW5]
            have HX5 := Lib.hid (show Below b w W5 by rw [← hW5]; exact HX4.out.trans (below_drewN (Below.refl _ _) _))
            have cg5 : W5.cell? ⟨b, 802, none⟩ = some (.bool ng) := by rw [← hW5]; simpa using cg4
            clear hW5
            obtain ⟨l1, l2, l3, l4⟩ := HF.out.keep HX5.out
            go_wp2_with fail
            go_quiet (fail)
            clear l1 l2 l3 l4
            go_wp2_with fail
            go_step3
            obtain ⟨W6, hW6⟩ : ∃ W6, W5.drewN nq = W6 := ⟨_, rfl⟩
            rw [hW6]
            have HX6 := Lib.hid (show Below b w W6 by rw [← hW6]; exact HX5.out.trans (below_drewN (Below.refl _ _) _))
            have cg6 : W6.cell? ⟨b, 802, none⟩ = some (.bool ng) := by rw [← hW6]; simpa using cg5
            clear hW6
            obtain ⟨l1, l2, l3, l4⟩ := HF.out.keep HX6.out
            have HZ6 := Lib.hid (show bits .or .u64 9218868437227405312 9223372036854775808 = ((Ieee.double.word true fIN : Nat) : Int) from or_sign 9218868437227405312 true (by omega))
            have ha : bits .and .u64 0 4503599627370495 = 0 := by rfl
            have he : bits .and .i64 2047 2047 = 2047 := by rfl
            have ho : bits .or .u64 0 9218868437227405312 = 9218868437227405312 := by rfl
            go_wp2_with fail
            go_quiet (fail)
            have r1 : (W6.drewN nq).cell? ⟨F, 0, none⟩ = some (.int .u64 52) := by simpa using l1
            have r2 : (W6.drewN nq).cell? ⟨F, 1, none⟩ = some (.int .u64 11) := by simpa using l2
            have r3 : (W6.drewN nq).cell? ⟨F, 2, none⟩ = some (.int .i64 (-1023)) := by simpa using l3
            have cg7 : (W6.drewN nq).cell? ⟨b, 802, none⟩ = some (.bool ng) := by simpa using cg6
            clear ha he ho
            cases ng with
            | true =>
              have hz6 := HZ6.out
              go_wp2_with fail
              go_quiet (fail)
              go_wp2_with fail
              try rw [onGo_ret]
              rw [Exit.noGoto_ret]
              go_ret2
              exact ⟨by rw [HRE.out]; rfl, by first | exact (HX6.out.trans (below_drewN (Below.refl _ _) _)).trans (below_drewN (Below.refl _ _) _) | exact HX6.out.trans (below_drewN (Below.refl _ _) _)⟩
            | false =>
              go_wp2_with fail
              try rw [onGo_ret]
              rw [Exit.noGoto_ret]
              go_ret2
              exact ⟨by rw [HRE.out]; rfl, HX6.out.trans (below_drewN (Below.refl _ _) _)⟩
          · have hlow : e4 < 1024 := by have := HG'.out; omega
            have hgE : e4 = (G : Int) - 1023 := by have := HG'.out; omega
            have hHL := fun W (hW : ∃ q, W = wc.drewN q) => shift_left b 53 t4 ng W HN4.out (by omega) (by omega) ⟨by omega, by omega⟩ (by obtain ⟨q, rfl⟩ := hW; exact HM4.out.drew q) (HC.out.keep (by obtain ⟨q, rfl⟩ := hW; exact HX4.out.trans (below_drewN (Below.refl _ _) _)))
            rw [shL_stop (by omega)] at hHL
            have HN5 := Lib.hid (lsh_nrm (k := 53) HN4.out (by omega) (by omega)).1
            have hdd := lsh_dp (k := 53) HN4.out (by omega) (by omega)
            obtain ⟨t5, ht5⟩ : ∃ t5, lsh 53 t4 = t5 := ⟨_, rfl⟩
            rw [ht5] at hHL HN5 hdd
            obtain ⟨m, hm⟩ : ∃ m, rin t5 = m := ⟨_, rfl⟩
            have hRM := fun W (hW : DM W b t5 ng) => rin_any b t5 ng W HN5.out.n8 HN5.out.hi ⟨by omega, by omega⟩ hW
            rw [hm] at hRM
            have hmlt : m < 18446744073709551616 := by rw [← hm]; unfold rin; split; { omega }; { exact Nat.mod_lt _ (by decide) }
            have HRX := Lib.hid (show R = if m = 9007199254740992 then (if 1023 ≤ e4 then (Ieee.double.word ng fIN, true) else (Ieee.double.word ng ((e4 + 1024).toNat * 4503599627370496), false)) else if m / 4503599627370496 % 2 = 0 then (Ieee.double.word ng (m % 4503599627370496), false) else (Ieee.double.word ng (m % 4503599627370496 + (e4 + 1023).toNat * 4503599627370496), false) by
              rw [← HRR.out]; unfold fbX; simp only [ht5, hm]; rw [if_neg (by omega)])
            have HHL := Lib.hid hHL
            have HRM := Lib.hid hRM
            have HMLT := Lib.hid hmlt
            have HGE := Lib.hid hgE
            clear hHL hRM hmlt hgE hdd ht5 hm hlow
            have hg := HG.out
            have hg2 := HG2.out
            have hovB : decide ((2047 : Int) ≤ (G : Int)) = false := decide_eq_false hov
            go_wp2_with fail
            go_quiet (fail)
            clear hg hg2
            have r1 : (wc.drewN nq).cell? ⟨F, 0, none⟩ = some (.int .u64 52) := by simpa using k1
            go_wp2_with fail
            refine Calls.mono (HHL.out _ ?_) ?_
            · exact ⟨_, rfl⟩
            rintro e9 w9 ⟨rfl, hDM, hb9⟩
            have HD9 := Lib.hid hDM
            have HX9 := Lib.hid ((HX4.out.trans (below_drewN (Below.refl _ _) _)).trans hb9)
            obtain ⟨g5, hD5, _⟩ := hDM.ex
            have cg5 := hD5.cg
            clear hDM hb9 r1 k1 k2 k3 k4 hD5 cg4
            obtain ⟨k1, k2, k3, k4⟩ := HF.out.keep HX9.out
            go_wp2_with fail
            refine (HRM.out _ HD9.out).mono ?_
            rintro e8 w8 ⟨rfl, rfl⟩
            by_cases hm53 : m = 9007199254740992
            · subst hm53
              have HRY := Lib.hid (show R = if 1023 ≤ e4 then (Ieee.double.word ng fIN, true) else (Ieee.double.word ng ((e4 + 1024).toNat * 4503599627370496), false) by rw [HRX.out, if_pos rfl])
              obtain ⟨E, hE⟩ : ∃ E : Nat, G + 1 = E := ⟨_, rfl⟩
              obtain ⟨e5, he5⟩ : ∃ e5 : Int, e4 + 1 = e5 := ⟨_, rfl⟩
              have H1 := Lib.hid (show IntKind.i64.wrap (e4 + 1) = e5 by rw [IntWalk.i64_in _ (by omega)]; exact he5)
              have H2 := Lib.hid (show IntKind.i64.wrap (e5 - -1023) = (E : Int) by have := HGE.out; rw [IntWalk.i64_in _ (by omega)]; omega)
              have H3 := Lib.hid (show IntKind.i64.wrap (e5 + 1023) = (E : Int) by have := HGE.out; rw [IntWalk.i64_in _ (by omega)]; omega)
              have hEI : (E : Int) ≤ 2047 := by omega
              have hEI1 : (1 : Int) ≤ (E : Int) := by omega
              have HEG := Lib.hid (show e4 + 1024 = (E : Int) by have := HGE.out; omega)
              clear hE he5
              go_upto_region 35 with fail
              have h1 := H1.out
              go_wp2_with fail
              clear h1
              have h2 := H2.out
              have h3 := H3.out
              by_cases hov2 : (2047 : Int) ≤ (E : Int)
              · have hov2B : decide ((2047 : Int) ≤ (E : Int)) = true := decide_eq_true hov2
                have HRE := Lib.hid (show R = (Ieee.double.word ng fIN, true) by have := HEG.out; rw [HRY.out, if_pos (by omega)])
                go_quiet (fail)
                clear h2 h3
                go_wp2_with fail
                go_step3
                refine (show J1 _ _ from ?_)
                refine HJ1.out _ _ ?_
                obtain ⟨W5, hW5⟩ : ∃ W5, w9.drewN nq = W5 := ⟨_, rfl⟩
                rw [hW5]
                have HX5 := Lib.hid (show Below b w W5 by rw [← hW5]; exact HX9.out.trans (below_drewN (Below.refl _ _) _))
                have cg5 : W5.cell? ⟨b, 802, none⟩ = some (.bool ng) := by rw [← hW5]; simpa using cg5
                clear hW5
                obtain ⟨l1, l2, l3, l4⟩ := HF.out.keep HX5.out
                go_wp2_with fail
                go_quiet (fail)
                clear l1 l2 l3 l4
                go_wp2_with fail
                go_step3
                obtain ⟨W6, hW6⟩ : ∃ W6, W5.drewN nq = W6 := ⟨_, rfl⟩
                rw [hW6]
                have HX6 := Lib.hid (show Below b w W6 by rw [← hW6]; exact HX5.out.trans (below_drewN (Below.refl _ _) _))
                have cg6 : W6.cell? ⟨b, 802, none⟩ = some (.bool ng) := by rw [← hW6]; simpa using cg5
                clear hW6
                obtain ⟨l1, l2, l3, l4⟩ := HF.out.keep HX6.out
                have HZ6 := Lib.hid (show bits .or .u64 9218868437227405312 9223372036854775808 = ((Ieee.double.word true fIN : Nat) : Int) from or_sign 9218868437227405312 true (by omega))
                have ha : bits .and .u64 0 4503599627370495 = 0 := by rfl
                have he : bits .and .i64 2047 2047 = 2047 := by rfl
                have ho : bits .or .u64 0 9218868437227405312 = 9218868437227405312 := by rfl
                go_wp2_with fail
                go_quiet (fail)
                have r1 : (W6.drewN nq).cell? ⟨F, 0, none⟩ = some (.int .u64 52) := by simpa using l1
                have r2 : (W6.drewN nq).cell? ⟨F, 1, none⟩ = some (.int .u64 11) := by simpa using l2
                have r3 : (W6.drewN nq).cell? ⟨F, 2, none⟩ = some (.int .i64 (-1023)) := by simpa using l3
                have cg7 : (W6.drewN nq).cell? ⟨b, 802, none⟩ = some (.bool ng) := by simpa using cg6
                clear ha he ho
                cases ng with
                | true =>
                  have hz6 := HZ6.out
                  go_wp2_with fail
                  go_quiet (fail)
                  go_wp2_with fail
                  try rw [onGo_ret]
                  rw [Exit.noGoto_ret]
                  go_ret2
                  exact ⟨by rw [HRE.out]; rfl, by first | exact (HX6.out.trans (below_drewN (Below.refl _ _) _)).trans (below_drewN (Below.refl _ _) _) | exact HX6.out.trans (below_drewN (Below.refl _ _) _)⟩
                | false =>
                  go_wp2_with fail
                  try rw [onGo_ret]
                  rw [Exit.noGoto_ret]
                  go_ret2
                  exact ⟨by rw [HRE.out]; rfl, HX6.out.trans (below_drewN (Below.refl _ _) _)⟩
              · have hov2B : decide ((2047 : Int) ≤ (E : Int)) = false := decide_eq_false hov2
                have HRE := Lib.hid (show R = (Ieee.double.word ng (E * 4503599627370496), false) by have := HEG.out; rw [HRY.out, if_neg (by omega), this, Int.toNat_natCast])
                go_quiet (fail)
                clear h2 h3
                have r1 : (w9.drewN nq).cell? ⟨F, 0, none⟩ = some (.int .u64 52) := by simpa using k1
                have hq : bits .and .u64 4503599627370496 4503599627370496 = 4503599627370496 := by rfl
                have hE46 : E < 2047 := by omega
                go_wp2_with fail
                go_step3
                refine (show J0 _ _ from ?_)
                refine HJ0.out _ _ ?_
                obtain ⟨W6, hW6⟩ : ∃ W6, w9.drewN nq = W6 := ⟨_, rfl⟩
                rw [hW6]
                have HX6 := Lib.hid (show Below b w W6 by rw [← hW6]; exact HX9.out.trans (below_drewN (Below.refl _ _) _))
                have cg6 : W6.cell? ⟨b, 802, none⟩ = some (.bool ng) := by rw [← hW6]; simpa using cg5
                clear hW6
                obtain ⟨l1, l2, l3, l4⟩ := HF.out.keep HX6.out
                have HO := Lib.hid (show bits .or .u64 0 ((E : Int) * 4503599627370496) = ((E * 4503599627370496 : Nat) : Int) by rw [show ((E : Int) * 4503599627370496) = ((E * 4503599627370496 : Nat) : Int) by rw [Int.natCast_mul]; rfl]; exact (or_exp (f := 0) (by omega) hE46).trans (by rw [Nat.add_zero]))
                have HZ6 := Lib.hid (show bits .or .u64 ((E * 4503599627370496 : Nat) : Int) 9223372036854775808 = ((Ieee.double.word true (E * 4503599627370496) : Nat) : Int) from or_sign (E * 4503599627370496) true (by omega))
                obtain ⟨Z, hZ⟩ : ∃ Z, E * 4503599627370496 = Z := ⟨_, rfl⟩
                rw [hZ] at HO HZ6 HRE
                have hGI : (E : Int) ≤ 2046 := by omega
                clear hZ hq
                have ha : bits .and .u64 4503599627370496 4503599627370495 = 0 := by rfl
                have hx := H2.out
                have hx2 := H3.out
                have he := and_i64 (E := E) (by omega)
                have ho := HO.out
                go_wp2_with fail
                go_quiet (fail)
                have r1 : (W6.drewN nq).cell? ⟨F, 0, none⟩ = some (.int .u64 52) := by simpa using l1
                have r2 : (W6.drewN nq).cell? ⟨F, 1, none⟩ = some (.int .u64 11) := by simpa using l2
                have r3 : (W6.drewN nq).cell? ⟨F, 2, none⟩ = some (.int .i64 (-1023)) := by simpa using l3
                have cg7 : (W6.drewN nq).cell? ⟨b, 802, none⟩ = some (.bool ng) := by simpa using cg6
                clear ha hx hx2 he ho
                cases ng with
                | true =>
                  have hz6 := HZ6.out
                  go_wp2_with fail
                  go_quiet (fail)
                  go_wp2_with fail
                  try rw [onGo_ret]
                  rw [Exit.noGoto_ret]
                  go_ret2
                  exact ⟨by rw [HRE.out]; rfl, by first | exact (HX6.out.trans (below_drewN (Below.refl _ _) _)).trans (below_drewN (Below.refl _ _) _) | exact HX6.out.trans (below_drewN (Below.refl _ _) _)⟩
                | false =>
                  go_wp2_with fail
                  try rw [onGo_ret]
                  rw [Exit.noGoto_ret]
                  go_ret2
                  exact ⟨by rw [HRE.out]; rfl, HX6.out.trans (below_drewN (Below.refl _ _) _)⟩
            · have hm53I : ¬ (m : Int) = 9007199254740992 := by omega
              have hq := and_u52 m HMLT.out
              have ha := and_mask m 52 HMLT.out (by omega)
              rw [show ((2 ^ 52 - 1 : Nat) : Int) = 4503599627370495 from rfl, show (2 : Nat) ^ 52 = 4503599627370496 from rfl] at ha
              have hf := Nat.mod_lt m (show 0 < 4503599627370496 by decide)
              by_cases hz : m / 4503599627370496 % 2 = 0
              · rw [if_pos hz] at hq
                obtain ⟨f, hfe⟩ : ∃ f, m % 4503599627370496 = f := ⟨_, rfl⟩
                have HRE := Lib.hid (show R = (Ieee.double.word ng f, false) by rw [HRX.out, if_neg hm53, if_pos hz, hfe])
                rw [hfe] at ha hf
                have HA := Lib.hid ha
                clear ha hz hm53 hfe
                go_wp2_with fail
                go_step3
                refine (show J0 _ _ from ?_)
                refine HJ0.out _ _ ?_
                obtain ⟨W6, hW6⟩ : ∃ W6, w9 = W6 := ⟨_, rfl⟩
                rw [hW6]
                have HX6 := Lib.hid (show Below b w W6 by rw [← hW6]; exact HX9.out)
                have cg6 : W6.cell? ⟨b, 802, none⟩ = some (.bool ng) := by rw [← hW6]; simpa using cg5
                clear hW6
                obtain ⟨l1, l2, l3, l4⟩ := HF.out.keep HX6.out
                have HO := Lib.hid (show bits .or .u64 (f : Int) 0 = (f : Int) by have := or_exp (E := 0) hf (by omega); rw [Nat.zero_mul, Nat.zero_add] at this; exact this)
                have HZ6 := Lib.hid (show bits .or .u64 (f : Int) 9223372036854775808 = ((Ieee.double.word true f : Nat) : Int) from or_sign f true (by omega))
                clear hf hq
                have ha := HA.out
                have he : bits .and .i64 0 2047 = 0 := by rfl
                have ho := HO.out
                go_wp2_with fail
                go_quiet (fail)
                have r1 : (W6.drewN nq).cell? ⟨F, 0, none⟩ = some (.int .u64 52) := by simpa using l1
                have r2 : (W6.drewN nq).cell? ⟨F, 1, none⟩ = some (.int .u64 11) := by simpa using l2
                have r3 : (W6.drewN nq).cell? ⟨F, 2, none⟩ = some (.int .i64 (-1023)) := by simpa using l3
                have cg7 : (W6.drewN nq).cell? ⟨b, 802, none⟩ = some (.bool ng) := by simpa using cg6
                clear ha he ho
                cases ng with
                | true =>
                  have hz6 := HZ6.out
                  go_wp2_with fail
                  go_quiet (fail)
                  go_wp2_with fail
                  try rw [onGo_ret]
                  rw [Exit.noGoto_ret]
                  go_ret2
                  exact ⟨by rw [HRE.out]; rfl, by first | exact (HX6.out.trans (below_drewN (Below.refl _ _) _)).trans (below_drewN (Below.refl _ _) _) | exact HX6.out.trans (below_drewN (Below.refl _ _) _)⟩
                | false =>
                  go_wp2_with fail
                  try rw [onGo_ret]
                  rw [Exit.noGoto_ret]
                  go_ret2
                  exact ⟨by rw [HRE.out]; rfl, HX6.out.trans (below_drewN (Below.refl _ _) _)⟩
              · rw [if_neg hz] at hq
                have hGE := HGE.out
                obtain ⟨f, hfe⟩ : ∃ f, m % 4503599627370496 = f := ⟨_, rfl⟩
                have HRE := Lib.hid (show R = (Ieee.double.word ng (f + G * 4503599627370496), false) by rw [HRX.out, if_neg hm53, if_neg hz, hfe, hGE, show ((G : Int) - 1023 + 1023).toNat = G by omega])
                rw [hfe] at ha hf
                have HA := Lib.hid ha
                clear ha hz hm53 hfe hGE
                have hE46 : G < 2047 := by omega
                go_wp2_with fail
                go_step3
                refine (show J0 _ _ from ?_)
                refine HJ0.out _ _ ?_
                obtain ⟨W6, hW6⟩ : ∃ W6, w9 = W6 := ⟨_, rfl⟩
                rw [hW6]
                have HX6 := Lib.hid (show Below b w W6 by rw [← hW6]; exact HX9.out)
                have cg6 : W6.cell? ⟨b, 802, none⟩ = some (.bool ng) := by rw [← hW6]; simpa using cg5
                clear hW6
                obtain ⟨l1, l2, l3, l4⟩ := HF.out.keep HX6.out
                have HO := Lib.hid (show bits .or .u64 (f : Int) ((G : Int) * 4503599627370496) = ((f + G * 4503599627370496 : Nat) : Int) by rw [show ((G : Int) * 4503599627370496) = ((G * 4503599627370496 : Nat) : Int) by rw [Int.natCast_mul]; rfl]; exact (or_exp hf hE46).trans (by rw [Nat.add_comm]))
                have HZ6 := Lib.hid (show bits .or .u64 ((f + G * 4503599627370496 : Nat) : Int) 9223372036854775808 = ((Ieee.double.word true (f + G * 4503599627370496) : Nat) : Int) from or_sign (f + G * 4503599627370496) true (by omega))
                obtain ⟨Z, hZ⟩ : ∃ Z, f + G * 4503599627370496 = Z := ⟨_, rfl⟩
                rw [hZ] at HO HZ6 HRE
                have hGI : (G : Int) ≤ 2046 := by omega
                clear hZ hf hq
                have ha := HA.out
                have hx := HG.out
                have hx2 := HG2.out
                have he := and_i64 (E := G) (by omega)
                have ho := HO.out
                go_wp2_with fail
                go_quiet (fail)
                have r1 : (W6.drewN nq).cell? ⟨F, 0, none⟩ = some (.int .u64 52) := by simpa using l1
                have r2 : (W6.drewN nq).cell? ⟨F, 1, none⟩ = some (.int .u64 11) := by simpa using l2
                have r3 : (W6.drewN nq).cell? ⟨F, 2, none⟩ = some (.int .i64 (-1023)) := by simpa using l3
                have cg7 : (W6.drewN nq).cell? ⟨b, 802, none⟩ = some (.bool ng) := by simpa using cg6
                clear ha hx hx2 he ho
                cases ng with
                | true =>
                  have hz6 := HZ6.out
                  go_wp2_with fail
                  go_quiet (fail)
                  go_wp2_with fail
                  try rw [onGo_ret]
                  rw [Exit.noGoto_ret]
                  go_ret2
                  exact ⟨by rw [HRE.out]; rfl, by first | exact (HX6.out.trans (below_drewN (Below.refl _ _) _)).trans (below_drewN (Below.refl _ _) _) | exact HX6.out.trans (below_drewN (Below.refl _ _) _)⟩
                | false =>
                  go_wp2_with fail
                  try rw [onGo_ret]
                  rw [Exit.noGoto_ret]
                  go_ret2
                  exact ⟨by rw [HRE.out]; rfl, HX6.out.trans (below_drewN (Below.refl _ _) _)⟩
end
section
open Go Go.ChangeShapes Go.WideShapes Go.RowKit
set_option linter.unusedVariables false
set_option linter.unusedSimpArgs false
/-- What floatBits answers. -/
noncomputable def fba (s : DS) (ng : Bool) : Nat × Bool :=
  if s.n = 0 then (Ieee.double.word ng 0, false) else if 310 < s.dp then (Ieee.double.word ng fIN, true) else if s.dp < -330 then (Ieee.double.word ng 0, false) else fb s ng
set_option maxRecDepth 100000 in
set_option maxHeartbeats 4000000 in
theorem fba_any (b F : Nat) (s : DS) (ng : Bool) (w : World) (hN : s.n = 0 ∨ Nrm s) (hM : DM w b s ng) (hC : LC w b) (hP : PWT w b) (hF : FI w F b) :
    Calls Tryz.prog 231 #[.pointer (some ⟨b, 0, none⟩), .pointer (some ⟨F, 0, none⟩)] w fun e w' => e = .returned (.tuple #[.int .u64 (((fba s ng).1 : Nat) : Int), .bool (fba s ng).2]) ∧ Below b w w' := by
  by_cases hin : s.n ≠ 0 ∧ ¬ 310 < s.dp ∧ ¬ s.dp < -330
  · obtain ⟨h0, h1, h2⟩ := hin
    have e : fba s ng = fb s ng := by unfold fba; rw [if_neg h0, if_neg h1, if_neg h2]
    rw [e]
    exact fb_any b F s ng w (by rcases hN with h | h; { exact absurd h h0 }; { exact h }) ⟨by omega, by omega⟩ hM hC hP hF
  · have hE : fba s ng = if s.n = 0 then (Ieee.double.word ng 0, false) else if 310 < s.dp then (Ieee.double.word ng fIN, true) else (Ieee.double.word ng 0, false) := by
      unfold fba
      by_cases h0 : s.n = 0
      · rw [if_pos h0, if_pos h0]
      · rw [if_neg h0, if_neg h0]
        by_cases h1 : 310 < s.dp
        · rw [if_pos h1, if_pos h1]
        · rw [if_neg h1, if_neg h1, if_pos (by omega)]
    obtain ⟨R, hR⟩ : ∃ R, fba s ng = R := ⟨_, rfl⟩
    rw [hR] at hE ⊢
    have hway : s.n = 0 ∨ (s.n ≠ 0 ∧ 310 < s.dp) ∨ (s.n ≠ 0 ∧ s.dp ≤ 310 ∧ s.dp < -330) := by omega
    obtain ⟨g, hD, _⟩ := hM.ex
    have c0 := hD.cn
    have c1 := hD.cd
    have cgw := hD.cg
    have HF := Lib.hid hF
    have HXw := Lib.hid (Below.refl b w)
    have k1 := hF.m
    have k2 := hF.e
    have k3 := hF.bs
    obtain ⟨dp, hdp⟩ : ∃ dp, s.dp = dp := ⟨_, rfl⟩
    obtain ⟨n, hn⟩ : ∃ n, s.n = n := ⟨_, rfl⟩
    rw [hdp] at c1 hway hE
    rw [hn] at c0 hway hE
    have HE := Lib.hid hE
    clear hE hR hN hM hC hP hF hD hdp hn hin
    rcases hway with rfl | ⟨h0, h1⟩ | ⟨h0, h1, h2⟩
    · have HRE := Lib.hid (show R = (Ieee.double.word ng 0, false) by rw [HE.out, if_pos rfl])
      clear HE
      go_enter Tryz.func231, Tryz.ntmps231
      go_wp2_with fail
      refine wp_scope_fwd2 (r0 := ?r0) (r1 := ?r1) ?h0 ?h1 ?h
      case h0 => rfl
      case h1 => rfl
      intro J1 J0 hJ1 hJ0
      have HJ1 := Lib.hid hJ1
      have HJ0 := Lib.hid hJ0
      clear hJ1 hJ0
      go_wp2_with fail
      go_step3
      refine (show J0 _ _ from ?_)
      refine HJ0.out _ _ ?_
      obtain ⟨W6, hW6⟩ : ∃ W6, w = W6 := ⟨_, rfl⟩
      rw [hW6]
      have HX6 := Lib.hid (show Below b w W6 by rw [← hW6]; exact HXw.out)
      have cg6 : W6.cell? ⟨b, 802, none⟩ = some (.bool ng) := by rw [← hW6]; simpa using cgw
      clear hW6
      obtain ⟨l1, l2, l3, l4⟩ := HF.out.keep HX6.out
      have HZ6 := Lib.hid (show bits .or .u64 0 9223372036854775808 = ((Ieee.double.word true 0 : Nat) : Int) from or_sign 0 true (by omega))
      have ha : bits .and .u64 0 4503599627370495 = 0 := by rfl
      have he : bits .and .i64 0 2047 = 0 := by rfl
      have ho : bits .or .u64 0 0 = 0 := by rfl
      go_wp2_with fail
      go_quiet (fail)
      have r1 : (W6.drewN nq).cell? ⟨F, 0, none⟩ = some (.int .u64 52) := by simpa using l1
      have r2 : (W6.drewN nq).cell? ⟨F, 1, none⟩ = some (.int .u64 11) := by simpa using l2
      have r3 : (W6.drewN nq).cell? ⟨F, 2, none⟩ = some (.int .i64 (-1023)) := by simpa using l3
      have cg7 : (W6.drewN nq).cell? ⟨b, 802, none⟩ = some (.bool ng) := by simpa using cg6
      clear ha he ho
      cases ng with
      | true =>
        have hz6 := HZ6.out
        go_wp2_with fail
        go_quiet (fail)
        go_wp2_with fail
        try rw [onGo_ret]
        rw [Exit.noGoto_ret]
        go_ret2
        exact ⟨by rw [HRE.out]; rfl, by first | exact (HX6.out.trans (below_drewN (Below.refl _ _) _)).trans (below_drewN (Below.refl _ _) _) | exact HX6.out.trans (below_drewN (Below.refl _ _) _)⟩
      | false =>
        go_wp2_with fail
        try rw [onGo_ret]
        rw [Exit.noGoto_ret]
        go_ret2
        exact ⟨by rw [HRE.out]; rfl, HX6.out.trans (below_drewN (Below.refl _ _) _)⟩
    · have h0I : ((n : Int) == 0) = false := by simp; omega
      have HRE := Lib.hid (show R = (Ieee.double.word ng fIN, true) by rw [HE.out, if_neg h0, if_pos h1])
      clear HE h0
      go_enter Tryz.func231, Tryz.ntmps231
      go_wp2_with fail
      refine wp_scope_fwd2 (r0 := ?r0) (r1 := ?r1) ?h0 ?h1 ?h
      case h0 => rfl
      case h1 => rfl
      intro J1 J0 hJ1 hJ0
      have HJ1 := Lib.hid hJ1
      have HJ0 := Lib.hid hJ0
      clear hJ1 hJ0
      go_wp2_with fail
      go_step3
      refine (show J1 _ _ from ?_)
      refine HJ1.out _ _ ?_
      obtain ⟨W5, hW5⟩ : ∃ W5, w = W5 := ⟨_, rfl⟩
      rw [hW5]
      have HX5 := Lib.hid (show Below b w W5 by rw [← hW5]; exact HXw.out)
      have cg5 : W5.cell? ⟨b, 802, none⟩ = some (.bool ng) := by rw [← hW5]; simpa using cgw
      clear hW5
      obtain ⟨l1, l2, l3, l4⟩ := HF.out.keep HX5.out
      go_wp2_with fail
      go_quiet (fail)
      clear l1 l2 l3 l4
      go_wp2_with fail
      go_step3
      obtain ⟨W6, hW6⟩ : ∃ W6, W5.drewN nq = W6 := ⟨_, rfl⟩
      rw [hW6]
      have HX6 := Lib.hid (show Below b w W6 by rw [← hW6]; exact HX5.out.trans (below_drewN (Below.refl _ _) _))
      have cg6 : W6.cell? ⟨b, 802, none⟩ = some (.bool ng) := by rw [← hW6]; simpa using cg5
      clear hW6
      obtain ⟨l1, l2, l3, l4⟩ := HF.out.keep HX6.out
      have HZ6 := Lib.hid (show bits .or .u64 9218868437227405312 9223372036854775808 = ((Ieee.double.word true fIN : Nat) : Int) from or_sign 9218868437227405312 true (by omega))
      have ha : bits .and .u64 0 4503599627370495 = 0 := by rfl
      have he : bits .and .i64 2047 2047 = 2047 := by rfl
      have ho : bits .or .u64 0 9218868437227405312 = 9218868437227405312 := by rfl
      go_wp2_with fail
      go_quiet (fail)
      have r1 : (W6.drewN nq).cell? ⟨F, 0, none⟩ = some (.int .u64 52) := by simpa using l1
      have r2 : (W6.drewN nq).cell? ⟨F, 1, none⟩ = some (.int .u64 11) := by simpa using l2
      have r3 : (W6.drewN nq).cell? ⟨F, 2, none⟩ = some (.int .i64 (-1023)) := by simpa using l3
      have cg7 : (W6.drewN nq).cell? ⟨b, 802, none⟩ = some (.bool ng) := by simpa using cg6
      clear ha he ho
      cases ng with
      | true =>
        have hz6 := HZ6.out
        go_wp2_with fail
        go_quiet (fail)
        go_wp2_with fail
        try rw [onGo_ret]
        rw [Exit.noGoto_ret]
        go_ret2
        exact ⟨by rw [HRE.out]; rfl, by first | exact (HX6.out.trans (below_drewN (Below.refl _ _) _)).trans (below_drewN (Below.refl _ _) _) | exact HX6.out.trans (below_drewN (Below.refl _ _) _)⟩
      | false =>
        go_wp2_with fail
        try rw [onGo_ret]
        rw [Exit.noGoto_ret]
        go_ret2
        exact ⟨by rw [HRE.out]; rfl, HX6.out.trans (below_drewN (Below.refl _ _) _)⟩
    · have h0I : ((n : Int) == 0) = false := by simp; omega
      have h1I : ¬ 310 < dp := by omega
      have HRE := Lib.hid (show R = (Ieee.double.word ng 0, false) by rw [HE.out, if_neg h0, if_neg h1I])
      clear HE h0 h1
      go_enter Tryz.func231, Tryz.ntmps231
      go_wp2_with fail
      refine wp_scope_fwd2 (r0 := ?r0) (r1 := ?r1) ?h0 ?h1 ?h
      case h0 => rfl
      case h1 => rfl
      intro J1 J0 hJ1 hJ0
      have HJ1 := Lib.hid hJ1
      have HJ0 := Lib.hid hJ0
      clear hJ1 hJ0
      go_wp2_with fail
      go_step3
      refine (show J0 _ _ from ?_)
      refine HJ0.out _ _ ?_
      obtain ⟨W6, hW6⟩ : ∃ W6, w = W6 := ⟨_, rfl⟩
      rw [hW6]
      have HX6 := Lib.hid (show Below b w W6 by rw [← hW6]; exact HXw.out)
      have cg6 : W6.cell? ⟨b, 802, none⟩ = some (.bool ng) := by rw [← hW6]; simpa using cgw
      clear hW6
      obtain ⟨l1, l2, l3, l4⟩ := HF.out.keep HX6.out
      have HZ6 := Lib.hid (show bits .or .u64 0 9223372036854775808 = ((Ieee.double.word true 0 : Nat) : Int) from or_sign 0 true (by omega))
      have ha : bits .and .u64 0 4503599627370495 = 0 := by rfl
      have he : bits .and .i64 0 2047 = 0 := by rfl
      have ho : bits .or .u64 0 0 = 0 := by rfl
      go_wp2_with fail
      go_quiet (fail)
      have r1 : (W6.drewN nq).cell? ⟨F, 0, none⟩ = some (.int .u64 52) := by simpa using l1
      have r2 : (W6.drewN nq).cell? ⟨F, 1, none⟩ = some (.int .u64 11) := by simpa using l2
      have r3 : (W6.drewN nq).cell? ⟨F, 2, none⟩ = some (.int .i64 (-1023)) := by simpa using l3
      have cg7 : (W6.drewN nq).cell? ⟨b, 802, none⟩ = some (.bool ng) := by simpa using cg6
      clear ha he ho
      cases ng with
      | true =>
        have hz6 := HZ6.out
        go_wp2_with fail
        go_quiet (fail)
        go_wp2_with fail
        try rw [onGo_ret]
        rw [Exit.noGoto_ret]
        go_ret2
        exact ⟨by rw [HRE.out]; rfl, by first | exact (HX6.out.trans (below_drewN (Below.refl _ _) _)).trans (below_drewN (Below.refl _ _) _) | exact HX6.out.trans (below_drewN (Below.refl _ _) _)⟩
      | false =>
        go_wp2_with fail
        try rw [onGo_ret]
        rw [Exit.noGoto_ret]
        go_ret2
        exact ⟨by rw [HRE.out]; rfl, HX6.out.trans (below_drewN (Below.refl _ _) _)⟩
end
end Go.Proofs.YtpebnofjcodikaaGreatDoor
