/- real.CmpBig at any float and any number. -/
import Derived.Test.YtpflbnddjclndaaGreatDoorPRlWh
import Derived.Test.YtpflbnddjclndaaGreatDoorPGRlG
import Derived.Test.YtpflbnddjclndaaGreatDoorPGWa
namespace Go.Proofs.YtpflbnddjclndaaGreatDoor
open Go Go.ChangeShapes Go.WideShapes Go.ChangeAt Go.RowKit
set_option linter.unusedVariables false
set_option linter.unusedSimpArgs false
/-- A finite float beside a whole number. -/
def cbZ (a : Nat) (z : Int) : Int := if cmpI (trZ a) z ≠ 0 then cmpI (trZ a) z else if lostB a = true then (if negB a = true then -1 else 1) else 0
def cbV (a : Nat) (n1 : Bool) (xs : List Int) : Int := if (nanB a || !goodB n1 xs) = true then 0 else if infB a = true then (if negB a = true then -1 else 1) else cbZ a (sg n1 (val B18 xs))
def cbB (a : Nat) (n1 : Bool) (xs : List Int) : Bool := !(nanB a || !goodB n1 xs)
theorem cmp_tc (a : Nat) (hn : nanB a = false) (hi : a % fSG ≠ fIN) : cmV a (tcB a) = (if lostB a = true then (if negB a = true then -1 else 1) else 0) ∧ cmB a (tcB a) = true := by
  obtain ⟨t1, t2, t3, t4, t5⟩ := tc_all a hn hi
  obtain ⟨p1, p2⟩ := place_tc a hn hi
  constructor
  · unfold cmV
    rw [if_neg (by rw [hn, t1]; simp)]
    unfold cmpZ
    cases hl : lostB a
    · rw [p1 hl]; simp
    · have h := p2 hl
      cases hg : negB a
      · rw [hg] at h
        simp only [Bool.false_eq_true, if_false] at h
        rw [if_neg (by omega), if_pos h]; rfl
      · rw [hg] at h
        simp only [if_true] at h
        rw [if_pos h]; rfl
  · unfold cmB; rw [hn, t1]; rfl
theorem pat_tc (a : Nat) (hn : nanB a = false) (hi : a % fSG ≠ fIN) : patB (tcB a) = tcB a := by
  obtain ⟨t1, _⟩ := tc_all a hn hi
  unfold patB; rw [t1, if_neg (by decide)]
set_option maxRecDepth 100000 in
set_option maxHeartbeats 4000000 in
theorem cmpBig_any (a : Nat) (ha : a < 18446744073709551616) (n1 : Bool) (u1 : Value) (xs : List Int) (w : World) (hr1 : Rd w u1 xs) (hf1 : Fit xs) :
    Calls Tryz.prog 12 #[.int .u64 (a : Int), .agg #[.bool n1, u1]] w fun e w' => e = .returned (.tuple #[.int .i64 (cbV a n1 xs), .bool (cbB a n1 xs)]) ∧ Below w.heap.size w w' := by
  have HV := Lib.hid (show cbV a n1 xs = if (nanB a || !goodB n1 xs) = true then 0 else if infB a = true then (if negB a = true then -1 else 1) else cbZ a (sg n1 (val B18 xs)) from rfl)
  have HVB := Lib.hid (show cbB a n1 xs = !(nanB a || !goodB n1 xs) from rfl)
  have HNn := Lib.hid (fun W => isNaN_any a W)
  have HNu := Lib.hid (fun W => number_any a W)
  obtain ⟨p, c, rfl, hc, hm, hp⟩ := rd_form hr1
  have hb1 : Below w.heap.size w (w.alloc (.cells #[.bool n1, .slice p xs.length c] 30)) := (Below.refl _ _).alloc (Nat.le_refl _) _
  have HG := Lib.hid (good_any n1 _ xs (w.alloc (.cells #[.bool n1, .slice p xs.length c] 30)) (hr1.keep hb1) hf1)
  have HB1 := Lib.hid hb1
  have HX1 := Lib.hid (Box2.new w (.bool n1) (.slice p xs.length c) 30 rfl)
  have HR1 := Lib.hid (hr1.keep hb1)
  have HGS := Lib.hid (fun h => goodB_sgn (neg := n1) (ws := xs) h hf1)
  obtain ⟨W1, hW1⟩ : ∃ x, w.alloc (.cells #[.bool n1, .slice p xs.length c] 30) = x := ⟨_, rfl⟩
  rw [hW1] at HB1 HG HX1 HR1
  obtain ⟨g, hg⟩ : ∃ g, goodB n1 xs = g := ⟨_, rfl⟩
  rw [hg] at HG HV HVB HGS
  have c0 := HX1.out.c0
  have c1 := HX1.out.c1
  clear hr1 hf1 hb1 hp hg
  cases hn : nanB a
  · rw [hn] at HNn HV HVB
    cases g
    · simp only [Bool.false_or, Bool.not_false, if_true, Bool.not_true] at HV HVB
      clear HGS hn
      go_enter Tryz.func12, Tryz.ntmps12
      go_wp2_with (first
        | (go_at_call 15; (with_reducible refine (HNu.out _).mono ?_); rintro e w9 ⟨rfl, rfl⟩)
        | (go_at_call 18; (with_reducible refine (HNn.out _).mono ?_); rintro e w9 ⟨rfl, rfl⟩)
        | (go_at_call 28; (try rw [hW1]); refine HG.out.mono ?_; rintro e w2 ⟨rfl, hb⟩; have HB2 := Lib.hid (HB1.out.trans (hb.mono HB1.out.size)); clear hb HG)
        | fail)
      go_ret2
      exact ⟨by rw [HV.out, HVB.out]; rfl, HB2.out⟩
    · simp only [Bool.false_or, Bool.not_true, Bool.false_eq_true, if_false, Bool.not_false] at HV HVB
      have HIu := Lib.hid (fun W => isInf_up_any a hn W)
      have HId := Lib.hid (fun W => isInf_dn_any a ha hn W)
      cases hi : infB a
      · rw [hi] at HIu HId HV
        simp only [Bool.false_and, Bool.false_eq_true, if_false] at HIu HId HV
        have hif : a % fSG ≠ fIN := by unfold infB at hi; simpa using hi
        have HW := Lib.hid (fun W => whole_any a ha hn hi W)
        have HT := Lib.hid (fun W => trunc_any a hn hif W)
        obtain ⟨hS1, hL1⟩ := HGS.out rfl
        have HS1 := Lib.hid hS1
        have HL1 := Lib.hid hL1
        have HTZ := Lib.hid (trZ_small a)
        have HCT := Lib.hid (cmp_tc a hn hif)
        have HPT := Lib.hid (pat_tc a hn hif)
        have HPA := Lib.hid (fun W => pattern_any (tcB a) W)
        have HCM := Lib.hid (fun W => cmp_any a (tcB a) W)
        have HZ := Lib.hid (show cbZ a (sg n1 (val B18 xs)) = if cmpI (trZ a) (sg n1 (val B18 xs)) ≠ 0 then cmpI (trZ a) (sg n1 (val B18 xs)) else if lostB a = true then (if negB a = true then -1 else 1) else 0 from rfl)
        rw [HPT.out] at HPA
        rw [HCT.out.1, HCT.out.2] at HCM
        have hlo := cmpI_lo (trZ a) (sg n1 (val B18 xs))
        obtain ⟨z, hz⟩ : ∃ z, sg n1 (val B18 xs) = z := ⟨_, rfl⟩
        rw [hz] at HZ HV HS1 hlo
        obtain ⟨y, hy⟩ : ∃ y, trZ a = y := ⟨_, rfl⟩
        rw [hy] at HZ HW HTZ hlo
        obtain ⟨t, ht⟩ : ∃ t, tcB a = t := ⟨_, rfl⟩
        rw [ht] at HT HPA HCM
        obtain ⟨d, hd⟩ : ∃ d : Int, (if lostB a = true then (if negB a = true then -1 else 1) else 0) = d := ⟨_, rfl⟩
        rw [hd] at HZ HCM
        clear hS1 hL1 HCT HPT hz hy ht hd HGS hif hn hi
        go_enter Tryz.func12, Tryz.ntmps12
        go_wp2_with (first
          | (go_at_call 15; (with_reducible refine (HNu.out _).mono ?_); rintro e w9 ⟨rfl, rfl⟩)
          | (go_at_call 18; (with_reducible refine (HNn.out _).mono ?_); rintro e w9 ⟨rfl, rfl⟩)
          | (go_at_call 28; (try rw [hW1]); refine HG.out.mono ?_; rintro e w2 ⟨rfl, hb⟩; have HB2 := Lib.hid (HB1.out.trans (hb.mono HB1.out.size)); have HX2 := Lib.hid (HX1.out.keep hb); have HR2 := Lib.hid (HR1.out.keep hb); clear hb HG HX1 HR1 c0 c1 hW1)
          | (go_at_call 19; (first | (with_reducible refine (HIu.out _).mono ?_) | (with_reducible refine (HId.out _).mono ?_)); rintro e w9 ⟨rfl, rfl⟩)
          | fail)
        refine (HW.out _).mono ?_
        rintro e w3 ⟨n3, p3, c3, ws3, rfl, hR3, hS3, hB3⟩
        have HB3 := Lib.hid (HB2.out.trans (hB3.mono HB2.out.size))
        have HX3 := Lib.hid (HX2.out.keep hB3)
        have HR3 := Lib.hid (HR2.out.keep hB3)
        have HC3 := Lib.hid hR3
        have HS3 := Lib.hid hS3
        clear hR3 hS3 hB3 HX2 HR2
        have d0 := HX3.out.c0
        have d1 := HX3.out.c1
        go_upto_region 9 with fail
        obtain ⟨W4, hW4⟩ : ∃ x, w3.alloc (.cells #[.bool n3, .slice p3 ws3.length c3] 30) = x := ⟨_, rfl⟩
        have hb4 : Below w3.heap.size w3 W4 := by rw [← hW4]; exact (Below.refl _ _).alloc (Nat.le_refl _) _
        have HD4 := Lib.hid (show Box2 W4 w3.heap.size (.bool n3) (.slice p3 ws3.length c3) by rw [← hW4]; exact Box2.new _ _ _ _ rfl)
        have HB4 := Lib.hid (HB3.out.trans (hb4.mono HB3.out.size))
        have HX4 := Lib.hid (HX3.out.keep hb4)
        have HR4 := Lib.hid (HR3.out.keep hb4)
        have HC4 := Lib.hid (HC3.out.keep hb4)
        have HL3 := Lib.hid (HS3.out.small.2 HTZ.out)
        rw [hW4]
        clear hW4 hb4 d0 d1 HX3 HR3 HC3
        have d0 := HX4.out.c0
        have d1 := HX4.out.c1
        have e0 := HD4.out.c0
        have e1 := HD4.out.c1
        go_wp2_with fail
        refine (cmp_at HC4.out HR4.out HS3.out HS1.out HL3.out HL1.out (Below.refl W4.heap.size W4)).mono ?_
        rintro e w5 ⟨rfl, hB5⟩
        have HB5 := Lib.hid (HB4.out.trans (hB5.mono HB4.out.size))
        clear hB5 d0 d1 e0 e1
        obtain ⟨q, hq⟩ : ∃ q : Int, cmpI y z = q := ⟨_, rfl⟩
        rw [hq] at HZ hlo ⊢
        clear hq
        by_cases hq0 : q = 0
        · subst hq0
          simp only [ne_eq, not_true, if_false] at HZ
          go_wp2_with (first
            | (go_at_call 20; (with_reducible refine (HT.out _).mono ?_); rintro e w9 ⟨rfl, rfl⟩)
            | (go_at_call 17; (with_reducible refine (HPA.out _).mono ?_); rintro e w9 ⟨rfl, rfl⟩)
            | (go_at_call 30; (with_reducible refine (HCM.out _).mono ?_); rintro e w9 ⟨rfl, rfl⟩)
            | fail)
          go_ret2
          exact ⟨by rw [HV.out, HVB.out, HZ.out]; rfl, HB5.out⟩
        · rw [if_pos hq0] at HZ
          go_wp2_with fail
          go_ret2
          exact ⟨by rw [HV.out, HVB.out, HZ.out]; rfl, HB5.out⟩
      · rw [hi] at HIu HId HV
        simp only [Bool.true_and, if_true] at HIu HId HV
        clear HGS hn hi
        cases hg : negB a
        · rw [hg] at HIu HV
          simp only [Bool.not_false, Bool.false_eq_true, if_false] at HIu HV
          clear hg HId
          go_enter Tryz.func12, Tryz.ntmps12
          go_wp2_with (first
            | (go_at_call 15; (with_reducible refine (HNu.out _).mono ?_); rintro e w9 ⟨rfl, rfl⟩)
            | (go_at_call 18; (with_reducible refine (HNn.out _).mono ?_); rintro e w9 ⟨rfl, rfl⟩)
            | (go_at_call 28; (try rw [hW1]); refine HG.out.mono ?_; rintro e w2 ⟨rfl, hb⟩; have HB2 := Lib.hid (HB1.out.trans (hb.mono HB1.out.size)); clear hb HG)
            | (go_at_call 19; (with_reducible refine (HIu.out _).mono ?_); rintro e w9 ⟨rfl, rfl⟩)
            | fail)
          go_ret2
          exact ⟨by rw [HV.out, HVB.out]; rfl, HB2.out⟩
        · rw [hg] at HIu HId HV
          simp only [Bool.not_true, if_true] at HIu HV
          clear hg
          go_enter Tryz.func12, Tryz.ntmps12
          go_wp2_with (first
            | (go_at_call 15; (with_reducible refine (HNu.out _).mono ?_); rintro e w9 ⟨rfl, rfl⟩)
            | (go_at_call 18; (with_reducible refine (HNn.out _).mono ?_); rintro e w9 ⟨rfl, rfl⟩)
            | (go_at_call 28; (try rw [hW1]); refine HG.out.mono ?_; rintro e w2 ⟨rfl, hb⟩; have HB2 := Lib.hid (HB1.out.trans (hb.mono HB1.out.size)); clear hb HG)
            | (go_at_call 19; (first | (with_reducible refine (HIu.out _).mono ?_) | (with_reducible refine (HId.out _).mono ?_)); rintro e w9 ⟨rfl, rfl⟩)
            | fail)
          go_ret2
          exact ⟨by rw [HV.out, HVB.out]; rfl, HB2.out⟩
  · rw [hn] at HNn HV HVB
    simp only [Bool.true_or, if_true, Bool.not_true] at HV HVB
    clear HGS hn HG
    go_enter Tryz.func12, Tryz.ntmps12
    go_wp2_with (first
      | (go_at_call 15; (with_reducible refine (HNu.out _).mono ?_); rintro e w9 ⟨rfl, rfl⟩)
      | (go_at_call 18; (with_reducible refine (HNn.out _).mono ?_); rintro e w9 ⟨rfl, rfl⟩)
      | fail)
    go_ret2
    exact ⟨by rw [HV.out, HVB.out]; rfl, HB1.out⟩
end Go.Proofs.YtpflbnddjclndaaGreatDoor
