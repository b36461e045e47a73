/- The document's CmpBig at any float and any number. -/
import Derived.Test.YtnfemojgecljiaaGreatDoorPRlCt
import Derived.Test.YtnfemojgecljiaaGreatDoorPWRefGood
import Derived.Test.YtnfemojgecljiaaGreatDoorPGWf
namespace Go.Proofs.YtnfemojgecljiaaGreatDoor
open Go Go.ChangeShapes Go.WideShapes Go.ChangeAt Go.RowKit
set_option linter.unusedVariables false
set_option linter.unusedSimpArgs false
set_option maxRecDepth 100000 in
set_option maxHeartbeats 4000000 in
theorem rcmpBig_any (a : Nat) (ha : a < 18446744073709551616) (n1 : Bool) (u1 : Value) (xs : List Int) (w : World) (hr1 : Rd w u1 xs) (hf1 : Fit xs) :
    Calls Tryz.prog 56 #[.int .u64 (a : Int), .agg #[.bool n1, u1]] w fun e w' => e = .returned (.tuple #[.int .i64 (cbV a n1 xs), .bool (cbB a n1 xs)]) ∧ Below w.heap.size w w' := by
  have HV := Lib.hid (show cbV a n1 xs = if (nanB a || !goodB n1 xs) = true then 0 else if infB a = true then (if negB a = true then -1 else 1) else cbZ a (sg n1 (val B18 xs)) from rfl)
  have HVB := Lib.hid (show cbB a n1 xs = !(nanB a || !goodB n1 xs) from rfl)
  have HNn := Lib.hid (fun W => risNaN_any a ha W)
  have HIn := Lib.hid (fun W => risInf_any a ha W)
  have HBe := Lib.hid (fun W => below_anyB a ha W)
  obtain ⟨p, c, rfl, hc, hm, hp⟩ := rd_form hr1
  have hb1 : Below w.heap.size w (w.alloc (.cells #[.bool n1, .slice p xs.length c] 24)) := (Below.refl _ _).alloc (Nat.le_refl _) _
  have HG := Lib.hid (refgood_any n1 _ xs (w.alloc (.cells #[.bool n1, .slice p xs.length c] 24)) (hr1.keep hb1) hf1)
  have HB1 := Lib.hid hb1
  have HX1 := Lib.hid (Box2.new w (.bool n1) (.slice p xs.length c) 24 rfl)
  have HR1 := Lib.hid (hr1.keep hb1)
  have HGS := Lib.hid (fun h => goodB_sgn (neg := n1) (ws := xs) h hf1)
  obtain ⟨W1, hW1⟩ : ∃ x, w.alloc (.cells #[.bool n1, .slice p xs.length c] 24) = x := ⟨_, rfl⟩
  rw [hW1] at HB1 HG HX1 HR1
  obtain ⟨g, hg⟩ : ∃ g, goodB n1 xs = g := ⟨_, rfl⟩
  rw [hg] at HG HV HVB HGS
  have c0 := HX1.out.c0
  have c1 := HX1.out.c1
  clear hr1 hf1 hb1 hp hg
  cases hn : nanB a
  · rw [hn] at HNn HV HVB
    cases g
    · simp only [Bool.false_or, Bool.not_false, if_true, Bool.not_true] at HV HVB
      clear HGS hn
      go_enter Tryz.func56, Tryz.ntmps56
      go_wp2_with (first
        | (go_at_call 16; (with_reducible refine (HNn.out _).mono ?_); rintro e w9 ⟨rfl, rfl⟩)
        | (go_at_call 40; (try rw [hW1]); refine HG.out.mono ?_; rintro e w2 ⟨rfl, hb⟩; have HB2 := Lib.hid (HB1.out.trans (hb.mono HB1.out.size)); clear hb HG)
        | fail)
      go_ret2
      exact ⟨by rw [HV.out, HVB.out]; rfl, HB2.out⟩
    · simp only [Bool.false_or, Bool.not_true, Bool.false_eq_true, if_false, Bool.not_false] at HV HVB
      cases hi : infB a
      · rw [hi] at HIn HV
        simp only [Bool.false_eq_true, if_false] at HV
        have HW := Lib.hid (fun W => rcut_any a ha hn hi W)
        obtain ⟨hS1, hL1⟩ := HGS.out rfl
        have HS1 := Lib.hid hS1
        have HL1 := Lib.hid hL1
        have HZ := Lib.hid (show cbZ a (sg n1 (val B18 xs)) = if cmpI (trZ a) (sg n1 (val B18 xs)) ≠ 0 then cmpI (trZ a) (sg n1 (val B18 xs)) else if lostB a = true then (if negB a = true then -1 else 1) else 0 from rfl)
        have hlo := cmpI_lo (trZ a) (sg n1 (val B18 xs))
        obtain ⟨z, hz⟩ : ∃ z, sg n1 (val B18 xs) = z := ⟨_, rfl⟩
        rw [hz] at HZ HV HS1 hlo
        clear hS1 hL1 hz HGS hn hi
        go_enter Tryz.func56, Tryz.ntmps56
        go_wp2_with (first
          | (go_at_call 16; (with_reducible refine (HNn.out _).mono ?_); rintro e w9 ⟨rfl, rfl⟩)
          | (go_at_call 91; (with_reducible refine (HIn.out _).mono ?_); rintro e w9 ⟨rfl, rfl⟩)
          | (go_at_call 40; (try rw [hW1]); refine HG.out.mono ?_; rintro e w2 ⟨rfl, hb⟩; have HB2 := Lib.hid (HB1.out.trans (hb.mono HB1.out.size)); have HX2 := Lib.hid (HX1.out.keep hb); have HR2 := Lib.hid (HR1.out.keep hb); clear hb HG HX1 HR1 c0 c1 hW1)
          | fail)
        refine (HW.out _).mono ?_
        rintro e w3 ⟨n3, p3, c3, ds, rfl, hR3, hS3, hB3⟩
        have HB3 := Lib.hid (HB2.out.trans (hB3.mono HB2.out.size))
        have HX3 := Lib.hid (HX2.out.keep hB3)
        have HR3 := Lib.hid (HR2.out.keep hB3)
        have HC3 := Lib.hid hR3
        have HS3 := Lib.hid hS3
        obtain ⟨l, hl⟩ : ∃ l, lostB a = l := ⟨_, rfl⟩
        rw [hl] at HZ ⊢
        obtain ⟨y, hy⟩ : ∃ y, trZ a = y := ⟨_, rfl⟩
        rw [hy] at HZ HS3 hlo
        clear hR3 hS3 hB3 HX2 HR2 hl hy
        have d0 := HX3.out.c0
        have d1 := HX3.out.c1
        go_upto_region 8 with fail
        obtain ⟨W4, hW4⟩ : ∃ x, w3.alloc (.cells #[.bool n3, .slice p3 ds.length c3] 45) = x := ⟨_, rfl⟩
        have hb4 : Below w3.heap.size w3 W4 := by rw [← hW4]; exact (Below.refl _ _).alloc (Nat.le_refl _) _
        have HD4 := Lib.hid (show Box2 W4 w3.heap.size (.bool n3) (.slice p3 ds.length c3) by rw [← hW4]; exact Box2.new _ _ _ _ rfl)
        have HB4 := Lib.hid (HB3.out.trans (hb4.mono HB3.out.size))
        have HX4 := Lib.hid (HX3.out.keep hb4)
        have HR4 := Lib.hid (HR3.out.keep hb4)
        have HC4 := Lib.hid (HC3.out.keep hb4)
        rw [hW4]
        clear hW4 hb4 d0 d1 HX3 HR3 HC3
        have d0 := HX4.out.c0
        have d1 := HX4.out.c1
        have e0 := HD4.out.c0
        have e1 := HD4.out.c1
        have CO := Lib.hid (fun (wx : World) (hx : Below W4.heap.size W4 wx) => of_at HR4.out HS1.out (Nat.le_trans HL1.out (by decide)) wx hx)
        go_region_held3 (fun w' => (w'.cell? ⟨w3.heap.size, 0, none⟩ = some (.bool n3) ∧ w'.cell? ⟨w3.heap.size, 1, none⟩ = some (.slice p3 ds.length c3)) ∧ w'.cell? ⟨w.heap.size, 0, none⟩ = some (.bool n1) ∧ w'.cell? ⟨w.heap.size, 1, none⟩ = some (.slice p xs.length c))
          (first | ((repeat' (first | assumption | apply And.intro)); done) | fail)
          (first
           | (go_at_call 94; (with_reducible refine (CO.out _ (by ((repeat' (first | with_reducible assumption | with_reducible exact Below.refl _ _ | with_reducible refine Below.drew ?_ | with_reducible refine Below.alloc ?_ (by first | omega | (simp; omega) | (simp; done) | fail) _ | with_reducible refine Below.setCell ?_ (by first | omega | (simp; omega) | (simp; done) | fail) _ | fail)); (first | done | fail)))).mono ?_); rintro e v1 ⟨nn, pn, cn, es, rfl, hRn, hSn, hv1, _⟩; have k0 := below_cell hv1 e0; have k1 := below_cell hv1 e1; have k2 := below_cell hv1 d0; have k3 := below_cell hv1 d1; have HV1 := Lib.hid hv1; have RN := Lib.hid hRn; have SN := Lib.hid hSn; clear hv1 hRn hSn)
           | (go_at_call 58; (with_reducible refine (refcmp_any n3 _ ds y nn _ es z v1 (HC4.out.keep HV1.out) RN.out HS3.out SN.out).mono ?_); rintro e v2 ⟨rfl, hv2⟩; have j0 := below_cell hv2 k0; have j1 := below_cell hv2 k1; have j2 := below_cell hv2 k2; have j3 := below_cell hv2 k3; have HV2 := Lib.hid hv2; clear hv2)
           | fail)
        have HB5 := Lib.hid ((HB4.out.trans (HV1.out.mono HB4.out.size)).trans (HV2.out.mono (HB4.out.trans (HV1.out.mono HB4.out.size)).size))
        clear d0 d1 e0 e1
        obtain ⟨q, hq⟩ : ∃ q : Int, cmpI y z = q := ⟨_, rfl⟩
        rw [hq] at HZ hlo ⊢
        clear hq
        by_cases hq0 : q = 0
        · subst hq0
          simp only [ne_eq, not_true, if_false] at HZ
          cases l
          · simp only [Bool.false_eq_true, if_false] at HZ
            go_wp2_with fail
            go_ret2
            exact ⟨by rw [HV.out, HVB.out, HZ.out]; rfl, HB5.out⟩
          · simp only [if_true] at HZ
            cases hg : negB a
            all_goals
              rw [hg] at HBe HZ
              simp only [Bool.false_eq_true, if_false, if_true] at HZ
              clear hg
              go_wp2_with (first
                | (go_at_call 92; (with_reducible refine (HBe.out _).mono ?_); rintro e w9 ⟨rfl, rfl⟩)
                | fail)
              go_ret2
              exact ⟨by rw [HV.out, HVB.out, HZ.out]; rfl, HB5.out⟩
        · rw [if_pos hq0] at HZ
          go_wp2_with fail
          go_ret2
          exact ⟨by rw [HV.out, HVB.out, HZ.out]; rfl, HB5.out⟩
      · rw [hi] at HIn HV
        simp only [if_true] at HV
        clear HGS hn hi
        cases hg : negB a
        all_goals
          rw [hg] at HBe HV
          simp only [Bool.false_eq_true, if_false, if_true] at HV
          clear hg
          go_enter Tryz.func56, Tryz.ntmps56
          go_wp2_with (first
            | (go_at_call 16; (with_reducible refine (HNn.out _).mono ?_); rintro e w9 ⟨rfl, rfl⟩)
            | (go_at_call 91; (with_reducible refine (HIn.out _).mono ?_); rintro e w9 ⟨rfl, rfl⟩)
            | (go_at_call 92; (with_reducible refine (HBe.out _).mono ?_); rintro e w9 ⟨rfl, rfl⟩)
            | (go_at_call 40; (try rw [hW1]); refine HG.out.mono ?_; rintro e w2 ⟨rfl, hb⟩; have HB2 := Lib.hid (HB1.out.trans (hb.mono HB1.out.size)); clear hb HG)
            | fail)
          go_ret2
          exact ⟨by rw [HV.out, HVB.out]; rfl, HB2.out⟩
  · rw [hn] at HNn HV HVB
    simp only [Bool.true_or, if_true, Bool.not_true] at HV HVB
    clear HGS hn HG
    go_enter Tryz.func56, Tryz.ntmps56
    go_wp2_with (first
      | (go_at_call 16; (with_reducible refine (HNn.out _).mono ?_); rintro e w9 ⟨rfl, rfl⟩)
      | fail)
    go_ret2
    exact ⟨by rw [HV.out, HVB.out]; rfl, HB1.out⟩
end Go.Proofs.YtnfemojgecljiaaGreatDoor
