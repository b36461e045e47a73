/- Layer 3: the document's sums and quotients; Div, Cmp. -/
import Derived.Test.YtkmnkjeiajlcfaaGreatDoorPRlF
namespace Go.Proofs.YtkmnkjeiajlcfaaGreatDoor
open Go Go.ChangeShapes Go.WideShapes Go.RowKit
set_option linter.unusedVariables false
set_option linter.unusedSimpArgs false
set_option maxRecDepth 100000 in
theorem radd_any (a b : Nat) (w : World) : Calls Tryz.prog 11 #[.int .u64 (a : Int), .int .u64 (b : Int)] w fun e w' => e = .returned (.int .u64 (addB a b : Nat)) ∧ Below w.heap.size w w' := by
  obtain ⟨r, q, hrun, hp, hlt⟩ := run_fop (P := Tryz.prog) w .add 35 a b (by simp)
  have HP := Lib.hid (show patB r = addB a b by rw [hp]; rfl)
  have HB := Lib.hid (below_drewN (Below.refl w.heap.size w) q)
  have HL := Lib.hid hlt
  clear hp hlt
  go_enter Tryz.func11, Tryz.ntmps11
  go_wp2_with (first | (go_at_call 23; (with_reducible refine (rfloat_any _ _).mono ?_); rintro e w9 ⟨rfl, rfl⟩) | (go_at_call 22; (with_reducible refine (rpattern_any r HL.out _).mono ?_); rintro e w9 ⟨rfl, rfl⟩) | fail)
  go_ret
  exact ⟨by rw [← HP.out]; rfl, HB.out⟩
set_option maxRecDepth 100000 in
theorem rmul_any (a b : Nat) (w : World) : Calls Tryz.prog 15 #[.int .u64 (a : Int), .int .u64 (b : Int)] w fun e w' => e = .returned (.int .u64 (mulB a b : Nat)) ∧ Below w.heap.size w w' := by
  obtain ⟨r, q, hrun, hp, hlt⟩ := run_fop (P := Tryz.prog) w .mul 35 a b (by simp)
  have HP := Lib.hid (show patB r = mulB a b by rw [hp]; rfl)
  have HB := Lib.hid (below_drewN (Below.refl w.heap.size w) q)
  have HL := Lib.hid hlt
  clear hp hlt
  go_enter Tryz.func15, Tryz.ntmps15
  go_wp2_with (first | (go_at_call 23; (with_reducible refine (rfloat_any _ _).mono ?_); rintro e w9 ⟨rfl, rfl⟩) | (go_at_call 22; (with_reducible refine (rpattern_any r HL.out _).mono ?_); rintro e w9 ⟨rfl, rfl⟩) | fail)
  go_ret
  exact ⟨by rw [← HP.out]; rfl, HB.out⟩
theorem nan_nan : nanB fNaN = true := by decide +kernel
theorem add_neg (a b : Nat) (hb : b < 18446744073709551616) : addB a (negV b) = subB a b := by
  rcases rneg_eq b hb with ⟨h, e⟩ | ⟨h, e⟩
  · rw [e]
    unfold addB subB
    rw [nan_add (.inr nan_nan), nan_sub (.inr h)]
  · rw [e]
    unfold addB subB
    rw [sub_add hb]
theorem negV_lt (b : Nat) (hb : b < 18446744073709551616) : negV b < 18446744073709551616 := patB_lt (flip_lt hb)
set_option maxRecDepth 100000 in
theorem rsub_any (a b : Nat) (hb : b < 18446744073709551616) (w : World) : Calls Tryz.prog 13 #[.int .u64 (a : Int), .int .u64 (b : Int)] w fun e w' => e = .returned (.int .u64 (subB a b : Nat)) ∧ Below w.heap.size w w' := by
  have HE := Lib.hid (add_neg a b hb)
  have HN := Lib.hid (rneg_any b hb w)
  have HA := Lib.hid (radd_any a (negV b) w)
  obtain ⟨z, hz⟩ : ∃ z, negV b = z := ⟨_, rfl⟩
  rw [hz] at HE HN HA
  clear hz
  go_enter Tryz.func13, Tryz.ntmps13
  go_wp2_with (first | (go_at_call 9; (with_reducible refine HN.out.mono ?_); rintro e w9 ⟨rfl, rfl⟩) | fail)
  refine HA.out.mono ?_
  rintro e w2 ⟨rfl, hb⟩
  have HB := Lib.hid hb
  go_wp2_with fail
  go_ret
  exact ⟨by rw [← HE.out]; rfl, HB.out⟩
def dvV (a b : Nat) : Nat := if zeroB b = true then 0 else divB a b
def dvE (b : Nat) : Int := if zeroB b = true then 6 else 0
set_option maxRecDepth 100000 in
theorem div_any (a b : Nat) (w : World) : Calls Tryz.prog 5 #[.int .u64 (a : Int), .int .u64 (b : Int)] w fun e w' => e = .returned (.tuple #[.int .u64 (dvV a b : Nat), .int .i64 (dvE b)]) ∧ Below w.heap.size w w' := by
  obtain ⟨r, q, hrun, hp, hlt⟩ := run_fop (P := Tryz.prog) w .quo 35 a b (by simp)
  have HP := Lib.hid (show patB r = divB a b by rw [hp]; rfl)
  have HB := Lib.hid (below_drewN (Below.refl w.heap.size w) q)
  have HB0 := Lib.hid (Below.refl w.heap.size w)
  have HV := Lib.hid (show dvV a b = (if zeroB b = true then 0 else divB a b) ∧ dvE b = (if zeroB b = true then 6 else 0) from ⟨rfl, rfl⟩)
  have hz : (FloatKind.f64.format.order b 0 == some .eq) = zeroB b := zero_d b
  clear hp
  cases hzb : zeroB b with
  | true =>
    rw [hzb] at hz HV
    go_enter Tryz.func5, Tryz.ntmps5
    go_wp2_with (first | (go_at_call 20; (with_reducible refine (number_any _ _).mono ?_); rintro e w9 ⟨rfl, rfl⟩) | fail)
    go_ret2
    exact ⟨by rw [HV.out.1, HV.out.2]; rfl, HB0.out⟩
  | false =>
    rw [hzb] at hz HV
    go_enter Tryz.func5, Tryz.ntmps5
    go_wp2_with (first | (go_at_call 20; (with_reducible refine (number_any _ _).mono ?_); rintro e w9 ⟨rfl, rfl⟩) | (go_at_call 21; (with_reducible refine (pattern_any r _).mono ?_); rintro e w9 ⟨rfl, rfl⟩) | fail)
    go_ret2
    exact ⟨by rw [HV.out.1, HV.out.2]; simp [HP.out], HB.out⟩
set_option maxRecDepth 100000 in
theorem rdiv_any (a b : Nat) (hb : b < 18446744073709551616) (w : World) : Calls Tryz.prog 6 #[.int .u64 (a : Int), .int .u64 (b : Int)] w fun e w' => e = .returned (.tuple #[.int .u64 (dvV a b : Nat), .int .i64 (dvE b)]) ∧ Below w.heap.size w w' := by
  obtain ⟨r, q, hrun, hp, hlt⟩ := run_fop (P := Tryz.prog) w .quo 35 a b (by simp)
  have HP := Lib.hid (show patB r = divB a b by rw [hp]; rfl)
  have HB := Lib.hid (below_drewN (Below.refl w.heap.size w) q)
  have HB0 := Lib.hid (Below.refl w.heap.size w)
  have HV := Lib.hid (show dvV a b = (if zeroB b = true then 0 else divB a b) ∧ dvE b = (if zeroB b = true then 6 else 0) from ⟨rfl, rfl⟩)
  have HZ := Lib.hid (risZero_any b hb w)
  have HL := Lib.hid hlt
  clear hp hlt
  cases hzb : zeroB b with
  | true =>
    rw [hzb] at HZ HV
    go_enter Tryz.func6, Tryz.ntmps6
    go_wp2_with (first | (go_at_call 19; (with_reducible refine HZ.out.mono ?_); rintro e w9 ⟨rfl, rfl⟩) | fail)
    go_ret2
    exact ⟨by rw [HV.out.1, HV.out.2]; rfl, HB0.out⟩
  | false =>
    rw [hzb] at HZ HV
    go_enter Tryz.func6, Tryz.ntmps6
    go_wp2_with (first | (go_at_call 19; (with_reducible refine HZ.out.mono ?_); rintro e w9 ⟨rfl, rfl⟩) | (go_at_call 23; (with_reducible refine (rfloat_any _ _).mono ?_); rintro e w9 ⟨rfl, rfl⟩) | (go_at_call 22; (with_reducible refine (rpattern_any r HL.out _).mono ?_); rintro e w9 ⟨rfl, rfl⟩) | fail)
    go_ret2
    exact ⟨by rw [HV.out.1, HV.out.2]; simp [HP.out], HB.out⟩
def cmV (a b : Nat) : Int := if nanB a = true ∨ nanB b = true then 0 else cmpZ a b
def cmB (a b : Nat) : Bool := !(nanB a || nanB b)
set_option maxRecDepth 100000 in
theorem cmp_any (a b : Nat) (w : World) : Calls Tryz.prog 16 #[.int .u64 (a : Int), .int .u64 (b : Int)] w fun e w' => e = .returned (.tuple #[.int .i64 (cmV a b), .bool (cmB a b)]) ∧ w = w' := by
  have HW := Lib.hid (show w = w from rfl)
  by_cases hn : nanB a = true ∨ nanB b = true
  · have h1 : (FloatKind.f64.format.order a b == some .lt) = false := cmp_nan hn _
    have h2 : (FloatKind.f64.format.order a b == some .gt) = false := cmp_nan hn _
    have h3 : (FloatKind.f64.format.order a b == some .eq) = false := cmp_nan hn _
    have HV := Lib.hid (show cmV a b = 0 ∧ cmB a b = false by
      refine ⟨by unfold cmV; rw [if_pos hn], ?_⟩
      unfold cmB; rcases hn with hn | hn <;> simp [hn])
    clear hn
    go_enter Tryz.func16, Tryz.ntmps16
    go_wp2_with (first | (go_at_call 20; (with_reducible refine (number_any _ _).mono ?_); rintro e w9 ⟨rfl, rfl⟩) | fail)
    go_ret2
    exact ⟨by rw [HV.out.1, HV.out.2]; rfl, rfl⟩
  · have ha : nanB a = false := by cases h : nanB a <;> simp_all
    have hb : nanB b = false := by cases h : nanB b <;> simp_all
    have h1 : (FloatKind.f64.format.order a b == some .lt) = decide (placeZ a < placeZ b) := lt_d ha hb
    have h2 : (FloatKind.f64.format.order a b == some .gt) = decide (placeZ b < placeZ a) := gt_d ha hb
    have h3 : (FloatKind.f64.format.order a b == some .eq) = decide (placeZ a = placeZ b) := eq_d ha hb
    have HV := Lib.hid (show cmV a b = cmpZ a b ∧ cmB a b = true by
      refine ⟨by unfold cmV; rw [if_neg hn], by unfold cmB; simp [ha, hb]⟩)
    have HC := Lib.hid (show cmpZ a b = if placeZ a < placeZ b then -1 else if placeZ b < placeZ a then 1 else 0 from rfl)
    clear hn ha hb
    generalize placeZ a = x at *
    generalize placeZ b = y at *
    by_cases c1 : x < y
    · have d1 : decide (x < y) = true := decide_eq_true c1
      rw [d1] at h1
      rw [if_pos c1] at HC
      clear d1 c1 h2 h3
      go_enter Tryz.func16, Tryz.ntmps16
      go_wp2_with (first | (go_at_call 20; (with_reducible refine (number_any _ _).mono ?_); rintro e w9 ⟨rfl, rfl⟩) | fail)
      go_ret2
      exact ⟨by rw [HV.out.1, HV.out.2, HC.out]; rfl, rfl⟩
    · rw [decide_eq_false c1] at h1
      rw [if_neg c1] at HC
      by_cases c2 : y < x
      · rw [decide_eq_true c2] at h2
        rw [if_pos c2] at HC
        clear c1 c2 h3
        go_enter Tryz.func16, Tryz.ntmps16
        go_wp2_with (first | (go_at_call 20; (with_reducible refine (number_any _ _).mono ?_); rintro e w9 ⟨rfl, rfl⟩) | fail)
        go_ret2
        exact ⟨by rw [HV.out.1, HV.out.2, HC.out]; rfl, rfl⟩
      · rw [decide_eq_false c2] at h2
        rw [decide_eq_true (show x = y by omega)] at h3
        rw [if_neg c2] at HC
        clear c1 c2
        go_enter Tryz.func16, Tryz.ntmps16
        go_wp2_with (first | (go_at_call 20; (with_reducible refine (number_any _ _).mono ?_); rintro e w9 ⟨rfl, rfl⟩) | fail)
        go_ret2
        exact ⟨by rw [HV.out.1, HV.out.2, HC.out]; rfl, rfl⟩
end Go.Proofs.YtkmnkjeiajlcfaaGreatDoor
