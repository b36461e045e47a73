/- The document's order of floats: place, order, Cmp. -/
import Derived.Test.YtadcbefjelmodaaGreatDoorPRlCb
namespace Go.Proofs.YtadcbefjelmodaaGreatDoor
open Go Go.ChangeShapes Go.WideShapes Go.ChangeAt Go.RowKit
set_option linter.unusedVariables false
set_option linter.unusedSimpArgs false
theorem place_i64 (b : Nat) : -9223372036854775808 < placeZ b ∧ placeZ b ≤ 9223372036854775807 := by
  unfold placeZ
  have e3 : fSG = 9223372036854775808 := rfl
  rw [e3]
  split <;> omega
set_option maxRecDepth 100000 in
theorem place_any (b : Nat) (hb : b < 18446744073709551616) (w : World) : Calls Tryz.prog 12 #[.int .u64 (b : Int)] w fun e w' => e = .returned (.int .i64 (placeZ b)) ∧ w = w' := by
  have HBe := Lib.hid (fun W => below_anyB b hb W)
  have h2 := and_u b hb
  have e3 : fSG = 9223372036854775808 := rfl
  have HP := Lib.hid (show placeZ b = if negB b = true then -((b % fSG : Nat) : Int) else ((b % fSG : Nat) : Int) from rfl)
  have hm : b % fSG < 9223372036854775808 := by rw [e3]; omega
  have hnb : negB b = false → b % fSG = b := by unfold negB; intro h; rw [beq_eq_false_iff_ne, e3] at h; rw [e3]; omega
  obtain ⟨z, hz⟩ : ∃ z, b % fSG = z := ⟨_, rfl⟩
  rw [hz] at h2 HP hm hnb
  clear hz e3
  cases hg : negB b
  · rw [hg] at HBe HP hnb
    have HQ := Lib.hid (hnb rfl)
    simp only [Bool.false_eq_true, if_false] at HP
    have hb2 : b < 9223372036854775808 := by have := HQ.out; omega
    clear hnb hg
    go_enter Tryz.func12, Tryz.ntmps12
    go_wp2_with (first | (go_at_call 25; (with_reducible refine (HBe.out _).mono ?_); rintro e w9 ⟨rfl, rfl⟩) | fail)
    go_ret
    exact ⟨by rw [HP.out, HQ.out]; rfl, rfl⟩
  · rw [hg] at HBe HP
    simp only [if_true] at HP
    clear hnb hg
    go_enter Tryz.func12, Tryz.ntmps12
    go_wp2_with (first | (go_at_call 25; (with_reducible refine (HBe.out _).mono ?_); rintro e w9 ⟨rfl, rfl⟩) | fail)
    go_ret
    exact ⟨by rw [HP.out]; rfl, rfl⟩
set_option maxRecDepth 100000 in
theorem order_any (x y : Int) (w : World) : Calls Tryz.prog 11 #[.int .i64 x, .int .i64 y] w fun e w' => e = .returned (.int .i64 (cmpI x y)) ∧ w = w' := by
  have HC := Lib.hid (show cmpI x y = if x < y then -1 else if y < x then 1 else 0 from rfl)
  by_cases c1 : x < y
  · rw [if_pos c1] at HC
    go_enter Tryz.func11, Tryz.ntmps11
    go_wp2_with fail
    go_ret
    exact ⟨by rw [HC.out]; rfl, rfl⟩
  · rw [if_neg c1] at HC
    by_cases c2 : y < x
    · rw [if_pos c2] at HC
      go_enter Tryz.func11, Tryz.ntmps11
      go_wp2_with fail
      go_ret
      exact ⟨by rw [HC.out]; rfl, rfl⟩
    · rw [if_neg c2] at HC
      go_enter Tryz.func11, Tryz.ntmps11
      go_wp2_with fail
      go_ret
      exact ⟨by rw [HC.out]; rfl, rfl⟩
set_option maxRecDepth 100000 in
theorem rcmp_any (a b : Nat) (ha : a < 18446744073709551616) (hb : b < 18446744073709551616) (w : World) : Calls Tryz.prog 5 #[.int .u64 (a : Int), .int .u64 (b : Int)] w fun e w' => e = .returned (.tuple #[.int .i64 (cmV a b), .bool (cmB a b)]) ∧ w = w' := by
  have HNa := Lib.hid (fun W => risNaN_any a ha W)
  have HNb := Lib.hid (fun W => risNaN_any b hb W)
  have HPa := Lib.hid (fun W => place_any a ha W)
  have HPb := Lib.hid (fun W => place_any b hb W)
  have HO := Lib.hid (fun W => order_any (placeZ a) (placeZ b) W)
  have HV := Lib.hid (show cmV a b = if nanB a = true ∨ nanB b = true then 0 else cmpI (placeZ a) (placeZ b) from rfl)
  have HW := Lib.hid (show cmB a b = !(nanB a || nanB b) from rfl)
  obtain ⟨x, hx⟩ : ∃ x, placeZ a = x := ⟨_, rfl⟩
  obtain ⟨y, hy⟩ : ∃ y, placeZ b = y := ⟨_, rfl⟩
  rw [hx] at HPa HO HV
  rw [hy] at HPb HO HV
  clear hx hy
  cases hna : nanB a
  · rw [hna] at HNa HV HW
    cases hnb : nanB b
    all_goals
      rw [hnb] at HNb HV HW
      simp only [Bool.false_eq_true, or_false, if_false, or_true, if_true, Bool.or_false, Bool.not_false, Bool.or_true, Bool.not_true] at HV HW
      clear hna hnb
      go_enter Tryz.func5, Tryz.ntmps5
      go_wp2_with (first
        | (go_at_call 10; (first | (with_reducible refine (HNa.out _).mono ?_) | (with_reducible refine (HNb.out _).mono ?_)); rintro e w9 ⟨rfl, rfl⟩)
        | (go_at_call 12; (first | (with_reducible refine (HPa.out _).mono ?_) | (with_reducible refine (HPb.out _).mono ?_)); rintro e w9 ⟨rfl, rfl⟩)
        | (go_at_call 11; (with_reducible refine (HO.out _).mono ?_); rintro e w9 ⟨rfl, rfl⟩)
        | fail)
      go_ret2
      exact ⟨by rw [HV.out, HW.out]; rfl, rfl⟩
  · rw [hna] at HNa HV HW
    simp only [true_or, if_true, Bool.true_or, Bool.not_true] at HV HW
    clear hna
    go_enter Tryz.func5, Tryz.ntmps5
    go_wp2_with (first
      | (go_at_call 10; (first | (with_reducible refine (HNa.out _).mono ?_) | (with_reducible refine (HNb.out _).mono ?_)); rintro e w9 ⟨rfl, rfl⟩)
      | fail)
    go_ret2
    exact ⟨by rw [HV.out, HW.out]; rfl, rfl⟩
end Go.Proofs.YtadcbefjelmodaaGreatDoor
