/- Floor and Mod on both sides; every Floor and Mod: the law. -/
import Derived.Test.YtdkbhliafilghaaGreatDoorRlRc
import Derived.Test.YtdkbhliafilghaaGreatDoorRlM
namespace Go.Proofs.YtdkbhliafilghaaGreatDoor
open Go Go.ChangeShapes Go.WideShapes Go.RowKit
set_option linter.unusedVariables false
set_option linter.unusedSimpArgs false
set_option maxRecDepth 100000 in
theorem floorA_z (a b : Nat) (hz : zeroB b = true) (w : World) : Calls Tryz.prog 4 #[.int .u64 (a : Int), .int .u64 (b : Int)] w fun e w' => e = .returned (.tuple #[.int .u64 0, .int .i64 6]) ∧ w = w' := by
  have z := zero_nn b
  rw [hz] at z
  clear hz
  go_enter Tryz.func4, Tryz.ntmps4
  go_wp2_with (first
    | (go_at_call 9; (with_reducible refine (number_any _ _).mono ?_); rintro e w9 ⟨rfl, rfl⟩) | fail)
  go_ret2
  exact ⟨rfl, rfl⟩
set_option maxRecDepth 100000 in
theorem floorA_n (a b f m : Nat) (ha : a < 18446744073709551616) (hb : b < 18446744073709551616) (hz : zeroB b = false) (H : FM a b f m) (hp : patB f = f) (w : World) : Calls Tryz.prog 4 #[.int .u64 (a : Int), .int .u64 (b : Int)] w fun e w' => e = .returned (.tuple #[.int .u64 (f : Int), .int .i64 0]) ∧ w = w' := by
  have z := zero_nn b
  rw [hz] at z
  have HD := Lib.hid (divide_all a b f m ha hb hz H)
  have HP := Lib.hid (pattern_any f)
  rw [hp] at HP
  clear hz H hp ha hb
  go_enter Tryz.func4, Tryz.ntmps4
  go_wp2_with (first
    | (go_at_call 9; (with_reducible refine (number_any _ _).mono ?_); rintro e w9 ⟨rfl, rfl⟩)
    | (go_at_call 10; (with_reducible refine (HD.out _).mono ?_); rintro e w9 ⟨rfl, rfl⟩)
    | (go_at_call 11; (with_reducible refine (HP.out _).mono ?_); rintro e w9 ⟨rfl, rfl⟩) | fail)
  go_ret2
  exact ⟨rfl, rfl⟩
set_option maxRecDepth 100000 in
theorem modA_z (a b : Nat) (hz : zeroB b = true) (w : World) : Calls Tryz.prog 6 #[.int .u64 (a : Int), .int .u64 (b : Int)] w fun e w' => e = .returned (.tuple #[.int .u64 0, .int .i64 6]) ∧ w = w' := by
  have z := zero_nn b
  rw [hz] at z
  clear hz
  go_enter Tryz.func6, Tryz.ntmps6
  go_wp2_with (first
    | (go_at_call 9; (with_reducible refine (number_any _ _).mono ?_); rintro e w9 ⟨rfl, rfl⟩) | fail)
  go_ret2
  exact ⟨rfl, rfl⟩
set_option maxRecDepth 100000 in
theorem modA_n (a b f m : Nat) (ha : a < 18446744073709551616) (hb : b < 18446744073709551616) (hz : zeroB b = false) (H : FM a b f m) (hp : patB m = m) (w : World) : Calls Tryz.prog 6 #[.int .u64 (a : Int), .int .u64 (b : Int)] w fun e w' => e = .returned (.tuple #[.int .u64 (m : Int), .int .i64 0]) ∧ w = w' := by
  have z := zero_nn b
  rw [hz] at z
  have HD := Lib.hid (divide_all a b f m ha hb hz H)
  have HP := Lib.hid (pattern_any m)
  rw [hp] at HP
  clear hz H hp ha hb
  go_enter Tryz.func6, Tryz.ntmps6
  go_wp2_with (first
    | (go_at_call 9; (with_reducible refine (number_any _ _).mono ?_); rintro e w9 ⟨rfl, rfl⟩)
    | (go_at_call 10; (with_reducible refine (HD.out _).mono ?_); rintro e w9 ⟨rfl, rfl⟩)
    | (go_at_call 11; (with_reducible refine (HP.out _).mono ?_); rintro e w9 ⟨rfl, rfl⟩) | fail)
  go_ret2
  exact ⟨rfl, rfl⟩
set_option maxRecDepth 100000 in
theorem floorR_z (a b : Nat) (hb : b < 18446744073709551616) (hz : zeroB b = true) (w : World) : Calls Tryz.prog 5 #[.int .u64 (a : Int), .int .u64 (b : Int)] w fun e w' => e = .returned (.tuple #[.int .u64 0, .int .i64 6]) ∧ w = w' := by
  have HZ := Lib.hid (risZero_any b hb)
  rw [hz] at HZ
  clear hz hb
  go_enter Tryz.func5, Tryz.ntmps5
  go_wp2_with (first
    | (go_at_call 12; (with_reducible refine (HZ.out _).mono ?_); rintro e w9 ⟨rfl, rfl⟩) | fail)
  go_ret2
  exact ⟨rfl, rfl⟩
set_option maxRecDepth 100000 in
theorem floorR_n (a b f m : Nat) (ha : a < 18446744073709551616) (hb : b < 18446744073709551616) (hz : zeroB b = false) (H : FM a b f m) (w : World) : Calls Tryz.prog 5 #[.int .u64 (a : Int), .int .u64 (b : Int)] w fun e w' => e = .returned (.tuple #[.int .u64 (f : Int), .int .i64 0]) ∧ Below w.heap.size w w' := by
  have HZ := Lib.hid (risZero_any b hb)
  rw [hz] at HZ
  have HD := Lib.hid (both_any a b f m ha hb hz H)
  clear hz H ha hb
  go_enter Tryz.func5, Tryz.ntmps5
  go_wp2_with (first
    | (go_at_call 12; (with_reducible refine (HZ.out _).mono ?_); rintro e w9 ⟨rfl, rfl⟩)
    | (go_at_call 13; (with_reducible refine (HD.out _).mono ?_); rintro e w2 ⟨rfl, hb⟩; have HB := Lib.hid hb; clear hb) | fail)
  go_ret2
  exact ⟨rfl, HB.out⟩
set_option maxRecDepth 100000 in
theorem modR_z (a b : Nat) (hb : b < 18446744073709551616) (hz : zeroB b = true) (w : World) : Calls Tryz.prog 7 #[.int .u64 (a : Int), .int .u64 (b : Int)] w fun e w' => e = .returned (.tuple #[.int .u64 0, .int .i64 6]) ∧ w = w' := by
  have HZ := Lib.hid (risZero_any b hb)
  rw [hz] at HZ
  clear hz hb
  go_enter Tryz.func7, Tryz.ntmps7
  go_wp2_with (first
    | (go_at_call 12; (with_reducible refine (HZ.out _).mono ?_); rintro e w9 ⟨rfl, rfl⟩) | fail)
  go_ret2
  exact ⟨rfl, rfl⟩
set_option maxRecDepth 100000 in
theorem modR_n (a b f m : Nat) (ha : a < 18446744073709551616) (hb : b < 18446744073709551616) (hz : zeroB b = false) (H : FM a b f m) (w : World) : Calls Tryz.prog 7 #[.int .u64 (a : Int), .int .u64 (b : Int)] w fun e w' => e = .returned (.tuple #[.int .u64 (m : Int), .int .i64 0]) ∧ Below w.heap.size w w' := by
  have HZ := Lib.hid (risZero_any b hb)
  rw [hz] at HZ
  have HD := Lib.hid (both_any a b f m ha hb hz H)
  clear hz H ha hb
  go_enter Tryz.func7, Tryz.ntmps7
  go_wp2_with (first
    | (go_at_call 12; (with_reducible refine (HZ.out _).mono ?_); rintro e w9 ⟨rfl, rfl⟩)
    | (go_at_call 13; (with_reducible refine (HD.out _).mono ?_); rintro e w2 ⟨rfl, hb⟩; have HB := Lib.hid hb; clear hb) | fail)
  go_ret2
  exact ⟨rfl, HB.out⟩
set_option maxRecDepth 100000 in
theorem law_floors (a b : Nat) (ha : a < 18446744073709551616) (hb : b < 18446744073709551616) (w : World) (ht : PT w) (hp : P10R w) :
    Calls Tryz.prog 3 #[.int .u64 (a : Int), .int .u64 (b : Int)] w fun e w' => e = .returned (.bool true) ∧ Below w.heap.size w w' := by
  have HT := Lib.hid ht
  have HP := Lib.hid hp
  have HX := Lib.hid (Below.refl w.heap.size w)
  cases hz : zeroB b with
  | true =>
    have K1 := Lib.hid (floorA_z a b hz)
    have K2 := Lib.hid (modA_z a b hz)
    have K3 := Lib.hid (floorR_z a b hb hz)
    have K4 := Lib.hid (modR_z a b hb hz)
    clear ha hb ht hp hz
    go_enter Tryz.func3, Tryz.ntmps3
    go_wp2_with (first
      | (go_at_call 4; (with_reducible refine (K1.out _).mono ?_); rintro e w9 ⟨rfl, rfl⟩)
      | (go_at_call 6; (with_reducible refine (K2.out _).mono ?_); rintro e w9 ⟨rfl, rfl⟩)
      | (go_at_call 5; (with_reducible refine (K3.out _).mono ?_); rintro e w9 ⟨rfl, rfl⟩)
      | (go_at_call 7; (with_reducible refine (K4.out _).mono ?_); rintro e w9 ⟨rfl, rfl⟩)
      | (go_at_call 8; (with_reducible refine (known03 _ (HT.out.keep HX.out) (HP.out.keep HX.out)).mono ?_); rintro e vv ⟨rfl, hvv⟩; replace HX := Lib.hid (HX.out.trans (hvv.mono HX.out.size)); clear hvv)
      | fail)
    go_ret
    exact ⟨by first | rfl | simp, HX.out⟩
  | false =>
    obtain ⟨f, m, H, hf, hm, pf, pm⟩ := fm_ex a b ha hb hz
    have K1 := Lib.hid (floorA_n a b f m ha hb hz H pf)
    have K2 := Lib.hid (modA_n a b f m ha hb hz H pm)
    have K3 := Lib.hid (floorR_n a b f m ha hb hz H)
    have K4 := Lib.hid (modR_n a b f m ha hb hz H)
    clear ha hb ht hp hz H hf hm pf pm
    go_enter Tryz.func3, Tryz.ntmps3
    go_wp2_with (first
      | (go_at_call 4; (with_reducible refine (K1.out _).mono ?_); rintro e w9 ⟨rfl, rfl⟩)
      | (go_at_call 6; (with_reducible refine (K2.out _).mono ?_); rintro e w9 ⟨rfl, rfl⟩)
      | (go_at_call 5; (with_reducible refine (K3.out _).mono ?_); rintro e vv ⟨rfl, hvv⟩; replace HX := Lib.hid (HX.out.trans (hvv.mono HX.out.size)); clear hvv)
      | (go_at_call 7; (with_reducible refine (K4.out _).mono ?_); rintro e vv ⟨rfl, hvv⟩; replace HX := Lib.hid (HX.out.trans (hvv.mono HX.out.size)); clear hvv)
      | (go_at_call 8; (with_reducible refine (known03 _ (HT.out.keep HX.out) (HP.out.keep HX.out)).mono ?_); rintro e vv ⟨rfl, hvv⟩; replace HX := Lib.hid (HX.out.trans (hvv.mono HX.out.size)); clear hvv)
      | fail)
    go_ret
    exact ⟨by first | rfl | simp, HX.out⟩
end Go.Proofs.YtdkbhliafilghaaGreatDoor
