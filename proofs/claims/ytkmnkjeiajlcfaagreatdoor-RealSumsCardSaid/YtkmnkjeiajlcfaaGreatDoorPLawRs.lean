/- Layer 3: sums, differences, products, quotients: the law. -/
import Derived.Test.YtkmnkjeiajlcfaaGreatDoorPRlM
namespace Go.Proofs.YtkmnkjeiajlcfaaGreatDoor
open Go Go.ChangeShapes Go.WideShapes Go.RowKit
set_option linter.unusedVariables false
set_option linter.unusedSimpArgs false
set_option maxRecDepth 100000 in
theorem law_sums (a b : Nat) (ha : a < 18446744073709551616) (hb : b < 18446744073709551616) (w : World) (ht : PT w) (hp : P10R w) :
    Calls Tryz.prog 3 #[.int .u64 (a : Int), .int .u64 (b : Int)] w fun e w' => e = .returned (.bool true) ∧ Below w.heap.size w w' := by
  have HA := Lib.hid ha
  have HB := Lib.hid hb
  have HT := Lib.hid ht
  have HP := Lib.hid hp
  have HX := Lib.hid (Below.refl w.heap.size w)
  clear ha hb ht hp
  go_enter Tryz.func3, Tryz.ntmps3
  go_wp2_with (first
    | (go_at_call 5; (with_reducible refine (div_any a b _).mono ?_); rintro e w1 ⟨rfl, hx⟩; replace HX := Lib.hid (HX.out.trans (hx.mono HX.out.size)); clear hx)
    | (go_at_call 6; (with_reducible refine (rdiv_any a b HB.out _).mono ?_); rintro e w2 ⟨rfl, hx⟩; replace HX := Lib.hid (HX.out.trans (hx.mono HX.out.size)); clear hx)
    | (go_at_call 7; (with_reducible refine (known03 _ (HT.out.keep HX.out) (HP.out.keep HX.out)).mono ?_); rintro e w3 ⟨rfl, hx⟩; replace HX := Lib.hid (HX.out.trans (hx.mono HX.out.size)); clear hx)
    | (go_at_call 8; (with_reducible refine (neg_any a HA.out _).mono ?_); rintro e w9 ⟨rfl, rfl⟩)
    | (go_at_call 9; (with_reducible refine (rneg_any a HA.out _).mono ?_); rintro e w9 ⟨rfl, rfl⟩)
    | (go_at_call 10; (with_reducible refine (add_any a b _).mono ?_); rintro e w4 ⟨rfl, hx⟩; replace HX := Lib.hid (HX.out.trans (hx.mono HX.out.size)); clear hx)
    | (go_at_call 11; (with_reducible refine (radd_any a b _).mono ?_); rintro e w5 ⟨rfl, hx⟩; replace HX := Lib.hid (HX.out.trans (hx.mono HX.out.size)); clear hx)
    | (go_at_call 12; (with_reducible refine (sub_any a b _).mono ?_); rintro e w6 ⟨rfl, hx⟩; replace HX := Lib.hid (HX.out.trans (hx.mono HX.out.size)); clear hx)
    | (go_at_call 13; (with_reducible refine (rsub_any a b HB.out _).mono ?_); rintro e w7 ⟨rfl, hx⟩; replace HX := Lib.hid (HX.out.trans (hx.mono HX.out.size)); clear hx)
    | (go_at_call 14; (with_reducible refine (mul_any a b _).mono ?_); rintro e w8 ⟨rfl, hx⟩; replace HX := Lib.hid (HX.out.trans (hx.mono HX.out.size)); clear hx)
    | (go_at_call 15; (with_reducible refine (rmul_any a b _).mono ?_); rintro e w10 ⟨rfl, hx⟩; replace HX := Lib.hid (HX.out.trans (hx.mono HX.out.size)); clear hx)
    | fail)
  go_ret
  exact ⟨rfl, HX.out⟩
end Go.Proofs.YtkmnkjeiajlcfaaGreatDoor
