/- Layer 3: every Cmp and CmpBig: the law. -/
import Derived.Test.YtadcbefjelmodaaGreatDoorPRlCr
import Derived.Test.YtadcbefjelmodaaGreatDoorPGRlG
namespace Go.Proofs.YtadcbefjelmodaaGreatDoor
open Go Go.ChangeShapes Go.WideShapes Go.ChangeAt Go.RowKit
set_option linter.unusedVariables false
set_option linter.unusedSimpArgs false
theorem cmV_lo (a b : Nat) : -1 ≤ cmV a b ∧ cmV a b ≤ 1 := by
  unfold cmV cmpZ
  split
  · omega
  · split
    · omega
    · split <;> omega
theorem cbV_lo (a : Nat) (n1 : Bool) (xs : List Int) : -1 ≤ cbV a n1 xs ∧ cbV a n1 xs ≤ 1 := by
  unfold cbV cbZ
  have h := cmpI_lo (trZ a) (sg n1 (val B18 xs))
  generalize cmpI (trZ a) (sg n1 (val B18 xs)) = q at h
  split
  · omega
  · split
    · split <;> omega
    · split
      · exact h
      · split
        · split <;> omega
        · omega
set_option maxRecDepth 100000 in
set_option maxHeartbeats 4000000 in
theorem law_orders (a b : Nat) (ha : a < 18446744073709551616) (hb : b < 18446744073709551616) (n1 : Bool) (u1 : Value) (xs : List Int) (w : World) (hr1 : Rd w u1 xs) (hf1 : Fit xs) (ht : PT w) (hp : P10R w) :
    Calls Tryz.prog 3 #[.int .u64 (a : Int), .int .u64 (b : Int), .agg #[.bool n1, u1]] w fun e w' => e = .returned (.bool true) ∧ Below w.heap.size w w' := by
  obtain ⟨p, c, rfl, hc, hm, hpp⟩ := rd_form hr1
  have hb1 : Below w.heap.size w (w.alloc (.cells #[.bool n1, .slice p xs.length c] 25)) := (Below.refl _ _).alloc (Nat.le_refl _) _
  have HX1 := Lib.hid (Box2.new w (.bool n1) (.slice p xs.length c) 25 rfl)
  have HK := Lib.hid (known03 _ (ht.keep hb1) (hp.keep hb1))
  have HR := Lib.hid hr1
  have HF := Lib.hid hf1
  have HB := Lib.hid hb1
  have HC1 := Lib.hid (fun W => cmp_any a b W)
  have HC2 := Lib.hid (fun W => rcmp_any a b ha hb W)
  have HD1 := Lib.hid (fun (W : World) (hr : Rd W (.slice p xs.length c) xs) => cmpBig_any a ha n1 _ xs W hr hf1)
  have HD2 := Lib.hid (fun (W : World) (hr : Rd W (.slice p xs.length c) xs) => rcmpBig_any a ha n1 _ xs W hr hf1)
  obtain ⟨v1, v2⟩ := cmV_lo a b
  obtain ⟨v3, v4⟩ := cbV_lo a n1 xs
  obtain ⟨d1, hd1⟩ : ∃ d1, cmV a b = d1 := ⟨_, rfl⟩
  obtain ⟨d2, hd2⟩ : ∃ d2, cmB a b = d2 := ⟨_, rfl⟩
  obtain ⟨d3, hd3⟩ : ∃ d3, cbV a n1 xs = d3 := ⟨_, rfl⟩
  obtain ⟨d4, hd4⟩ : ∃ d4, cbB a n1 xs = d4 := ⟨_, rfl⟩
  rw [hd1] at HC1 HC2 v1 v2
  rw [hd2] at HC1 HC2
  rw [hd3] at HD1 HD2 v3 v4
  rw [hd4] at HD1 HD2
  obtain ⟨W1, hW1⟩ : ∃ x, w.alloc (.cells #[.bool n1, .slice p xs.length c] 25) = x := ⟨_, rfl⟩
  rw [hW1] at HK HB HX1
  clear ht hp hr1 hf1 ha hb hpp hb1 hd1 hd2 hd3 hd4
  go_enter Tryz.func3, Tryz.ntmps3
  go_wp2_with (first
    | (go_at_call 4; (with_reducible refine (HC1.out _).mono ?_); rintro e w9 ⟨rfl, rfl⟩)
    | (go_at_call 5; (with_reducible refine (HC2.out _).mono ?_); rintro e w9 ⟨rfl, rfl⟩)
    | (go_at_call 6; (try rw [hW1]); (with_reducible refine HK.out.mono ?_); rintro e w2 ⟨rfl, hb⟩; have HX2 := Lib.hid (HX1.out.keep hb); have HB2 := Lib.hid (HB.out.trans (hb.mono HB.out.size)); have c0 := HX2.out.c0; have c1 := HX2.out.c1; clear hb)
    | (go_at_call 7; (with_reducible refine (HD1.out w2 (HR.out.keep HB2.out)).mono ?_); rintro e w3 ⟨rfl, hb⟩; have HX3 := Lib.hid (HX2.out.keep hb); have HB3 := Lib.hid (HB2.out.trans (hb.mono HB2.out.size)); have e0 := HX3.out.c0; have e1 := HX3.out.c1; clear hb)
    | (go_at_call 8; (with_reducible refine (HD2.out w3 (HR.out.keep HB3.out)).mono ?_); rintro e w4 ⟨rfl, hb⟩; have HB4 := Lib.hid (HB3.out.trans (hb.mono HB3.out.size)); clear hb)
    | fail)
  all_goals (first | (go_ret; exact ⟨by simp, HB4.out⟩) | trace_state)
end Go.Proofs.YtadcbefjelmodaaGreatDoor
