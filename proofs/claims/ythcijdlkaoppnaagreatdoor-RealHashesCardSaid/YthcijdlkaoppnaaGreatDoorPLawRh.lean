/- Layer 3: every Hash and HashBig: the law. -/
import Derived.Test.YthcijdlkaoppnaaGreatDoorPRlN
import Derived.Deep.RegionHeld3
namespace Go.Proofs.YthcijdlkaoppnaaGreatDoor
open Go Go.ChangeShapes Go.WideShapes Go.RowKit
set_option linter.unusedVariables false
set_option linter.unusedSimpArgs false
set_option maxRecDepth 100000 in
set_option maxHeartbeats 4000000 in
theorem law_hashes (a : Nat) (ha : a < 18446744073709551616) (n1 : Bool) (u1 : Value) (xs : List Int) (w : World) (hr1 : Rd w u1 xs) (hf1 : Fit xs) (ht : PT w) (hp : P10R w) :
    Calls Tryz.prog 3 #[.int .u64 (a : Int), .agg #[.bool n1, u1]] w fun e w' => e = .returned (.bool true) ∧ Below w.heap.size w w' := by
  obtain ⟨p, c, rfl, hc, hm, hpp⟩ := rd_form hr1
  have hb1 : Below w.heap.size w (w.alloc (.cells #[.bool n1, .slice p xs.length c] 25)).drew := drew_mono ((Below.refl _ _).alloc (Nat.le_refl _) _)
  have c0 : (w.alloc (.cells #[.bool n1, .slice p xs.length c] 25)).drew.cell? ⟨w.heap.size, 0, none⟩ = some (.bool n1) := by simp
  have c1 : (w.alloc (.cells #[.bool n1, .slice p xs.length c] 25)).drew.cell? ⟨w.heap.size, 1, none⟩ = some (.slice p xs.length c) := by simp
  have HK := Lib.hid (known03 _ (ht.keep hb1) (hp.keep hb1))
  have HR := Lib.hid hr1
  have HF := Lib.hid hf1
  have HA := Lib.hid ha
  have HB := Lib.hid hb1
  clear ht hp hr1 hf1 ha hpp hb1
  go_enter Tryz.func3, Tryz.ntmps3
  go_wp2_with fail
  obtain ⟨W1, hW1⟩ : ∃ x, (w.alloc (.cells #[.bool n1, .slice p xs.length c] 25)).drew = x := ⟨_, rfl⟩
  rw [hW1] at c0 c1 HK HB
  go_region_held3 (fun w' => w'.cell? ⟨w.heap.size, 0, none⟩ = some (.bool n1) ∧ w'.cell? ⟨w.heap.size, 1, none⟩ = some (.slice p xs.length c)) (first | ((try simp only [hW1]); (repeat' (first | assumption | apply And.intro)); done) | fail) (first
    | (go_at_call 4; (try rw [hW1]); (with_reducible refine HK.out.mono ?_); rintro e w2 ⟨rfl, hb⟩; have d0 := below_cell hb c0; have d1 := below_cell hb c1; have HB2 := Lib.hid (HB.out.trans (hb.mono HB.out.size)); clear hb)
    | (go_at_call 5; (with_reducible refine (hash_any a HA.out _).mono ?_); rintro e w9 ⟨rfl, rfl⟩)
    | (go_at_call 6; (with_reducible refine (rhash_any a HA.out _).mono ?_); rintro e w9 ⟨rfl, rfl⟩)
    | (go_at_call 7; (with_reducible refine (hashBig_any n1 _ xs w2 (HR.out.keep HB2.out) HF.out).mono ?_); rintro e w3 ⟨rfl, hb⟩; have f0 := below_cell hb d0; have f1 := below_cell hb d1; have HB3 := Lib.hid (HB2.out.trans (hb.mono HB2.out.size)); clear hb)
    | (go_at_call 8; (with_reducible refine (rhashBig_any n1 _ xs w3 (HR.out.keep HB3.out) HF.out).mono ?_); rintro e w4 ⟨rfl, hb⟩; have g0 := below_cell hb f0; have g1 := below_cell hb f1; have HB4 := Lib.hid (HB3.out.trans (hb.mono HB3.out.size)); clear hb)
    | fail)
  go_wp2_with fail
  go_ret
  exact ⟨by simp, HB4.out⟩
end Go.Proofs.YthcijdlkaoppnaaGreatDoor
