/- Layer 8: code.known, does, Allocates. -/
import Derived.Test.YtebnbgnoldocaaaGreatDoorFPure
import Derived.Test.YtebnbgnoldocaaaGreatDoorFRd
import Derived.Test.YtebnbgnoldocaaaGreatDoorApp
import Derived.Test.YtebnbgnoldocaaaGreatDoorProg
import Derived.WalkKit
import Derived.Lib.Hide
import Derived.WalkSpells
import Derived.OwnWalk
namespace Go.Proofs.YtebnbgnoldocaaaGreatDoor
open Go.ChangeShapes Go.WideShapes Go.RowKit
set_option linter.unusedVariables false
set_option linter.unusedSimpArgs false
/-- The table of the instructions' uses lies as laid. -/
def Us (w : World) : Prop := 0 < w.heap.size ∧ ∀ i : Nat, i < 45 → w.cell? ⟨0, i, none⟩ = some (.int .i64 (usesL.getD i 0))
theorem Us.keep {w w' : World} (h : Us w) (hb : Below w.heap.size w w') : Us w' :=
  ⟨Nat.lt_of_lt_of_le h.1 hb.size, fun i hi => below_cell hb (h.2 i hi)⟩
theorem Us.low {w w' : World} {B : Nat} (h : Us w) (hB : 0 < B) (hb : Below B w w') : Us w' :=
  ⟨Nat.lt_of_lt_of_le h.1 hb.size, fun i hi => (hb.cell (p := ⟨0, i, none⟩) hB).trans (h.2 i hi)⟩
set_option maxHeartbeats 1000000 in
theorem known_any (op : Int) (w : World) : Calls Tryz.prog 12 #[.int .i64 op] w fun e w' => e = .returned (.bool (knownB op)) ∧ w = w' := by
  by_cases h0 : 0 ≤ op
  · by_cases h1 : op < 45
    · have HK := Lib.hid (knownB_yes ⟨h0, h1⟩)
      go_enter Tryz.func12, Tryz.ntmps12
      go_wp2
      go_ret
      exact ⟨ret_b HK.out.symm, rfl⟩
    · have HK := Lib.hid (knownB_no (op := op) (fun h => h1 h.2))
      go_enter Tryz.func12, Tryz.ntmps12
      go_wp2
      go_ret
      exact ⟨ret_b HK.out.symm, rfl⟩
  · have HK := Lib.hid (knownB_no (op := op) (fun h => h0 h.1))
    go_enter Tryz.func12, Tryz.ntmps12
    go_wp2
    go_ret
    exact ⟨ret_b HK.out.symm, rfl⟩
set_option maxHeartbeats 1000000 in
theorem does_any (op fl : Int) (w : World) (hU : Us w) : Calls Tryz.prog 10 #[.int .i64 op, .int .i64 fl] w fun e w' => e = .returned (.bool (doesB op fl)) ∧ w = w' := by
  have HC := Lib.hid (known_any op w)
  by_cases h : 0 ≤ op ∧ op < 45
  · rw [knownB_yes h] at HC
    have HD := Lib.hid (doesB_yes (fl := fl) h)
    obtain ⟨n, rfl⟩ := Int.eq_ofNat_of_zero_le h.1
    have hc := hU.2 n (by omega)
    rw [Int.toNat_natCast] at HD
    have h45 : (n : Int) < 45 := h.2
    generalize usesL.getD n 0 = x at hc HD
    clear h hU
    go_enter Tryz.func10, Tryz.ntmps10
    go_wp2_with (go_at_call 12; (with_reducible refine HC.out.mono ?_); rintro e w' ⟨rfl, rfl⟩)
    go_ret
    exact ⟨ret_b (by rw [HD.out]), rfl⟩
  · rw [knownB_no h] at HC
    have HD := Lib.hid (doesB_no (fl := fl) h)
    clear h hU
    go_enter Tryz.func10, Tryz.ntmps10
    go_wp2_with (go_at_call 12; (with_reducible refine HC.out.mono ?_); rintro e w' ⟨rfl, rfl⟩)
    go_ret
    exact ⟨ret_b HD.out.symm, rfl⟩
end Go.Proofs.YtebnbgnoldocaaaGreatDoor
