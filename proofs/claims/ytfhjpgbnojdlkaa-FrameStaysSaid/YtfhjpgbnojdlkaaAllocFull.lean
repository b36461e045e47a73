/- Alloc where it is refused with ErrFull: nothing changes. -/
import Derived.Test.YtfhjpgbnojdlkaaAllocBad
import Derived.BigRegion
namespace Go.Proofs.Ytfhjpgbnojdlkaa
open Go.ChangeShapes Go.WideShapes Go.ChangeAt Go.RowKit
set_option linter.unusedVariables false
set_option linter.unusedSimpArgs false
set_option maxRecDepth 100000 in
set_option maxHeartbeats 1000000 in
theorem alloc_full (B g n c : Nat) (top : Int) (F : Nat → Int) (k t r : Int) (w : World) (h : MA w B g n c top F) (hb : 1 ≤ top ∧ top ≤ n ∧ 1 ≤ k ∧ k ≤ 255 ∧ 0 ≤ t ∧ t ≤ 1048576 ∧ 0 ≤ r ∧ r ≤ 1048576) (hs : ¬ (2 + t + r < 16777216 ∧ 2 + t + r ≤ n - top)) :
    Calls Try.prog 67 #[.pointer (some ⟨B, 0, none⟩), .int .i64 k, .int .i64 t, .int .i64 r] w fun e w' => e = .returned (.tuple #[.int .i64 0, .int .i64 5]) ∧ ∃ q, w' = w.drewN q := by
  obtain ⟨b1, b2, b3, b4, b5, b6, b7, b8⟩ := hb
  obtain ⟨a, rfl⟩ := Int.eq_ofNat_of_zero_le (by omega : 0 ≤ top)
  have h0 := h.box0
  have h1 := h.box1
  have d1 : decide ((a : Int) < 1) = false := by rw [decide_eq_false_iff_not]; omega
  have d2 : decide ((n : Int) < (a : Int)) = false := by rw [decide_eq_false_iff_not]; omega
  have d3 : decide (k < 1) = false := by rw [decide_eq_false_iff_not]; omega
  have d4 : decide ((255 : Int) < k) = false := by rw [decide_eq_false_iff_not]; omega
  have d5 : decide (t < 0) = false := by rw [decide_eq_false_iff_not]; omega
  have d6 : decide ((1048576 : Int) < t) = false := by rw [decide_eq_false_iff_not]; omega
  have d7 : decide (r < 0) = false := by rw [decide_eq_false_iff_not]; omega
  have d8 : decide ((1048576 : Int) < r) = false := by rw [decide_eq_false_iff_not]; omega
  have d2' : decide (n < a) = false := by rw [decide_eq_false_iff_not]; omega
  have hmx := h.max
  have hle := h.le
  clear h
  by_cases s1 : 2 + t + r < 16777216
  · have s2 : (n : Int) - (a : Int) < 2 + t + r := by omega
    have e1 : decide ((16777216 : Int) ≤ 2 + t + r) = false := by rw [decide_eq_false_iff_not]; omega
    have e2 : decide ((n : Int) - (a : Int) < 2 + t + r) = true := by rw [decide_eq_true_iff]; omega
    clear hs
    go_enter Try.func67, Try.ntmps67
    go_wp2_with fail
    go_quiet (fail)
    go_wp2_with fail
    go_quiet (fail)
    go_wp2_with fail
    go_ret2
    exact ⟨rfl, _, World.drewN_drewN _ _ _⟩
  · have e1 : decide ((16777216 : Int) ≤ 2 + t + r) = true := by rw [decide_eq_true_iff]; omega
    clear hs
    go_enter Try.func67, Try.ntmps67
    go_wp2_with fail
    go_quiet (fail)
    go_wp2_with fail
    go_quiet (fail)
    go_wp2_with fail
    go_ret2
    exact ⟨rfl, _, World.drewN_drewN _ _ _⟩
end Go.Proofs.Ytfhjpgbnojdlkaa
