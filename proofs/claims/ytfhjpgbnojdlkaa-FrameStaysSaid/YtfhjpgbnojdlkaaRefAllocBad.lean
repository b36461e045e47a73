/- The contract of the document's Alloc where it is refused: the memory comes back as it is. -/
import Derived.Test.YtfhjpgbnojdlkaaAllocBad
namespace Go.Proofs.Ytfhjpgbnojdlkaa
open Go.ChangeShapes Go.WideShapes Go.ChangeAt Go.RowKit
set_option linter.unusedVariables false
set_option linter.unusedSimpArgs false
def RBPost (W : World) (p : Option Addr) (n c : Nat) (top x : Int) (e : Ending) (w' : World) : Prop :=
  e = .returned (.tuple #[.agg #[.slice p n c, .int .i64 top], .int .i64 0, .int .i64 x]) ∧ Below W.heap.size W w'
set_option maxRecDepth 100000 in
set_option maxHeartbeats 1000000 in
theorem refalloc_one (p : Option Addr) (n c : Nat) (top : Int) (k t r : Int) (w : World) (hb : allocErr n top k t r = 1) (hx : -9223372036854775808 ≤ top ∧ top ≤ 9223372036854775807) :
    Calls Try.prog 94 #[.agg #[.slice p n c, .int .i64 top], .int .i64 k, .int .i64 t, .int .i64 r] w (RBPost w p n c top 1) := by
  have hb' : ¬ (1 ≤ top ∧ top ≤ n ∧ 1 ≤ k ∧ k ≤ 255 ∧ 0 ≤ t ∧ t ≤ 1048576 ∧ 0 ≤ r ∧ r ≤ 1048576) := by
    intro g
    unfold allocErr at hb
    rw [if_pos g] at hb
    split at hb <;> omega
  clear hb
  by_cases a0 : top < 1
  · have d0 : decide (top < 1) = true := by rw [decide_eq_true_iff]; omega
    go_enter Try.func94, Try.ntmps94
    go_wp2_with fail
    refine bodyPost_ret (v := .tuple #[.agg #[.slice p n c, .int .i64 top], .int .i64 0, .int .i64 1]) (by simp [results, Try.results94, go_sem]) rfl ⟨rfl, ?_⟩
    exact (((Below.refl _ _).alloc (Nat.le_refl _) _).alloc (by simp) _)
  · skip
    by_cases a1 : (n : Int) < top
    · have d0 : decide (top < 1) = false := by rw [decide_eq_false_iff_not]; omega
      have d1 : decide ((n : Int) < top) = true := by rw [decide_eq_true_iff]; omega
      go_enter Try.func94, Try.ntmps94
      go_wp2_with fail
      refine bodyPost_ret (v := .tuple #[.agg #[.slice p n c, .int .i64 top], .int .i64 0, .int .i64 1]) (by simp [results, Try.results94, go_sem]) rfl ⟨rfl, ?_⟩
      exact (((Below.refl _ _).alloc (Nat.le_refl _) _).alloc (by simp) _)
    · skip
      by_cases a2 : k < 1
      · have d0 : decide (top < 1) = false := by rw [decide_eq_false_iff_not]; omega
        have d1 : decide ((n : Int) < top) = false := by rw [decide_eq_false_iff_not]; omega
        have d2 : decide (k < 1) = true := by rw [decide_eq_true_iff]; omega
        go_enter Try.func94, Try.ntmps94
        go_wp2_with fail
        refine bodyPost_ret (v := .tuple #[.agg #[.slice p n c, .int .i64 top], .int .i64 0, .int .i64 1]) (by simp [results, Try.results94, go_sem]) rfl ⟨rfl, ?_⟩
        exact (((Below.refl _ _).alloc (Nat.le_refl _) _).alloc (by simp) _)
      · skip
        by_cases a3 : 255 < k
        · have d0 : decide (top < 1) = false := by rw [decide_eq_false_iff_not]; omega
          have d1 : decide ((n : Int) < top) = false := by rw [decide_eq_false_iff_not]; omega
          have d2 : decide (k < 1) = false := by rw [decide_eq_false_iff_not]; omega
          have d3 : decide (255 < k) = true := by rw [decide_eq_true_iff]; omega
          go_enter Try.func94, Try.ntmps94
          go_wp2_with fail
          refine bodyPost_ret (v := .tuple #[.agg #[.slice p n c, .int .i64 top], .int .i64 0, .int .i64 1]) (by simp [results, Try.results94, go_sem]) rfl ⟨rfl, ?_⟩
          exact (((Below.refl _ _).alloc (Nat.le_refl _) _).alloc (by simp) _)
        · skip
          by_cases a4 : t < 0
          · have d0 : decide (top < 1) = false := by rw [decide_eq_false_iff_not]; omega
            have d1 : decide ((n : Int) < top) = false := by rw [decide_eq_false_iff_not]; omega
            have d2 : decide (k < 1) = false := by rw [decide_eq_false_iff_not]; omega
            have d3 : decide (255 < k) = false := by rw [decide_eq_false_iff_not]; omega
            have d4 : decide (t < 0) = true := by rw [decide_eq_true_iff]; omega
            go_enter Try.func94, Try.ntmps94
            go_wp2_with fail
            refine bodyPost_ret (v := .tuple #[.agg #[.slice p n c, .int .i64 top], .int .i64 0, .int .i64 1]) (by simp [results, Try.results94, go_sem]) rfl ⟨rfl, ?_⟩
            exact (((Below.refl _ _).alloc (Nat.le_refl _) _).alloc (by simp) _)
          · skip
            by_cases a5 : 1048576 < t
            · have d0 : decide (top < 1) = false := by rw [decide_eq_false_iff_not]; omega
              have d1 : decide ((n : Int) < top) = false := by rw [decide_eq_false_iff_not]; omega
              have d2 : decide (k < 1) = false := by rw [decide_eq_false_iff_not]; omega
              have d3 : decide (255 < k) = false := by rw [decide_eq_false_iff_not]; omega
              have d4 : decide (t < 0) = false := by rw [decide_eq_false_iff_not]; omega
              have d5 : decide (1048576 < t) = true := by rw [decide_eq_true_iff]; omega
              go_enter Try.func94, Try.ntmps94
              go_wp2_with fail
              refine bodyPost_ret (v := .tuple #[.agg #[.slice p n c, .int .i64 top], .int .i64 0, .int .i64 1]) (by simp [results, Try.results94, go_sem]) rfl ⟨rfl, ?_⟩
              exact (((Below.refl _ _).alloc (Nat.le_refl _) _).alloc (by simp) _)
            · skip
              by_cases a6 : r < 0
              · have d0 : decide (top < 1) = false := by rw [decide_eq_false_iff_not]; omega
                have d1 : decide ((n : Int) < top) = false := by rw [decide_eq_false_iff_not]; omega
                have d2 : decide (k < 1) = false := by rw [decide_eq_false_iff_not]; omega
                have d3 : decide (255 < k) = false := by rw [decide_eq_false_iff_not]; omega
                have d4 : decide (t < 0) = false := by rw [decide_eq_false_iff_not]; omega
                have d5 : decide (1048576 < t) = false := by rw [decide_eq_false_iff_not]; omega
                have d6 : decide (r < 0) = true := by rw [decide_eq_true_iff]; omega
                go_enter Try.func94, Try.ntmps94
                go_wp2_with fail
                refine bodyPost_ret (v := .tuple #[.agg #[.slice p n c, .int .i64 top], .int .i64 0, .int .i64 1]) (by simp [results, Try.results94, go_sem]) rfl ⟨rfl, ?_⟩
                exact (((Below.refl _ _).alloc (Nat.le_refl _) _).alloc (by simp) _)
              · skip
                have d0 : decide (top < 1) = false := by rw [decide_eq_false_iff_not]; omega
                have d1 : decide ((n : Int) < top) = false := by rw [decide_eq_false_iff_not]; omega
                have d2 : decide (k < 1) = false := by rw [decide_eq_false_iff_not]; omega
                have d3 : decide (255 < k) = false := by rw [decide_eq_false_iff_not]; omega
                have d4 : decide (t < 0) = false := by rw [decide_eq_false_iff_not]; omega
                have d5 : decide (1048576 < t) = false := by rw [decide_eq_false_iff_not]; omega
                have d6 : decide (r < 0) = false := by rw [decide_eq_false_iff_not]; omega
                have d7 : decide (1048576 < r) = true := by rw [decide_eq_true_iff]; omega
                go_enter Try.func94, Try.ntmps94
                go_wp2_with fail
                refine bodyPost_ret (v := .tuple #[.agg #[.slice p n c, .int .i64 top], .int .i64 0, .int .i64 1]) (by simp [results, Try.results94, go_sem]) rfl ⟨rfl, ?_⟩
                exact (((Below.refl _ _).alloc (Nat.le_refl _) _).alloc (by simp) _)
theorem err_five {n : Nat} {top k t r : Int} (hb : allocErr n top k t r = 5) : (1 ≤ top ∧ top ≤ n ∧ 1 ≤ k ∧ k ≤ 255 ∧ 0 ≤ t ∧ t ≤ 1048576 ∧ 0 ≤ r ∧ r ≤ 1048576) ∧ ¬ (2 + t + r < 16777216 ∧ 2 + t + r ≤ n - top) := by
  unfold allocErr at hb
  split at hb
  · rename_i h
    split at hb
    · omega
    · rename_i h'; exact ⟨h, h'⟩
  · omega
set_option maxRecDepth 100000 in
set_option maxHeartbeats 1000000 in
theorem refalloc_five (p : Option Addr) (n c : Nat) (top : Int) (k t r : Int) (w : World) (hn : n ≤ 17592186043904) (hb : allocErr n top k t r = 5) :
    Calls Try.prog 94 #[.agg #[.slice p n c, .int .i64 top], .int .i64 k, .int .i64 t, .int .i64 r] w (RBPost w p n c top 5) := by
  obtain ⟨⟨b1, b2, b3, b4, b5, b6, b7, b8⟩, hb'⟩ := err_five hb
  clear hb
  have c1 : decide ((16777216 : Int) ≤ t + r + 2) = false := by rw [decide_eq_false_iff_not]; omega
  have c2 : decide ((n : Int) < top + (t + r + 2)) = true := by rw [decide_eq_true_iff]; omega
  have d0 : decide (top < 1) = false := by rw [decide_eq_false_iff_not]; omega
  have d1 : decide ((n : Int) < top) = false := by rw [decide_eq_false_iff_not]; omega
  have d2 : decide (k < 1) = false := by rw [decide_eq_false_iff_not]; omega
  have d3 : decide (255 < k) = false := by rw [decide_eq_false_iff_not]; omega
  have d4 : decide (t < 0) = false := by rw [decide_eq_false_iff_not]; omega
  have d5 : decide (1048576 < t) = false := by rw [decide_eq_false_iff_not]; omega
  have d6 : decide (r < 0) = false := by rw [decide_eq_false_iff_not]; omega
  have d7 : decide (1048576 < r) = false := by rw [decide_eq_false_iff_not]; omega
  go_enter Try.func94, Try.ntmps94
  go_wp2_with fail
  refine bodyPost_ret (v := .tuple #[.agg #[.slice p n c, .int .i64 top], .int .i64 0, .int .i64 5]) (by simp [results, Try.results94, go_sem]) rfl ⟨rfl, ?_⟩
  exact (((Below.refl _ _).alloc (Nat.le_refl _) _).alloc (by simp) _)
end Go.Proofs.Ytfhjpgbnojdlkaa
