/- Alloc where it is refused with ErrArg: nothing changes. -/
import Derived.Test.YtfhjpgbnojdlkaaCheck
namespace Go.Proofs.Ytfhjpgbnojdlkaa
open Go.ChangeShapes Go.WideShapes Go.ChangeAt Go.RowKit
set_option linter.unusedVariables false
set_option linter.unusedSimpArgs false

/-- Block g is a row of c words, the first n as F says. -/
def Row (w : World) (g n c : Nat) (F : Nat → Int) : Prop := ∃ f : Nat → Value, w.rowIs g 46 c f ∧ ∀ i, i < n → f i = .int .u64 (F i)
theorem Row.cell {w : World} {g n c : Nat} {F : Nat → Int} (h : Row w g n c F) (hn : n ≤ c) {i : Nat} (hi : i < n) : w.cell? ⟨g, i, none⟩ = some (.int .u64 (F i)) := by
  obtain ⟨f, h1, h2⟩ := h
  rw [h1.cell (by omega), h2 i hi]
theorem Row.frozen {w : World} {g n c : Nat} {F : Nat → Int} (h : Row w g n c F) (i : Nat) : w.frozen? ⟨g, i, none⟩ = false := by
  obtain ⟨f, h1, h2⟩ := h
  exact h1.frozen i
theorem Row.lt {w : World} {g n c : Nat} {F : Nat → Int} (h : Row w g n c F) : g < w.heap.size := by
  obtain ⟨f, h1, h2⟩ := h
  exact h1.lt
theorem Row.block {w w' : World} {g n c : Nat} {F : Nat → Int} (h : Row w g n c F) (e : w'.heap[g]? = w.heap[g]?) : Row w' g n c F := by
  obtain ⟨f, h1, h2⟩ := h
  exact ⟨f, h1.of_block e, h2⟩
/-- A memory behind a pointer: the struct in block B, its words in block g. -/
structure MA (w : World) (B g n c : Nat) (top : Int) (F : Nat → Int) : Prop where
  box0 : w.cell? ⟨B, 0, none⟩ = some (.slice (some ⟨g, 0, none⟩) n c)
  box1 : w.cell? ⟨B, 1, none⟩ = some (.int .i64 top)
  fr : w.frozen? ⟨B, 1, none⟩ = false
  row : Row w g n c F
  le : n ≤ c
  max : n ≤ 17592186043904
  ne : B ≠ g
/-- All but two blocks are as they were. -/
structure But2 (B g : Nat) (w w' : World) : Prop where
  os : w'.os = w.os
  tape : w'.tape = w.tape
  output : w'.output = w.output
  size : w.heap.size ≤ w'.heap.size
  block : ∀ k, k < w.heap.size → k ≠ B → k ≠ g → w'.heap[k]? = w.heap[k]?
def allocErr (n : Nat) (top k t r : Int) : Int :=
  if 1 ≤ top ∧ top ≤ n ∧ 1 ≤ k ∧ k ≤ 255 ∧ 0 ≤ t ∧ t ≤ 1048576 ∧ 0 ≤ r ∧ r ≤ 1048576 then (if 2 + t + r < 16777216 ∧ 2 + t + r ≤ n - top then 0 else 5) else 1
set_option maxRecDepth 100000 in
theorem alloc_nil (k t r : Int) (w : World) :
    Calls Try.prog 67 #[.pointer none, .int .i64 k, .int .i64 t, .int .i64 r] w fun e w' => e = .returned (.tuple #[.int .i64 0, .int .i64 1]) ∧ ∃ q, w' = w.drewN q := by
  go_enter Try.func67, Try.ntmps67
  go_wp2_with fail
  go_quiet (fail)
  go_wp2_with fail
  go_ret2
  exact ⟨rfl, _, rfl⟩
set_option maxRecDepth 100000 in
set_option maxHeartbeats 1000000 in
theorem alloc_bad0 (B n c : Nat) (p : Option Addr) (top : Int) (k t r : Int) (w : World) (h0 : w.cell? ⟨B, 0, none⟩ = some (.slice p n c)) (h1 : w.cell? ⟨B, 1, none⟩ = some (.int .i64 top)) (hb : allocErr n top k t r = 1) (hx : -9223372036854775808 ≤ top ∧ top ≤ 9223372036854775807) :
    Calls Try.prog 67 #[.pointer (some ⟨B, 0, none⟩), .int .i64 k, .int .i64 t, .int .i64 r] w fun e w' => e = .returned (.tuple #[.int .i64 0, .int .i64 1]) ∧ ∃ q, w' = w.drewN q := by
  have hb' : ¬ (1 ≤ top ∧ top ≤ n ∧ 1 ≤ k ∧ k ≤ 255 ∧ 0 ≤ t ∧ t ≤ 1048576 ∧ 0 ≤ r ∧ r ≤ 1048576) := by
    intro g
    unfold allocErr at hb
    rw [if_pos g] at hb
    split at hb <;> omega
  clear hb
  by_cases a1 : top < 1
  · have d1 : decide (top < 1) = true := by rw [decide_eq_true_iff]; omega
    go_enter Try.func67, Try.ntmps67
    go_wp2_with fail
    go_quiet (fail)
    go_wp2_with fail
    go_ret2
    exact ⟨rfl, _, rfl⟩
  · by_cases a2 : (n : Int) < top
    · have d1 : decide (top < 1) = false := by rw [decide_eq_false_iff_not]; omega
      have d2 : decide ((n : Int) < top) = true := by rw [decide_eq_true_iff]; omega
      go_enter Try.func67, Try.ntmps67
      go_wp2_with fail
      go_quiet (fail)
      go_wp2_with fail
      go_ret2
      exact ⟨rfl, _, rfl⟩
    · by_cases a3 : k < 1
      · have d1 : decide (top < 1) = false := by rw [decide_eq_false_iff_not]; omega
        have d2 : decide ((n : Int) < top) = false := by rw [decide_eq_false_iff_not]; omega
        have d3 : decide (k < 1) = true := by rw [decide_eq_true_iff]; omega
        go_enter Try.func67, Try.ntmps67
        go_wp2_with fail
        go_quiet (fail)
        go_wp2_with fail
        go_ret2
        exact ⟨rfl, _, rfl⟩
      · by_cases a4 : 255 < k
        · have d1 : decide (top < 1) = false := by rw [decide_eq_false_iff_not]; omega
          have d2 : decide ((n : Int) < top) = false := by rw [decide_eq_false_iff_not]; omega
          have d3 : decide (k < 1) = false := by rw [decide_eq_false_iff_not]; omega
          have d4 : decide ((255 : Int) < k) = true := by rw [decide_eq_true_iff]; omega
          go_enter Try.func67, Try.ntmps67
          go_wp2_with fail
          go_quiet (fail)
          go_wp2_with fail
          go_ret2
          exact ⟨rfl, _, rfl⟩
        · by_cases a5 : t < 0
          · have d1 : decide (top < 1) = false := by rw [decide_eq_false_iff_not]; omega
            have d2 : decide ((n : Int) < top) = false := by rw [decide_eq_false_iff_not]; omega
            have d3 : decide (k < 1) = false := by rw [decide_eq_false_iff_not]; omega
            have d4 : decide ((255 : Int) < k) = false := by rw [decide_eq_false_iff_not]; omega
            have d5 : decide (t < 0) = true := by rw [decide_eq_true_iff]; omega
            go_enter Try.func67, Try.ntmps67
            go_wp2_with fail
            go_quiet (fail)
            go_wp2_with fail
            go_ret2
            exact ⟨rfl, _, rfl⟩
          · by_cases a6 : 1048576 < t
            · have d1 : decide (top < 1) = false := by rw [decide_eq_false_iff_not]; omega
              have d2 : decide ((n : Int) < top) = false := by rw [decide_eq_false_iff_not]; omega
              have d3 : decide (k < 1) = false := by rw [decide_eq_false_iff_not]; omega
              have d4 : decide ((255 : Int) < k) = false := by rw [decide_eq_false_iff_not]; omega
              have d5 : decide (t < 0) = false := by rw [decide_eq_false_iff_not]; omega
              have d6 : decide ((1048576 : Int) < t) = true := by rw [decide_eq_true_iff]; omega
              go_enter Try.func67, Try.ntmps67
              go_wp2_with fail
              go_quiet (fail)
              go_wp2_with fail
              go_ret2
              exact ⟨rfl, _, rfl⟩
            · by_cases a7 : r < 0
              · have d1 : decide (top < 1) = false := by rw [decide_eq_false_iff_not]; omega
                have d2 : decide ((n : Int) < top) = false := by rw [decide_eq_false_iff_not]; omega
                have d3 : decide (k < 1) = false := by rw [decide_eq_false_iff_not]; omega
                have d4 : decide ((255 : Int) < k) = false := by rw [decide_eq_false_iff_not]; omega
                have d5 : decide (t < 0) = false := by rw [decide_eq_false_iff_not]; omega
                have d6 : decide ((1048576 : Int) < t) = false := by rw [decide_eq_false_iff_not]; omega
                have d7 : decide (r < 0) = true := by rw [decide_eq_true_iff]; omega
                go_enter Try.func67, Try.ntmps67
                go_wp2_with fail
                go_quiet (fail)
                go_wp2_with fail
                go_ret2
                exact ⟨rfl, _, rfl⟩
              · have a8 : 1048576 < r := by omega
                have d1 : decide (top < 1) = false := by rw [decide_eq_false_iff_not]; omega
                have d2 : decide ((n : Int) < top) = false := by rw [decide_eq_false_iff_not]; omega
                have d3 : decide (k < 1) = false := by rw [decide_eq_false_iff_not]; omega
                have d4 : decide ((255 : Int) < k) = false := by rw [decide_eq_false_iff_not]; omega
                have d5 : decide (t < 0) = false := by rw [decide_eq_false_iff_not]; omega
                have d6 : decide ((1048576 : Int) < t) = false := by rw [decide_eq_false_iff_not]; omega
                have d7 : decide (r < 0) = false := by rw [decide_eq_false_iff_not]; omega
                have d8 : decide ((1048576 : Int) < r) = true := by rw [decide_eq_true_iff]; omega
                go_enter Try.func67, Try.ntmps67
                go_wp2_with fail
                go_quiet (fail)
                go_wp2_with fail
                go_ret2
                exact ⟨rfl, _, rfl⟩
theorem alloc_bad (B g n c : Nat) (top : Int) (F : Nat → Int) (k t r : Int) (w : World) (h : MA w B g n c top F) (hb : allocErr n top k t r = 1) (hx : -9223372036854775808 ≤ top ∧ top ≤ 9223372036854775807) :
    Calls Try.prog 67 #[.pointer (some ⟨B, 0, none⟩), .int .i64 k, .int .i64 t, .int .i64 r] w fun e w' => e = .returned (.tuple #[.int .i64 0, .int .i64 1]) ∧ ∃ q, w' = w.drewN q :=
  alloc_bad0 B n c _ top k t r w h.box0 h.box1 hb hx
end Go.Proofs.Ytfhjpgbnojdlkaa
