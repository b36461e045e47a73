/- The document's own list of all objects where the sizes or the first word of a memory are wrong. -/
import Derived.Test.YtfhjpgbnojdlkaaRefAll
namespace Go.Proofs.Ytfhjpgbnojdlkaa
open Go.ChangeShapes Go.WideShapes Go.ChangeAt Go.RowKit
set_option linter.unusedVariables false
set_option linter.unusedSimpArgs false
theorem AllPost.no' {W w' : World} {ws : List Int} {top : Int} (h : sizesOk ws top = false) (hb : Below W.heap.size W w') : AllPost W ws top (.returned (.tuple #[.slice none 0 0, .bool false])) w' :=
  AllPost.no (by unfold memOk; rw [h]; rfl) hb
set_option maxRecDepth 100000 in
set_option maxHeartbeats 1000000 in
theorem refall_no (v : Value) (ws : List Int) (top : Int) (w : World) (hr : Rd w v ws) (hf : Fit ws) (ht : -9223372036854775808 ≤ top ∧ top ≤ 9223372036854775807) (hno : sizesOk ws top = false) :
    Calls Try.prog 46 #[.agg #[v, .int .i64 top]] w (AllPost w ws top) := by
  have HN := Lib.hid hno
  simp only [sizesOk, decide_eq_false_iff_not] at hno
  by_cases h1 : ws.length < 2
  · rcases hr with ⟨p0, rfl, rfl⟩ | ⟨b, off, c, rfl, hl, hc, hcell⟩
    · go_enter Try.func46, Try.ntmps46
      go_wp2_with fail
      go_ret2
      exact AllPost.no' HN.out ((Below.refl _ _).alloc (Nat.le_refl _) _)
    · clear hcell
      go_enter Try.func46, Try.ntmps46
      go_wp2_with fail
      go_ret2
      exact AllPost.no' HN.out ((Below.refl _ _).alloc (Nat.le_refl _) _)
  · obtain ⟨b, off, c, rfl, hl, hc, hcell⟩ := hr.some (by omega)
    have hc0 := fun o => alloc_cell (hcell 0 (by omega)) o
    rw [Nat.add_zero] at hc0
    clear hcell hr
    by_cases h2 : 1048576 < ws.length
    · go_enter Try.func46, Try.ntmps46
      go_wp2_with fail
      go_ret2
      exact AllPost.no' HN.out ((Below.refl _ _).alloc (Nat.le_refl _) _)
    · by_cases h3 : top < 1
      · go_enter Try.func46, Try.ntmps46
        go_wp2_with fail
        go_ret2
        exact AllPost.no' HN.out ((Below.refl _ _).alloc (Nat.le_refl _) _)
      · by_cases h4 : (ws.length : Int) < top
        · go_enter Try.func46, Try.ntmps46
          go_wp2_with fail
          go_ret2
          exact AllPost.no' HN.out ((Below.refl _ _).alloc (Nat.le_refl _) _)
        · have h5 : ws.getD 0 0 ≠ 0 := fun e => hno ⟨by omega, by omega, by omega, by omega, e⟩
          generalize ws.getD 0 0 = x at *
          have h6 : (x != 0) = true := by simpa using h5
          have j0 : 0 < ws.length := by omega
          clear h5 hno
          go_enter Try.func46, Try.ntmps46
          go_wp2_with fail
          go_ret2
          exact AllPost.no' HN.out ((Below.refl _ _).alloc (Nat.le_refl _) _)
theorem refall_any (v : Value) (ws : List Int) (top : Int) (w : World) (hr : Rd w v ws) (hf : Fit ws) (ht : -9223372036854775808 ≤ top ∧ top ≤ 9223372036854775807) :
    Calls Try.prog 46 #[.agg #[v, .int .i64 top]] w (AllPost w ws top) := by
  by_cases h : sizesOk ws top = true
  · exact refall_yes v ws top w hr hf h
  · exact refall_no v ws top w hr hf ht (by simpa using h)
end Go.Proofs.Ytfhjpgbnojdlkaa
