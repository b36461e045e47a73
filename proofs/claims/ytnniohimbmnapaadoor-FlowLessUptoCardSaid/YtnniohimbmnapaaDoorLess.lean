/- Layer 10: what is live once an instruction does nothing: the mathematics of FlowLess. -/
import Derived.Test.YtnniohimbmnapaaDoorLvPure2
namespace Go.Proofs.YtnniohimbmnapaaDoor
set_option linter.unusedVariables false
/-- At x the changed function reads nothing, and each of its ways leads where one of the old ways led that writes no more than W beside what the new one writes; elsewhere nothing has turned: so outside W nothing has become live. -/
theorem less_live {G G' : Gr} {x : Nat} {W : List Nat} (hr : ∀ y, y ≠ x → G'.reads y = G.reads y) (hr0 : G'.reads x = []) (hw : ∀ y, y ≠ x → G'.ways y = G.ways y)
    (hwx : ∀ w ∈ G'.ways x, ∃ w2 ∈ G.ways x, w2.1 = w.1 ∧ ∀ r ∈ w2.2, r ∈ W ∨ r ∈ w.2) {y r : Nat} (h : Lv G' y r) (hrW : r ∉ W) : Lv G y r := by
  induction h with
  | @read y r hm =>
    by_cases e : y = x
    · rw [e, hr0] at hm
      cases hm
    · exact .read (by rw [← hr y e]; exact hm)
  | @way y r w hm hn _ ih =>
    have ih := ih hrW
    by_cases e : y = x
    · subst e
      obtain ⟨w2, h1, h2, h3⟩ := hwx w hm
      exact .way h1 (fun h4 => (h3 _ h4).elim hrW hn) (by rw [h2]; exact ih)
    · exact .way (by rw [← hw y e]; exact hm) hn ih
end Go.Proofs.YtnniohimbmnapaaDoor
