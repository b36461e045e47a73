/- The contract of the document's comparison of two lists of numbers, where both read alike. -/
import Derived.Test.YtilonacjmihglaaPGCheck
namespace Go.Proofs.Ytilonacjmihglaa
open Go.ChangeShapes Go.WideShapes Go.ChangeAt Go.RowKit
set_option linter.unusedVariables false
set_option linter.unusedSimpArgs false
def Ri (w : World) (v : Value) (l : List Nat) : Prop :=
  (v = .slice none 0 0 ∧ l = []) ∨ ∃ g cap, v = .slice (some ⟨g, 0, none⟩) l.length cap ∧ l.length ≤ 9223372036854775807 ∧ ∀ i x, l[i]? = some x → w.cell? ⟨g, i, none⟩ = some (.int .i64 (x : Nat))
theorem Ri.keep {w w' : World} {v : Value} {l : List Nat} (h : Ri w v l) (hb : Below w.heap.size w w') : Ri w' v l := by
  rcases h with h | ⟨g, cap, rfl, h1, h2⟩
  · exact .inl h
  · exact .inr ⟨g, cap, rfl, h1, fun i x hx => below_cell hb (h2 i x hx)⟩
end Go.Proofs.Ytilonacjmihglaa
