/- Opening an argument that is a slice of words. -/
import Derived.Test.YtfhjpgbnojdlkaaPOpenMem
namespace Go.Proofs.Ytfhjpgbnojdlkaa
open Go.ChangeShapes Go.WideShapes Go.ChangeAt Go.RowKit Go.Joins
set_option linter.unusedVariables false
set_option linter.unusedSimpArgs false
set_option maxRecDepth 100000 in
theorem open_wordsArg {H : Type} {enc : TypeId × Value → H} {W : World} {b0 : Nat} {v : Value} {d : DataW H} {p : List MemPlace} (hv : Value.okWide Try.prog W .any b0 22 v)
    (h : DataW.Trod enc Try.prog W 0 (fun _ => true) true 22 v d p) (hz : ∀ x ∈ DataW.weights Try.prog 22 d, x ≤ reachBytes) : ∃ ws, Rd W v ws ∧ Fit ws := by
  obtain ⟨a, n, c, rfl⟩ := okWide_slice Try.underlying22 hv
  obtain ⟨f, hf⟩ := h
  exact open_words (x := (d, p)) (by simpa [Value.cells] using hf) hz
end Go.Proofs.Ytfhjpgbnojdlkaa
