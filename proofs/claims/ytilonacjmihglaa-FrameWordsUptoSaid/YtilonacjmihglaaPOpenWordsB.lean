/- Opening an argument that is a slice of words, with its bulk. -/
import Derived.Test.YtilonacjmihglaaPOpenMem
import Derived.Deep.CondSized
namespace Go.Proofs.Ytilonacjmihglaa
open Go.ChangeShapes Go.WideShapes Go.ChangeAt Go.RowKit Go.Joins
set_option linter.unusedVariables false
set_option linter.unusedSimpArgs false
theorem wbulk_one {H : Type} (d : DataW H) : 1 ≤ Rows.uptoBulk d := by
  cases d with
  | lit l => cases l <;> simp [Rows.uptoBulk]
  | nil => simp [Rows.uptoBulk]
  | ptr d => simp [Rows.uptoBulk]
  | slice elems spare => simp [Rows.uptoBulk]
  | agg parts => simp [Rows.uptoBulk]
  | iface t d => simp [Rows.uptoBulk]
  | map entries => simp [Rows.uptoBulk]
  | held h => simp [Rows.uptoBulk]
theorem wbulk_len {H : Type} : ∀ (l : List (DataW H)), l.length ≤ Rows.uptoBulkAll l
  | [] => by simp
  | x :: r => by
    have h1 := wbulk_one x
    have h2 := wbulk_len r
    simp only [Rows.uptoBulkAll, List.length_cons]; omega
/-- A slice of words. -/
theorem open_wordsB {H : Type} {enc : TypeId × Value → H} {W : World} {fuel : Nat} {v : Value} {x : DataW H × List MemPlace} (h : DataW.trod enc Try.prog W 0 (fun _ => true) true fuel 22 [v] = some x)
    (hz : ∀ y ∈ DataW.weights Try.prog 22 x.1, y ≤ reachBytes) : ∃ ws, Rd W v ws ∧ Fit ws ∧ ws.length ≤ Rows.uptoBulk x.1 := by
  rcases open_ints Try.underlying22 Try.underlying29 (by kernel_rfl) h with ⟨hcs, hx⟩ | ⟨a, len, cap, zs, hcs, _, hl, hm, hzs, hx, hcell, hwz⟩
  · simp at hcs
    exact ⟨[], .inl ⟨none, hcs, rfl⟩, fun i => by simp, by simp⟩
  · simp at hcs
    subst hcs
    simp only [if_true] at hzs
    have hlen : (zs.take len).length ≤ Rows.uptoBulk x.1 := by
      rw [hx]
      have := wbulk_len (H := H) (lits .u64 (zs.take len))
      have hl2 : (lits (H := H) .u64 (zs.take len)).length = (zs.take len).length := by simp [lits]
      simp only [Rows.uptoBulk]
      omega
    have hw : cap * 8 ≤ reachBytes := by
      have := hz ((zs.take len).length * 8 + (zs.drop len).length * 8) (by
        rw [hx]; simp [DataW.weights, Try.underlying22, bytesU64, lits, Nat.add_mul])
      rw [← Nat.add_mul, ← List.length_append, List.take_append_drop, hzs] at this
      exact this
    have hcap : cap ≤ 17592186043904 := by unfold reachBytes at hw; omega
    by_cases hc0 : cap = 0
    · subst hc0
      obtain rfl : len = 0 := by omega
      exact ⟨[], .inl ⟨some a, rfl, rfl⟩, fun i => by simp, by simp⟩
    · obtain ⟨b, off, s⟩ := a
      have h0 := hcell 0 (by omega)
      have hs : s = none := by simpa [Addr.add] using World.cell?_spot h0
      subst hs
      refine ⟨zs.take len, .inr ⟨b, off, cap, by rw [List.length_take, hzs, Nat.min_eq_left hl], by rw [List.length_take]; omega, by rw [List.length_take]; omega, fun i hi => ?_⟩, fit_of hwz len, hlen⟩
      rw [List.length_take] at hi
      rw [getD_take, if_pos (by omega)]
      have := hcell i (by omega)
      unfold Addr.add at this
      split at this
      · rename_i e; subst e; simpa using this
      · simpa using this
set_option maxRecDepth 100000 in
theorem open_wordsBArg {H : Type} {enc : TypeId × Value → H} {W : World} {b0 : Nat} {v : Value} {d : DataW H} {p : List MemPlace} (hv : Value.okWide Try.prog W .any b0 22 v)
    (h : DataW.Trod enc Try.prog W 0 (fun _ => true) true 22 v d p) (hz : ∀ x ∈ DataW.weights Try.prog 22 d, x ≤ reachBytes) : ∃ ws, Rd W v ws ∧ Fit ws ∧ ws.length ≤ Rows.uptoBulk d := by
  obtain ⟨a, n, c, rfl⟩ := okWide_slice Try.underlying22 hv
  obtain ⟨f, hf⟩ := h
  exact open_wordsB (x := (d, p)) (by simpa [Value.cells] using hf) hz
end Go.Proofs.Ytilonacjmihglaa
