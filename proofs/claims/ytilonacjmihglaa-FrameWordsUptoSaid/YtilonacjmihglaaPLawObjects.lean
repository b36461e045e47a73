/- The law of ArenaObjects, walked: it answers true and changes nothing that was there. -/
import Derived.Test.YtilonacjmihglaaPGRefAll
import Derived.Test.YtilonacjmihglaaPObjects
import Derived.Test.YtilonacjmihglaaPSameInts
import Derived.Test.YtilonacjmihglaaPKnown13
import Derived.Deep.RegionHeld3
namespace Go.Proofs.Ytilonacjmihglaa
open Go.ChangeShapes Go.WideShapes Go.ChangeAt Go.RowKit
set_option linter.unusedVariables false
set_option linter.unusedSimpArgs false
theorem ri_own {w : World} {B : Nat} {u : Value} {l : List Nat} (h : w.ownsRow B 3 1 u l.length (natVals l)) (hm : l.length ≤ 9223372036854775807) : Ri w u l := by
  have h0 := h
  rcases h.2 with ⟨rfl, h2⟩ | ⟨g, cap, cur, rfl, hg, r1, r2, r3, r4, r5⟩
  · exact .inl ⟨rfl, List.length_eq_zero_iff.1 h2⟩
  · refine .inr ⟨g, cap, rfl, hm, fun i x hx => ?_⟩
    have hi : i < l.length := by
      rw [List.getElem?_eq_some_iff] at hx
      exact hx.1
    rw [h0.cellAt i (by omega)]
    simp [natVals, hx]
theorem scanF_len (ws : List Int) : ∀ (f k : Nat) (l : List Nat), scanF ws f k = some l → l.length ≤ f := by
  intro f
  induction f with
  | zero =>
    intro k l h
    simp only [scanF] at h
    split at h
    · cases h
    · simp only [Option.some.injEq] at h; subst h; simp
  | succ f ih =>
    intro k l h
    simp only [scanF] at h
    split at h
    · split at h
      · rw [Option.map_eq_some_iff] at h
        obtain ⟨r, hr, rfl⟩ := h
        have := ih _ _ hr
        simp; omega
      · cases h
    · simp only [Option.some.injEq] at h; subst h; simp
theorem objList_len (ws : List Int) (top : Int) : (objList ws top).length ≤ 9223372036854775807 := by
  unfold objList
  split
  · rename_i hm
    cases hs : scan (ws.take top.toNat) 1 with
    | none => simp
    | some l =>
      have h1 := scanF_len _ _ _ _ hs
      unfold memOk sizesOk at hm
      simp only [Bool.and_eq_true, decide_eq_true_eq] at hm
      rw [List.length_take] at h1
      simp only [Option.getD_some]
      omega
  · simp
theorem Ri.form {w : World} {v : Value} {l : List Nat} (h : Ri w v l) : ∃ p c, v = .slice p l.length c := by
  rcases h with ⟨rfl, rfl⟩ | ⟨g, c, rfl, _⟩
  · exact ⟨none, 0, rfl⟩
  · exact ⟨_, c, rfl⟩
end Go.Proofs.Ytilonacjmihglaa
