/- Layer 4: the document's words, names and symbols. -/
import Derived.Test.YtcjomeghcihecaaDoorPLxB2
namespace Go.Proofs.YtcjomeghcihecaaDoor
open Go Go.ChangeShapes Go.WideShapes Go.ChangeAt Go.RowKit Go.PlainAid Go.Maps
set_option linter.unusedVariables false
set_option linter.unusedSimpArgs false
set_option maxRecDepth 100000 in
set_option maxHeartbeats 8000000 in
theorem isword_any (l : Bs) (w : World) : Calls Tryd.prog 14 #[.string (bsOf l)] w fun e w' => e = .returned (.bool (wordsB.contains l)) ∧ w' = w := by
  have hs : (bsOf l).toList = l := by simp [bsOf]
  obtain ⟨s, hsq⟩ : ∃ s, bsOf l = s := ⟨_, rfl⟩
  rw [hsq] at hs ⊢
  subst hs
  clear hsq
  obtain ⟨cb, hcb⟩ : ∃ x, wordsB.contains s.toList = x := ⟨_, rfl⟩
  rw [hcb]
  have HCB := Lib.hid hcb
  clear hcb
  go_enter Tryd.func14, Tryd.ntmps14
  go_wp2_with fail
  all_goals refine bodyPost_ret (v := .bool cb) ?_ rfl ⟨rfl, rfl⟩
  all_goals (simp [results, Tryd.results14, go_sem])
  all_goals (rw [← HCB.out])
  all_goals (first | (simp only [wordsB, List.contains_cons, List.contains_nil, *, Bool.true_or, Bool.false_or, Bool.or_true, Bool.or_false]; done) | (exfalso; simp_all; done) | fail)
set_option maxRecDepth 100000 in
set_option maxHeartbeats 8000000 in
theorem issymbol_any (l : Bs) (w : World) : Calls Tryd.prog 15 #[.string (bsOf l)] w fun e w' => e = .returned (.bool (symsB.contains l)) ∧ w' = w := by
  have hs : (bsOf l).toList = l := by simp [bsOf]
  obtain ⟨s, hsq⟩ : ∃ s, bsOf l = s := ⟨_, rfl⟩
  rw [hsq] at hs ⊢
  subst hs
  clear hsq
  obtain ⟨cb, hcb⟩ : ∃ x, symsB.contains s.toList = x := ⟨_, rfl⟩
  rw [hcb]
  have HCB := Lib.hid hcb
  clear hcb
  go_enter Tryd.func15, Tryd.ntmps15
  go_wp2_with fail
  all_goals refine bodyPost_ret (v := .bool cb) ?_ rfl ⟨rfl, rfl⟩
  all_goals (simp [results, Tryd.results15, go_sem])
  all_goals (rw [← HCB.out])
  all_goals (first | (simp only [symsB, List.contains_cons, List.contains_nil, *, Bool.true_or, Bool.false_or, Bool.or_true, Bool.or_false]; done) | (exfalso; simp_all; done) | fail)
end Go.Proofs.YtcjomeghcihecaaDoor
