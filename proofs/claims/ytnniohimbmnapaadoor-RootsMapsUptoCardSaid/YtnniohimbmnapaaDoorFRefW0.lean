/- Layer 10: the document's Ways out of range. -/
import Derived.Test.YtnniohimbmnapaaDoorFHand
namespace Go.Proofs.YtnniohimbmnapaaDoor
open Go Go.ChangeShapes Go.WideShapes Go.RowKit
set_option linter.unusedVariables false
set_option linter.unusedSimpArgs false
set_option maxRecDepth 100000 in
set_option maxHeartbeats 2000000 in
theorem rways_none (r : RestV) (F : FuncD) (iv rv : Value) (x : Int) (w : World) (hI : Ii w iv F.ins) (hR : Rg w rv F.regions) (hx : inB x F.ins.length = false) :
    Calls Tryd.prog 20 #[funcV r F iv rv, .int .i64 x] w fun e w' => e = .returned (.slice none 0 0) ∧ Below w.heap.size w w' := by
  unfold funcV
  obtain ⟨p, c, rfl, hc, hm, hp⟩ := ii_form hI
  obtain ⟨p2, c2, rfl, hc2, hm2, hp2⟩ := rg_form hR
  have hx : x < 0 ∨ (0 ≤ x ∧ (F.ins.length : Int) ≤ x) := by unfold inB at hx; simp at hx; omega
  clear hp hp2 hI hR
  rcases hx with hx | ⟨hx, hx2⟩
  · go_enter Tryd.func20, Tryd.ntmps20
    go_wp2_with fail
    go_ret
    exact ⟨rfl, by ((repeat' (first | with_reducible assumption | with_reducible exact Below.refl _ _ | with_reducible refine Below.drew ?_ | with_reducible refine Below.alloc ?_ (by first | omega | (simp; omega) | (simp; done) | fail) _ | with_reducible refine Below.setCell ?_ (by first | omega | (simp; omega) | (simp; done) | fail) _ | fail)); (first | done | fail))⟩
  · have hx3 : ¬ x < 0 := by omega
    have hx4 : x ≥ (F.ins.length : Int) := by omega
    go_enter Tryd.func20, Tryd.ntmps20
    go_wp2_with fail
    go_ret
    exact ⟨rfl, by ((repeat' (first | with_reducible assumption | with_reducible exact Below.refl _ _ | with_reducible refine Below.drew ?_ | with_reducible refine Below.alloc ?_ (by first | omega | (simp; omega) | (simp; done) | fail) _ | with_reducible refine Below.setCell ?_ (by first | omega | (simp; omega) | (simp; done) | fail) _ | fail)); (first | done | fail))⟩
end Go.Proofs.YtnniohimbmnapaaDoor
