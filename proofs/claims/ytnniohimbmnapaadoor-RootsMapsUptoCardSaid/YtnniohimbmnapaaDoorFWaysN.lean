/- Layer 10: flow.Ways out of range. -/
import Derived.Test.YtnniohimbmnapaaDoorFWays
namespace Go.Proofs.YtnniohimbmnapaaDoor
open Go Go.ChangeShapes Go.WideShapes Go.RowKit
set_option linter.unusedVariables false
set_option linter.unusedSimpArgs false
set_option maxRecDepth 100000 in
set_option maxHeartbeats 2000000 in
theorem ways_none (r : RestV) (F : FuncD) (iv rv : Value) (x : Int) (w : World) (hI : Ii w iv F.ins) (hR : Rg w rv F.regions) (hx : inB x F.ins.length = false) :
    Calls Tryd.prog 19 #[funcV r F iv rv, .int .i64 x] w fun e w' => e = .returned (.slice none 0 0) ∧ Below w.heap.size w w' := by
  have HW := Lib.hid (within_any x F.ins.length)
  rw [hx] at HW
  unfold funcV
  obtain ⟨p, c, rfl, hc, hm, hp⟩ := ii_form hI
  obtain ⟨p2, c2, rfl, hc2, hm2, hp2⟩ := rg_form hR
  clear hp hp2 hI hR hx
  refine calls_of_marks Tryd.func19 rfl ?_
  simp only [Tryd.ntmps19, List.size_toArray, List.length_cons, List.length_nil, Nat.reduceAdd, Nat.reduceSub, Array.replicate_succ, Array.replicate_zero, List.push_toArray, List.append_toArray, List.nil_append, List.cons_append]
  go_wp2_with (first | (go_at_call 45; (with_reducible refine (HW.out _).mono ?_); rintro e w9 ⟨rfl, rfl⟩) | fail)
  exact ⟨_, results_tmp rfl _ _ _, rfl, by ((repeat' (first | with_reducible assumption | with_reducible exact Below.refl _ _ | with_reducible refine Below.drew ?_ | with_reducible refine Below.alloc ?_ (by first | omega | (simp; omega) | (simp; done) | fail) _ | with_reducible refine Below.setCell ?_ (by first | omega | (simp; omega) | (simp; done) | fail) _ | fail)); (first | done | fail))⟩
end Go.Proofs.YtnniohimbmnapaaDoor
