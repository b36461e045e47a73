/- Layer 8: the document's rows: RowOf, of every number. -/
import Derived.Test.YtnniohimbmnapaaDoorFRow0
import Derived.Test.YtnniohimbmnapaaDoorFDoes
namespace Go.Proofs.YtnniohimbmnapaaDoor
open Go.ChangeShapes Go.WideShapes Go.RowKit
set_option linter.unusedVariables false
set_option linter.unusedSimpArgs false
def rowV (r : RowD) : Value := .agg #[.bool r.kn, .bool r.d, .bool r.a, .bool r.b, .bool r.t, .int .i64 r.l, .int .i64 r.k, .int .i64 r.lo, .int .i64 r.hi]
set_option maxRecDepth 100000 in
set_option maxHeartbeats 20000000 in
theorem rowof_any (op : Int) (w : World) : Calls Tryd.prog 53 #[.int .i64 op] w fun e w' => e = .returned (rowV (rowAt op)) ∧ Below w.heap.size w w' := by
  go_enter Tryd.func53, Tryd.ntmps53
  go_wp2
  all_goals first
    | (rename_i h; obtain rfl := eq_of_beq h; (refine bodyPost_ret (v := rowV (rowAt _)) ?_ rfl ⟨rfl, ?_⟩); · simp [results, Tryd.results53, rowV, rowAt, rowT, go_sem]
       · ((repeat' (first | with_reducible assumption | with_reducible exact Below.refl _ _ | with_reducible refine Below.drew ?_ | with_reducible refine Below.alloc ?_ (by first | omega | (simp; omega) | (simp; done) | fail) _ | with_reducible refine Below.setCell ?_ (by first | omega | (simp; omega) | (simp; done) | fail) _ | fail)); (first | done | fail)))
    | (have hz : rowAt op = rowZ := by (unfold rowAt; rw [if_neg]; intro hh; simp only [beq_eq_false_iff_ne, ne_eq] at *; omega)
       rw [hz]
       (refine bodyPost_ret (v := rowV rowZ) ?_ rfl ⟨rfl, ?_⟩)
       · simp [results, Tryd.results53, rowV, rowZ, go_sem]
       · ((repeat' (first | with_reducible assumption | with_reducible exact Below.refl _ _ | with_reducible refine Below.drew ?_ | with_reducible refine Below.alloc ?_ (by first | omega | (simp; omega) | (simp; done) | fail) _ | with_reducible refine Below.setCell ?_ (by first | omega | (simp; omega) | (simp; done) | fail) _ | fail)); (first | done | fail)))
end Go.Proofs.YtnniohimbmnapaaDoor
