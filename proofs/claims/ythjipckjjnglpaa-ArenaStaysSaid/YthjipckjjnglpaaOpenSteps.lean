/- An argument that is a slice of ArenaStays' steps, opened. -/
import Derived.Test.YthjipckjjnglpaaLawStays
import Derived.Test.YthjipckjjnglpaaOpenMem
import Derived.Deep.Slices
import Derived.ChangeArms
namespace Go.Proofs.Ythjipckjjnglpaa
open Go.ChangeShapes Go.WideShapes Go.ChangeAt Go.RowKit
set_option linter.unusedVariables false
set_option linter.unusedSimpArgs false
set_option maxRecDepth 100000 in
theorem open_steps {H : Type} {enc : TypeId × Value → H} {W : World} {fuel : Nat} {v : Value} {x : DataW H × List MemPlace} (h : DataW.trod enc Try.prog W 0 (fun _ => true) true fuel 47 [v] = some x) :
    ∃ p len cap, v = .slice p len cap ∧ Steps W p len := by
  have hC : Try.prog.cellsOf 49 = 5 := by kernel_rfl
  have hI : Try.prog.cellsOf 3 = 1 := by kernel_rfl
  have hB : Try.prog.cellsOf 4 = 1 := by kernel_rfl
  have hU : Try.prog.cellsOf 33 = 1 := by kernel_rfl
  rcases Go.Deep.open_slice Try.underlying47 h with ⟨hcs, _⟩ | ⟨a, len, cap, m, n, D, Pl, hcs, hb, hl, hm, hmm, hx, hi⟩
  · simp at hcs
    exact ⟨none, 0, 0, hcs, by omega, fun i hi => by omega⟩
  · simp at hcs
    simp only [if_true] at hmm
    refine ⟨some a, len, cap, hcs, by unfold maxLen at hm; omega, fun i hil => ?_⟩
    obtain ⟨b, off, s⟩ := a
    have hs : s = none := by
      obtain ⟨cs0, hc0, _⟩ := hi 0 (by omega)
      rw [hC] at hc0
      obtain ⟨_, hl0, h0⟩ := World.cells?_some hc0
      have h00 := h0 0 (by omega)
      rw [List.getElem?_eq_getElem (by omega)] at h00
      simpa [Addr.add] using World.cell?_spot h00
    subst hs
    obtain ⟨cs', hc, ht'⟩ := hi i (by omega)
    rw [hC] at hc
    obtain ⟨ys, n', hn', hy, hlen, hyl, hf⟩ := DataW.trod_struct Try.underlying49 ht'
    obtain ⟨_, hcl, hat⟩ := World.cells?_some hc
    match cs', hcl with
    | [c0, c1, c2, c3, c4], _ =>
      have f0 := hf 0 _ rfl
      have f1 := hf 1 _ rfl
      have f2 := hf 2 _ rfl
      have f3 := hf 3 _ rfl
      have f4 := hf 4 _ rfl
      have g0 := hat 0 (by omega)
      have g1 := hat 1 (by omega)
      have g2 := hat 2 (by omega)
      have g3 := hat 3 (by omega)
      have g4 := hat 4 (by omega)
      match ys, hyl with
      | [y0, y1, y2, y3, y4], _ =>
        simp only [hI, hB, hU, List.drop_zero, List.drop_succ_cons, List.take_succ_cons, List.take_zero, List.getElem?_cons_zero, List.getElem?_cons_succ] at f0 f1 f2 f3 f4 g0 g1 g2 g3 g4
        obtain ⟨st, e0, _⟩ := DataW.trod_bool Try.underlying4 f0
        obtain ⟨k, e1, _, wk⟩ := DataW.trod_int Try.underlying3 f1
        obtain ⟨t, e2, _, wt⟩ := DataW.trod_int Try.underlying3 f2
        obtain ⟨r, e3, _, wr⟩ := DataW.trod_int Try.underlying3 f3
        obtain ⟨u, e4, _, wu⟩ := DataW.trod_int Try.underlying33 f4
        simp [hI, hB, hU] at e0 e1 e2 e3 e4
        subst e0 e1 e2 e3 e4
        have q0 : ∀ j, (Addr.add (⟨b, off, none⟩ : Addr) j) = ⟨b, off + j, none⟩ := fun j => by
          unfold Addr.add; split
          · rename_i e; subst e; rfl
          · rfl
        simp only [q0, Nat.add_zero, Nat.add_assoc] at g0 g1 g2 g3 g4
        refine ⟨b, off, rfl, st, k, t, r, u, ?_⟩
        unfold StepAt
        simp only [Nat.add_assoc]
        exact ⟨g0, g1, g2, g3, g4, wfi wk, wfi wt, wfi wr, wu⟩
end Go.Proofs.Ythjipckjjnglpaa
