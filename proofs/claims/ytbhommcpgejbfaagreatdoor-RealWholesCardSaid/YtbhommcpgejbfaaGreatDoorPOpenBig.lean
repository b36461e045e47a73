/- Opening an argument that is a big number (a struct of a sign and a list of words): what the walk is told of it. -/
import Derived.Test.YtbhommcpgejbfaaGreatDoorRows
import Derived.Test.YtbhommcpgejbfaaGreatDoorPRd
import Derived.ProofKit
import Derived.OpenShut
import Derived.SizedLaws
import Derived.Lib.SmallJoins
import Derived.Carry
namespace Go.Proofs.YtbhommcpgejbfaaGreatDoor
open Go.ChangeShapes Go.WideShapes Go.ChangeAt Go.RowKit Go.Joins
set_option linter.unusedVariables false
set_option linter.unusedSimpArgs false
theorem bytesU64 : Tryz.prog.bytesOf 22 = 8 := by kernel_rfl
theorem own : ownKnob Tryz.prog.godebug = none := by kernel_rfl
theorem laidOut : laidOutB Tryz.prog = true := by kernel_rfl
theorem fit_of {ws : List Int} (h : ∀ n ∈ ws, (Lit.int .u64 n).wf = true) (k : Nat) : Fit (ws.take k) := by
  intro i
  rw [getD_take]
  split
  · rw [List.getD_eq_getElem?_getD]
    cases hi : ws[i]? with
    | none => simp
    | some x => simpa using wfu (h x (List.mem_of_getElem? hi))
  · omega
/-- A slice of words. -/
theorem open_words {H : Type} {enc : TypeId × Value → H} {W : World} {fuel : Nat} {v : Value} {x : DataW H × List MemPlace} (h : DataW.trod enc Tryz.prog W 0 (fun _ => true) true fuel 23 [v] = some x)
    (hz : ∀ y ∈ DataW.weights Tryz.prog 23 x.1, y ≤ reachBytes) : ∃ ws, Rd W v ws ∧ Fit ws := by
  rcases open_ints Tryz.underlying23 Tryz.underlying22 (by kernel_rfl) h with ⟨hcs, hx⟩ | ⟨a, len, cap, zs, hcs, _, hl, hm, hzs, hx, hcell, hwz⟩
  · simp at hcs
    exact ⟨[], .inl ⟨none, hcs, rfl⟩, fun i => by simp⟩
  · simp at hcs
    subst hcs
    simp only [if_true] at hzs
    have hw : cap * 8 ≤ reachBytes := by
      have := hz ((zs.take len).length * 8 + (zs.drop len).length * 8) (by
        rw [hx]; simp [DataW.weights, Tryz.underlying23, bytesU64, lits, Nat.add_mul])
      rw [← Nat.add_mul, ← List.length_append, List.take_append_drop, hzs] at this
      exact this
    have hcap : cap ≤ 17592186043904 := by unfold reachBytes at hw; omega
    by_cases hc0 : cap = 0
    · subst hc0
      obtain rfl : len = 0 := by omega
      exact ⟨[], .inl ⟨some a, rfl, rfl⟩, fun i => by simp⟩
    · obtain ⟨b, off, s⟩ := a
      have h0 := hcell 0 (by omega)
      have hs : s = none := by simpa [Addr.add] using World.cell?_spot h0
      subst hs
      refine ⟨zs.take len, .inr ⟨b, off, cap, by rw [List.length_take, hzs, Nat.min_eq_left hl], by rw [List.length_take]; omega, by rw [List.length_take]; omega, fun i hi => ?_⟩, fit_of hwz len⟩
      rw [List.length_take] at hi
      rw [getD_take, if_pos (by omega)]
      have := hcell i (by omega)
      unfold Addr.add at this
      split at this
      · rename_i e; subst e; simpa using this
      · simpa using this
set_option maxRecDepth 100000 in
theorem open_big {H : Type} {enc : TypeId × Value → H} {W : World} {b0 : Nat} {v : Value} {d : DataW H} {p : List MemPlace} (hv : Value.okWide Tryz.prog W .any b0 25 v)
    (h : DataW.Trod enc Tryz.prog W 0 (fun _ => true) true 25 v d p) (hz : ∀ x ∈ DataW.weights Tryz.prog 25 d, x ≤ reachBytes) :
    ∃ n u ws, v = .agg #[.bool n, u] ∧ Rd W u ws ∧ Fit ws := by
  obtain ⟨c0, c1, y0, y1, m, rfl, rfl, rfl, hy0, hy1⟩ := open_agg2 Tryz.underlying25 (by kernel_rfl) (by kernel_rfl) hv h
  obtain ⟨a, e0, hyy⟩ := DataW.trod_bool Tryz.underlying4 hy0
  simp at e0
  subst e0
  obtain ⟨ws, hr, hf⟩ := open_words hy1 (fun y hy => hz y (by simp [DataW.weights, DataW.weightsEach, Tryz.underlying25]; exact .inr hy))
  exact ⟨a, c1, ws, rfl, hr, hf⟩
end Go.Proofs.YtbhommcpgejbfaaGreatDoor
