/- Opening an argument that is a slice of slices of ints. -/
import Derived.Test.YtfddcmapjnkhhaaRows
import Derived.Test.YtfddcmapjnkhhaaMRd
import Derived.ProofKit
import Derived.OpenShut
import Derived.SizedLaws
import Derived.Lib.SmallJoins
import Derived.Carry
import Derived.Deep.Matrix
import Derived.ChangeArms
namespace Go.Proofs.Ytfddcmapjnkhhaa
open Go.ChangeShapes Go.WideShapes Go.ChangeAt Go.RowKit Go.Joins
set_option linter.unusedVariables false
set_option linter.unusedSimpArgs false
theorem bytesInt : Try.prog.bytesOf 3 = 8 := by kernel_rfl
theorem bytesInts : Try.prog.bytesOf 24 = 24 := by kernel_rfl
theorem own : ownKnob Try.prog.godebug = none := by kernel_rfl
theorem laidOut : laidOutB Try.prog = true := by kernel_rfl
theorem weightsAll_mem {H : Type} {P : Program} {e : TypeId} {d : DataW H} {y : Nat} : ∀ {l : List (DataW H)}, d ∈ l → y ∈ d.weights P e → y ∈ DataW.weightsAll P e l
  | a :: r, hm, hy => by
    unfold DataW.weightsAll
    rcases List.mem_cons.1 hm with rfl | hm
    · exact List.mem_append.2 (.inl hy)
    · exact List.mem_append.2 (.inr (weightsAll_mem hm hy))
/-- One row. -/
theorem ri_row {H : Type} {W : World} {a : Option Addr} {L C : Nat} {Z : List Int} (hw : ∀ y ∈ DataW.weights Try.prog 24 (Go.Deep.intRow (H := H) .i64 a L Z), y ≤ reachBytes) (h1 : L ≤ C) (h3 : Z.length = C) (h4 : a = none → C = 0)
    (h5 : ∀ a', a = some a' → ∀ c, c < C → W.cell? (a'.add c) = some (.int .i64 (Z.getD c 0))) : Ri W (.slice a L C) (Z.take L) := by
  have hll : (Z.take L).length = L := by rw [List.length_take, h3]; omega
  cases a with
  | none =>
    obtain rfl := h4 rfl
    obtain rfl : L = 0 := by omega
    exact .inl ⟨none, rfl, by simp⟩
  | some a =>
    have hc : C * 8 ≤ reachBytes := by
      have := hw ((Z.take L).length * 8 + (Z.drop L).length * 8) (by
        simp [Go.Deep.intRow, DataW.weights, Try.underlying24, bytesInt, lits, Nat.add_mul])
      rw [← Nat.add_mul, ← List.length_append, List.take_append_drop, h3] at this
      exact this
    have hcap : C ≤ 17592186043904 := by unfold reachBytes at hc; omega
    by_cases hc0 : C = 0
    · subst hc0
      obtain rfl : L = 0 := by omega
      exact .inl ⟨some a, rfl, by simp⟩
    · obtain ⟨b, off, s⟩ := a
      have h0 := h5 _ rfl 0 (by omega)
      have hs : s = none := by simpa [Addr.add] using World.cell?_spot h0
      subst hs
      refine .inr ⟨b, off, C, by rw [hll], by omega, by omega, fun i hi => ?_⟩
      have := h5 _ rfl i (by omega)
      rw [show (Z.take L).getD i 0 = Z.getD i 0 by rw [List.getD_eq_getElem?_getD, List.getD_eq_getElem?_getD, List.getElem?_take, if_pos (by omega)]]
      unfold Addr.add at this
      split at this
      · rename_i e; subst e; simpa using this
      · simpa using this
theorem open_rows {H : Type} {enc : TypeId × Value → H} {W : World} {fuel : Nat} {v : Value} {x : DataW H × List MemPlace} (h : DataW.trod enc Try.prog W 0 (fun _ => true) true fuel 22 [v] = some x)
    (hz : ∀ y ∈ DataW.weights Try.prog 22 x.1, y ≤ reachBytes) : ∃ ls, Rm W v ls ∧ ∀ i, (ls.getD i []).length ≤ 17592186043904 := by
  rcases Go.Deep.open_int_rows Try.underlying22 Try.underlying24 Try.underlying3 (by kernel_rfl) (by kernel_rfl) h with ⟨hcs, hx⟩ | ⟨a, len, cap, A, L, C, Z, hcs, _, hl, hm, hx, hcell⟩
  · simp at hcs
    exact ⟨[], .inl ⟨none, hcs, rfl⟩, fun i => by simp⟩
  · simp at hcs
    subst hcs
    subst hx
    have hw : cap * 24 ≤ reachBytes := by
      have := hz ((len + (cap - len)) * 24) (by
        simp [DataW.weights, Try.underlying22, bytesInts])
      rwa [show len + (cap - len) = cap by omega] at this
    have hcap : cap ≤ 17592186043904 := by unfold reachBytes at hw; omega
    have hrow : ∀ r, r < len → Ri W (.slice (A r) (L r) (C r)) ((Z r).take (L r)) := fun r hr => by
      obtain ⟨_, r1, r2, r3, r4, r5, r6⟩ := hcell r (by omega)
      refine ri_row (H := H) (fun y hy => hz y ?_) r1 r3 r5 fun a' e c hc => (r6 a' e).2 c hc
      rw [show DataW.weights Try.prog 22 (DataW.slice ((List.range len).map fun r => Go.Deep.intRow (H := H) .i64 (A r) (L r) (Z r)) ((List.range (cap - len)).map fun j => Go.Deep.intRow .i64 (A (len + j)) (L (len + j)) (Z (len + j)))) = _ from by simp only [DataW.weights, Try.underlying22]; rfl]
      exact List.mem_cons_of_mem _ (List.mem_append.2 (.inl (weightsAll_mem (List.mem_map.2 ⟨r, List.mem_range.2 hr, rfl⟩) hy)))
    by_cases hc0 : cap = 0
    · subst hc0
      obtain rfl : len = 0 := by omega
      exact ⟨[], .inl ⟨some a, rfl, rfl⟩, fun i => by simp⟩
    · obtain ⟨b, off, s⟩ := a
      have h0 := (hcell 0 (by omega)).1
      have hs : s = none := by simpa [Addr.add] using World.cell?_spot h0
      subst hs
      have hget : ∀ i, i < len → ((List.range len).map fun r => (Z r).take (L r)).getD i [] = (Z i).take (L i) := fun i hi => by
        rw [List.getD_eq_getElem?_getD, List.getElem?_map, List.getElem?_range hi]; rfl
      refine ⟨(List.range len).map fun r => (Z r).take (L r), .inr ⟨b, off, cap, by simp, by simpa using hl, by simp; omega, fun i hi => ?_⟩, fun i => ?_⟩
      · have hi' : i < len := by simpa using hi
        rw [hget i hi']
        have := (hcell i (by omega)).1
        refine ⟨_, ?_, hrow i hi'⟩
        unfold Addr.add at this
        split at this
        · rename_i e; subst e; simpa using this
        · simpa using this
      · by_cases hi : i < len
        · rw [hget i hi]; exact (hrow i hi).len
        · rw [List.getD_eq_getElem?_getD, List.getElem?_eq_none (by simp; omega)]; simp
theorem open_rowsArg {H : Type} {enc : TypeId × Value → H} {W : World} {b0 : Nat} {v : Value} {d : DataW H} {p : List MemPlace} (hv : Value.okWide Try.prog W .any b0 22 v)
    (h : DataW.Trod enc Try.prog W 0 (fun _ => true) true 22 v d p) (hz : ∀ x ∈ DataW.weights Try.prog 22 d, x ≤ reachBytes) : ∃ ls, Rm W v ls ∧ ∀ i, (ls.getD i []).length ≤ 17592186043904 := by
  obtain ⟨a, n, c, rfl⟩ := okWide_slice Try.underlying22 hv
  obtain ⟨f, hf⟩ := h
  exact open_rows (x := (d, p)) (by simpa [Value.cells] using hf) hz
end Go.Proofs.Ytfddcmapjnkhhaa
