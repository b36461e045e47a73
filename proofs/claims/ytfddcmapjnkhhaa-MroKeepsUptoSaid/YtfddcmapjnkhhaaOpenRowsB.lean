/- Opening an argument that is a slice of slices of ints, of bounded bulk. -/
import Derived.Test.YtfddcmapjnkhhaaOpenRows
import Derived.Deep.CondSized
namespace Go.Proofs.Ytfddcmapjnkhhaa
open Go.ChangeShapes Go.WideShapes Go.ChangeAt Go.RowKit Go.Joins
set_option linter.unusedVariables false
set_option linter.unusedSimpArgs false
theorem bulk_one {H : Type} (d : DataW H) : 1 ≤ Rows.uptoBulk d := by
  cases d with
  | lit l => cases l <;> simp [Rows.uptoBulk]
  | nil => simp [Rows.uptoBulk]
  | ptr d => simp [Rows.uptoBulk]
  | slice elems spare => simp [Rows.uptoBulk]
  | agg parts => simp [Rows.uptoBulk]
  | iface t d => simp [Rows.uptoBulk]
  | map entries => simp [Rows.uptoBulk]
  | held h => simp [Rows.uptoBulk]
theorem bulk_mem {H : Type} {d : DataW H} : ∀ {l : List (DataW H)}, d ∈ l → Rows.uptoBulk d ≤ Rows.uptoBulkAll l
  | x :: r, h => by
    simp only [Rows.uptoBulkAll]
    rcases List.mem_cons.1 h with rfl | h
    · omega
    · have := bulk_mem h; omega
theorem bulk_len {H : Type} : ∀ (l : List (DataW H)), l.length ≤ Rows.uptoBulkAll l
  | [] => by simp
  | x :: r => by
    have h1 := bulk_one x
    have h2 := bulk_len r
    simp only [Rows.uptoBulkAll, List.length_cons]; omega
theorem bulk_row {H : Type} {a : Option Addr} {L C : Nat} {Z : List Int} (h1 : L ≤ C) (h3 : Z.length = C) (h4 : a = none → C = 0) : L ≤ Rows.uptoBulk (Go.Deep.intRow (H := H) .i64 a L Z) := by
  cases a with
  | none => have := h4 rfl; omega
  | some a =>
    have := bulk_len (H := H) (lits .i64 (Z.take L))
    have hl : (lits (H := H) .i64 (Z.take L)).length = L := by simp [lits]; omega
    simp only [Go.Deep.intRow, Rows.uptoBulk]
    omega
theorem open_rowsB {H : Type} {enc : TypeId × Value → H} {W : World} {fuel : Nat} {v : Value} {x : DataW H × List MemPlace} (h : DataW.trod enc Try.prog W 0 (fun _ => true) true fuel 22 [v] = some x)
    (hz : ∀ y ∈ DataW.weights Try.prog 22 x.1, y ≤ reachBytes) : ∃ ls, Rm W v ls ∧ ls.length ≤ Rows.uptoBulk x.1 ∧ ∀ i, (ls.getD i []).length ≤ Rows.uptoBulk x.1 := by
  rcases Go.Deep.open_int_rows Try.underlying22 Try.underlying24 Try.underlying3 (by kernel_rfl) (by kernel_rfl) h with ⟨hcs, hx⟩ | ⟨a, len, cap, A, L, C, Z, hcs, _, hl, hm, hx, hcell⟩
  · simp at hcs
    exact ⟨[], .inl ⟨none, hcs, rfl⟩, by simp, fun i => by simp⟩
  · simp at hcs
    subst hcs
    subst hx
    have hw : cap * 24 ≤ reachBytes := by
      have := hz ((len + (cap - len)) * 24) (by
        simp [DataW.weights, Try.underlying22, bytesInts])
      rwa [show len + (cap - len) = cap by omega] at this
    have hcap : cap ≤ 17592186043904 := by unfold reachBytes at hw; omega
    have hrow : ∀ r, r < len → Ri W (.slice (A r) (L r) (C r)) ((Z r).take (L r)) := fun r hr => by
      obtain ⟨_, r1, r2, r3, r4, r5, r6⟩ := hcell r (by omega)
      refine ri_row (H := H) (fun y hy => hz y ?_) r1 r3 r5 fun a' e c hc => (r6 a' e).2 c hc
      rw [show DataW.weights Try.prog 22 (DataW.slice ((List.range len).map fun r => Go.Deep.intRow (H := H) .i64 (A r) (L r) (Z r)) ((List.range (cap - len)).map fun j => Go.Deep.intRow .i64 (A (len + j)) (L (len + j)) (Z (len + j)))) = _ from by simp only [DataW.weights, Try.underlying22]; rfl]
      exact List.mem_cons_of_mem _ (List.mem_append.2 (.inl (weightsAll_mem (List.mem_map.2 ⟨r, List.mem_range.2 hr, rfl⟩) hy)))
    by_cases hc0 : cap = 0
    · subst hc0
      obtain rfl : len = 0 := by omega
      exact ⟨[], .inl ⟨some a, rfl, rfl⟩, by simp, fun i => by simp⟩
    · obtain ⟨b, off, s⟩ := a
      have h0 := (hcell 0 (by omega)).1
      have hs : s = none := by simpa [Addr.add] using World.cell?_spot h0
      subst hs
      have hget : ∀ i, i < len → ((List.range len).map fun r => (Z r).take (L r)).getD i [] = (Z i).take (L i) := fun i hi => by
        rw [List.getD_eq_getElem?_getD, List.getElem?_map, List.getElem?_range hi]; rfl
      refine ⟨(List.range len).map fun r => (Z r).take (L r), .inr ⟨b, off, cap, by simp, by simpa using hl, by simp; omega, fun i hi => ?_⟩, ?_, fun i => ?_⟩
      · have hi' : i < len := by simpa using hi
        rw [hget i hi']
        have := (hcell i (by omega)).1
        refine ⟨_, ?_, hrow i hi'⟩
        unfold Addr.add at this
        split at this
        · rename_i e; subst e; simpa using this
        · simpa using this
      · have := bulk_len ((List.range len).map fun r => Go.Deep.intRow (H := H) .i64 (A r) (L r) (Z r))
        simp only [List.length_map, List.length_range] at this
        simp only [List.length_map, List.length_range, Rows.uptoBulk]
        omega
      · by_cases hi : i < len
        · rw [hget i hi]
          obtain ⟨_, r1, r2, r3, r4, r5, r6⟩ := hcell i (by omega)
          have h1 := bulk_row (H := H) r1 r3 r5
          have h2 := bulk_mem (H := H) (d := Go.Deep.intRow .i64 (A i) (L i) (Z i)) (l := (List.range len).map fun r => Go.Deep.intRow .i64 (A r) (L r) (Z r)) (List.mem_map.2 ⟨i, List.mem_range.2 hi, rfl⟩)
          simp only [List.length_take, Rows.uptoBulk]
          omega
        · rw [List.getD_eq_getElem?_getD, List.getElem?_eq_none (by simp; omega)]; simp
theorem open_rowsBArg {H : Type} {enc : TypeId × Value → H} {W : World} {b0 : Nat} {v : Value} {d : DataW H} {p : List MemPlace} (hv : Value.okWide Try.prog W .any b0 22 v)
    (h : DataW.Trod enc Try.prog W 0 (fun _ => true) true 22 v d p) (hz : ∀ x ∈ DataW.weights Try.prog 22 d, x ≤ reachBytes) : ∃ ls, Rm W v ls ∧ ls.length ≤ Rows.uptoBulk d ∧ ∀ i, (ls.getD i []).length ≤ Rows.uptoBulk d := by
  obtain ⟨a, n, c, rfl⟩ := okWide_slice Try.underlying22 hv
  obtain ⟨f, hf⟩ := h
  exact open_rowsB (x := (d, p)) (by simpa [Value.cells] using hf) hz
end Go.Proofs.Ytfddcmapjnkhhaa
