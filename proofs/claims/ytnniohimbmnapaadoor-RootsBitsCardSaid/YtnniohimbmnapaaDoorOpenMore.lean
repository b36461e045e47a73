/- Opening arguments that are slices of ints or of words. -/
import Derived.Test.YtnniohimbmnapaaDoorOpenFunc
import Derived.Test.YtnniohimbmnapaaDoorFBits
namespace Go.Proofs.YtnniohimbmnapaaDoor
open Go.ChangeShapes Go.WideShapes Go.ChangeAt Go.RowKit Go.Joins
set_option linter.unusedVariables false
set_option linter.unusedSimpArgs false
theorem open_intsArg {H : Type} {enc : TypeId × Value → H} {W : World} {b0 : Nat} {v : Value} {d : DataW H} {p : List MemPlace} (hv : Value.okWide Tryd.prog W .any b0 31 v)
    (h : DataW.Trod enc Tryd.prog W 0 (fun _ => true) true 31 v d p) (hz : ∀ x ∈ DataW.weights Tryd.prog 31 d, x ≤ reachBytes) : ∃ ws, Ri W v ws := by
  obtain ⟨a, n, c, rfl⟩ := okWide_slice Tryd.underlying31 hv
  obtain ⟨f, hf⟩ := h
  obtain ⟨ws, hr, _⟩ := open_riz (x := (d, p)) (by simpa [Value.cells] using hf) hz
  exact ⟨ws, hr⟩
theorem bytesU64 : Tryd.prog.bytesOf 53 = 8 := by kernel_rfl
/-- A slice of words. -/
theorem open_wordsz {H : Type} {enc : TypeId × Value → H} {W : World} {fuel : Nat} {v : Value} {x : DataW H × List MemPlace} (h : DataW.trod enc Tryd.prog W 0 (fun _ => true) true fuel 52 [v] = some x)
    (hz : ∀ y ∈ DataW.weights Tryd.prog 52 x.1, y ≤ reachBytes) : ∃ ws, Rw W v ws := by
  rcases open_ints Tryd.underlying52 Tryd.underlying53 (by kernel_rfl) h with ⟨hcs, hx⟩ | ⟨a, len, cap, zs, hcs, _, hl, hm, hzs, hx, hcell, hwz⟩
  · simp at hcs
    exact ⟨[], .inl ⟨none, hcs, rfl⟩, fun i => by simp⟩
  · simp at hcs
    subst hcs
    simp only [if_true] at hzs
    have hw : cap * 8 ≤ reachBytes := by
      have := hz ((zs.take len).length * 8 + (zs.drop len).length * 8) (by
        rw [hx]; simp [DataW.weights, Tryd.underlying52, bytesU64, lits, Nat.add_mul])
      rw [← Nat.add_mul, ← List.length_append, List.take_append_drop, hzs] at this
      exact this
    have hcap : cap ≤ 17592186043904 := by unfold reachBytes at hw; omega
    by_cases hc0 : cap = 0
    · subst hc0
      obtain rfl : len = 0 := by omega
      exact ⟨[], .inl ⟨some a, rfl, rfl⟩, fun i => by simp⟩
    · obtain ⟨b, off, s⟩ := a
      have h0 := hcell 0 (by omega)
      have hs : s = none := by simpa [Addr.add] using World.cell?_spot h0
      subst hs
      have hfit : ∀ i, i < len → 0 ≤ zs.getD i 0 ∧ zs.getD i 0 < 18446744073709551616 := fun i hi => by
        rw [List.getD_eq_getElem?_getD, List.getElem?_eq_getElem (by omega)]
        have := wfu (hwz _ (List.getElem_mem (show i < zs.length by omega)))
        simp only [Option.getD_some]
        omega
      have hll : (ints ((zs.take len).map Int.toNat)).length = len := by rw [ints_len, List.length_map, List.length_take, hzs]; omega
      have hget : ∀ i, i < len → ((((zs.take len).map Int.toNat).getD i 0 : Nat) : Int) = zs.getD i 0 := fun i hi => by
        have := hfit i hi
        rw [List.getD_eq_getElem?_getD, List.getElem?_map, List.getElem?_take, if_pos hi, List.getElem?_eq_getElem (by omega)]
        rw [List.getD_eq_getElem?_getD, List.getElem?_eq_getElem (by omega)] at this ⊢
        simp at this ⊢
        omega
      refine ⟨(zs.take len).map Int.toNat, .inr ⟨b, off, cap, by rw [hll], by omega, by omega, fun i hi => ?_⟩, fun i => ?_⟩
      · rw [hll] at hi
        rw [ints_getD, hget i hi]
        have := hcell i (by omega)
        unfold Addr.add at this
        split at this
        · rename_i e; subst e; simpa using this
        · simpa using this
      · by_cases hi : i < len
        · have h1 := hget i hi
          have h2 := hfit i hi
          omega
        · rw [List.getD_eq_getElem?_getD, List.getElem?_eq_none (by simp; omega)]; simp
theorem open_wordsArg {H : Type} {enc : TypeId × Value → H} {W : World} {b0 : Nat} {v : Value} {d : DataW H} {p : List MemPlace} (hv : Value.okWide Tryd.prog W .any b0 52 v)
    (h : DataW.Trod enc Tryd.prog W 0 (fun _ => true) true 52 v d p) (hz : ∀ x ∈ DataW.weights Tryd.prog 52 d, x ≤ reachBytes) : ∃ ws, Rw W v ws := by
  obtain ⟨a, n, c, rfl⟩ := okWide_slice Tryd.underlying52 hv
  obtain ⟨f, hf⟩ := h
  exact open_wordsz (x := (d, p)) (by simpa [Value.cells] using hf) hz
end Go.Proofs.YtnniohimbmnapaaDoor
