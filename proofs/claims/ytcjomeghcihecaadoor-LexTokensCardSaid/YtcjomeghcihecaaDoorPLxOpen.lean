/- Opening an argument that is a slice of bytes; a table found anywhere on the list of the laid variables. -/
import Derived.Test.YtcjomeghcihecaaDoorRows
import Derived.Test.YtcjomeghcihecaaDoorPLxB2
import Derived.ProofKit
import Derived.OpenShut
import Derived.SizedLaws
import Derived.Lib.SmallJoins
import Derived.Lib.LaidTab
import Derived.Lib.LaidU8
import Derived.Carry
import Derived.MakeChecks
import Derived.Deep.Slices
import Derived.Deep.Fields
import Derived.ChangeArms
namespace Go.Proofs.YtcjomeghcihecaaDoor
open Go.ChangeShapes Go.WideShapes Go.ChangeAt Go.RowKit Go.Joins
set_option linter.unusedVariables false
set_option linter.unusedSimpArgs false
theorem bytesU8 : Tryd.prog.bytesOf 5 = 1 := by kernel_rfl
theorem own : ownKnob Tryd.prog.godebug = none := by kernel_rfl
theorem laidOut : laidOutB Tryd.prog = true := by kernel_rfl
theorem wf8 {x : Int} (h : (Lit.int .u8 x).wf = true) : 0 ≤ x ∧ x ≤ 255 := by
  simpa [Lit.wf, IntKind.min, IntKind.max, IntKind.signed, IntKind.bits] using h
theorem back8 (zs : List Int) (h : ∀ z ∈ zs, 0 ≤ z ∧ z ≤ 255) : ints8 (zs.map fun z => UInt8.ofNat z.toNat) = zs := by
  unfold ints8
  rw [List.map_map]
  conv => rhs; rw [← List.map_id zs]
  apply List.map_congr_left
  intro z hz
  have := h z hz
  simp only [Function.comp, id, UInt8.toNat_ofNat']
  omega
/-- A slice of bytes. -/
theorem open_bytesz {H : Type} {enc : TypeId × Value → H} {W : World} {fuel : Nat} {v : Value} {x : DataW H × List MemPlace} (h : DataW.trod enc Tryd.prog W 0 (fun _ => true) true fuel 22 [v] = some x)
    (hz : ∀ y ∈ DataW.weights Tryd.prog 22 x.1, y ≤ reachBytes) : ∃ l, R8 W v l ∧ l.length ≤ 140737488351232 := by
  rcases open_ints Tryd.underlying22 Tryd.underlying5 (by kernel_rfl) h with ⟨hcs, hx⟩ | ⟨a, len, cap, zs, hcs, _, hl, hm, hzs, hx, hcell, hwz⟩
  · simp at hcs
    exact ⟨[], .inl ⟨none, hcs, rfl⟩, by simp⟩
  · simp at hcs
    subst hcs
    simp only [if_true] at hzs
    have hw : cap * 1 ≤ reachBytes := by
      have := hz ((zs.take len).length * 1 + (zs.drop len).length * 1) (by
        rw [hx]; simp [DataW.weights, Tryd.underlying22, bytesU8, lits, Nat.add_mul])
      rw [← Nat.add_mul, ← List.length_append, List.take_append_drop, hzs] at this
      exact this
    have hcap : cap ≤ 140737488351232 := by unfold reachBytes at hw; omega
    by_cases hc0 : cap = 0
    · subst hc0
      obtain rfl : len = 0 := by omega
      exact ⟨[], .inl ⟨some a, rfl, rfl⟩, by simp⟩
    · obtain ⟨b, off, s⟩ := a
      have h0 := hcell 0 (by omega)
      have hs : s = none := by simpa [Addr.add] using World.cell?_spot h0
      subst hs
      have hll : (zs.take len).length = len := by rw [List.length_take, hzs]; omega
      have hb8 : ints8 ((zs.take len).map fun z => UInt8.ofNat z.toNat) = zs.take len := back8 _ fun z hz => wf8 (hwz z (List.mem_of_mem_take hz))
      refine ⟨(zs.take len).map fun z => UInt8.ofNat z.toNat, ?_, by rw [List.length_map]; omega⟩
      unfold R8
      rw [hb8]
      refine .inr ⟨b, off, cap, by rw [hll], by omega, by omega, fun i hi => ?_⟩
      rw [hll] at hi
      rw [show (zs.take len).getD i 0 = zs.getD i 0 by rw [List.getD_eq_getElem?_getD, List.getD_eq_getElem?_getD, List.getElem?_take, if_pos (by omega)]]
      have := hcell i (by omega)
      unfold Addr.add at this
      split at this
      · rename_i e; subst e; simpa using this
      · simpa using this
theorem open_bytesArg {H : Type} {enc : TypeId × Value → H} {W : World} {b0 : Nat} {v : Value} {d : DataW H} {p : List MemPlace} (hv : Value.okWide Tryd.prog W .any b0 22 v)
    (h : DataW.Trod enc Tryd.prog W 0 (fun _ => true) true 22 v d p) (hz : ∀ x ∈ DataW.weights Tryd.prog 22 d, x ≤ reachBytes) : ∃ l, R8 W v l ∧ l.length ≤ 140737488351232 := by
  obtain ⟨a, n, c, rfl⟩ := okWide_slice Tryd.underlying22 hv
  obtain ⟨f, hf⟩ := h
  exact open_bytesz (x := (d, p)) (by simpa [Value.cells] using hf) hz
/-- A table anywhere on the list of the laid variables. -/
theorem tabIs_of_mem {P : Program} {W : World} {name : String} {k : IntKind} {zs : List Int} {laid : List (String × DataW Unit)} {g : Nat} {t e : TypeId} {n : Nat}
    (hg : P.globalNamed name = some g) (hty : (P.globals[g]?).map (·.type) = some t) (ht : P.underlying t = some (.array n e)) (he : P.underlying e = some (.int k)) (hce : P.cellsOf e = 1) (hct : P.cellsOf t = n)
    (h : laidMet P laid W) (hm : (name, Lib.tabData k zs) ∈ laid) : Lib.TabIs P W name k zs := by
  obtain ⟨g', t', cs, fuel, p, hg', ht', hvar, hd⟩ := Lib.laidMet.reads h hm
  obtain rfl := Option.some.inj (hg.symm.trans hg')
  obtain rfl := Option.some.inj (hty.symm.trans ht')
  unfold Lib.TabIs
  rw [hvar, ← Lib.cells_of_tab ht he hce hct hd]
end Go.Proofs.YtcjomeghcihecaaDoor
