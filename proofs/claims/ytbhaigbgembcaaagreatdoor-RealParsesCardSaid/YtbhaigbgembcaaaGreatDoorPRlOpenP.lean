/- Layer 3: the tables of strconv, found on the list of the laid variables. -/
import Derived.Test.YtbhaigbgembcaaaGreatDoorRows
import Derived.Test.YtbhaigbgembcaaaGreatDoorPGRlE
import Derived.ProofKit
import Derived.OpenShut
import Derived.SizedLaws
import Derived.Lib.SmallJoins
import Derived.Lib.LaidTab
import Derived.Lib.LaidU8
import Derived.Carry
import Derived.MakeChecks
import Derived.ChangeArms
namespace Go.Proofs.YtbhaigbgembcaaaGreatDoor
open Go.ChangeShapes Go.WideShapes Go.ChangeAt Go.RowKit Go.Joins
set_option linter.unusedVariables false
set_option linter.unusedSimpArgs false
set_option maxRecDepth 100000
theorem ownR : ownKnob Tryz.prog.godebug = none := by kernel_rfl
theorem laidOutR : laidOutB Tryz.prog = true := by kernel_rfl
theorem tabIs_of_memR {P : Program} {W : World} {name : String} {k : IntKind} {zs : List Int} {laid : List (String × DataW Unit)} {g : Nat} {t e : TypeId} {n : Nat}
    (hg : P.globalNamed name = some g) (hty : (P.globals[g]?).map (·.type) = some t) (ht : P.underlying t = some (.array n e)) (he : P.underlying e = some (.int k)) (hce : P.cellsOf e = 1) (hct : P.cellsOf t = n)
    (h : laidMet P laid W) (hm : (name, Lib.tabData k zs) ∈ laid) : Lib.TabIs P W name k zs := by
  obtain ⟨g', t', cs, fuel, p, hg', ht', hvar, hd⟩ := Lib.laidMet.reads h hm
  obtain rfl := Option.some.inj (hg.symm.trans hg')
  obtain rfl := Option.some.inj (hty.symm.trans ht')
  unfold Lib.TabIs
  rw [hvar, ← Lib.cells_of_tab ht he hce hct hd]
def lists : List (String × DataW Unit) := Rows.realParsesRow.laid
theorem noHandles : (lists.all fun x => x.2.handleName?.isNone) = true := by kernel_rfl
theorem gU10 : Tryz.prog.globalNamed "internal/strconv.uint64pow10" = some 10 := by kernel_rfl
theorem gU10Type : (Tryz.prog.globals[10]?).map (·.type) = some 151 := by kernel_rfl
theorem u10_mem : ("internal/strconv.uint64pow10", Lib.tabData .u64 Lib.pow10Tab) ∈ lists := List.mem_of_getElem? (i := 8) (by kernel_rfl)
theorem laid_plain {W : World} (h0 : laidMetH Tryz.prog lists W) : laidMet Tryz.prog lists W := by
  rw [MakeChecks.laidMetH_plain _ _ _ noHandles] at h0
  exact h0
theorem p10r_of {W : World} (h0 : laidMetH Tryz.prog lists W) : P10R W :=
  tabIs_of_memR gU10 gU10Type Tryz.underlying151 Tryz.underlying22 (by kernel_rfl) (by kernel_rfl) (laid_plain h0) u10_mem
theorem gPT : Tryz.prog.globalNamed "internal/strconv.pow10Tab" = some 11 := by kernel_rfl
theorem gPTType : (Tryz.prog.globals[11]?).map (·.type) = some 159 := by kernel_rfl
theorem pt_mem : ("internal/strconv.pow10Tab", Go.Pinned.pow10Tab) ∈ lists := List.mem_of_getElem? (i := 12) rfl
theorem row364 : (Go.Pinned.pow10Rows)[364]? = some (10240000000000000000, 0) := by decide +kernel
theorem cells_of_pairs {P : Program} {w : World} {fuel : Nat} {t e : TypeId} {n : Nat} {fs : Array Field} {cs : List Value} {rows : List (Nat × Nat)} {p : List MemPlace} (ht : P.underlying t = some (.array n e)) (he : P.underlying e = some (.struct fs))
    (hf : ∀ (i : Nat) (f : Field), fs[i]? = some f → P.underlying f.type = some (.int .u64) ∧ f.offset = i ∧ P.cellsOf f.type = 1) (hce : P.cellsOf e = 2) (hfs : fs.size = 2)
    (h : DataW.trod (fun _ => ()) P w 0 (fun _ => true) false fuel t cs = some (.agg (rows.map fun x => .agg [.lit (.int .u64 x.1), .lit (.int .u64 x.2)]), p)) (i a b : Nat) (hi : i < n) (hr : rows[i]? = some (a, b)) :
    cs[i * 2]? = some (.int .u64 a) ∧ cs[i * 2 + 1]? = some (.int .u64 b) := by
  obtain ⟨xs, m, hm, hx, hl, hxl, hall⟩ := DataW.trod_array ht h
  have h1 := hall i hi
  rw [hce, List.getElem?_eq_getElem (by omega)] at h1
  have hxs : xs.map (·.1) = rows.map fun x => (DataW.agg [.lit (.int .u64 x.1), .lit (.int .u64 x.2)] : DataW Unit) := by
    have := congrArg Prod.fst hx
    simpa using this.symm
  have h2 : (xs.map (·.1))[i]? = (rows.map fun x => (DataW.agg [.lit (.int .u64 x.1), .lit (.int .u64 x.2)] : DataW Unit))[i]? := by rw [hxs]
  rw [List.getElem?_map, List.getElem?_map, hr, List.getElem?_eq_getElem (by omega)] at h2
  simp only [Option.map_some, Option.some.injEq] at h2
  have h3 : DataW.trod (fun _ => ()) P w 0 (fun _ => true) false m e ((cs.drop (i * 2)).take 2) = some (.agg ([(a : Int), (b : Int)].map fun z => .lit (.int .u64 z)), (xs[i]'(by omega)).2) := by
    rw [h1]
    exact congrArg some (Prod.ext h2 rfl)
  have h4 := Lib.ints_of_struct he hf (hce.trans hfs.symm) h3
  have h5 : ((cs.drop (i * 2)).take 2)[0]? = some (.int .u64 a) := by rw [h4]; rfl
  have h6 : ((cs.drop (i * 2)).take 2)[1]? = some (.int .u64 b) := by rw [h4]; rfl
  rw [List.getElem?_take, if_pos (by omega), List.getElem?_drop] at h5 h6
  exact ⟨h5, h6⟩
theorem pm_arr : Tryz.prog.underlying 159 = some (.array 696 158) := by kernel_rfl
theorem pm_struct : ∃ fs : Array Field, Tryz.prog.underlying 158 = some (.struct fs) ∧ fs.size = 2 ∧ ∀ (i : Nat) (f : Field), fs[i]? = some f → Tryz.prog.underlying f.type = some (.int .u64) ∧ f.offset = i ∧ Tryz.prog.cellsOf f.type = 1 := by
  have h : (match Tryz.prog.underlying 158 with | some (.struct fs) => fs.toList.map (fun f => (f.type, f.offset)) | _ => []) = [(22, 0), (22, 1)] := by kernel_rfl
  split at h
  · rename_i fs he
    refine ⟨fs, he, ?_, fun i f hf => ?_⟩
    · have := congrArg List.length h
      simpa using this
    · have h2 : (fs.toList.map (fun f => (f.type, f.offset)))[i]? = some (f.type, f.offset) := by simp [hf]
      rw [h] at h2
      match i with
      | 0 =>
        simp at h2
        rw [← h2.1, ← h2.2]
        exact ⟨Tryz.underlying22, rfl, by kernel_rfl⟩
      | 1 =>
        simp at h2
        rw [← h2.1, ← h2.2]
        exact ⟨Tryz.underlying22, rfl, by kernel_rfl⟩
      | k + 2 => simp at h2
  · simp at h
theorem pt_of {W : World} (h0 : laidMetH Tryz.prog lists W) : PT W := by
  obtain ⟨g, t, cs, fuel, p, hg, hty, hvar, hd⟩ := Lib.laidMet.reads (laid_plain h0) pt_mem
  obtain rfl := Option.some.inj (gPT.symm.trans hg)
  obtain rfl := Option.some.inj (gPTType.symm.trans hty)
  obtain ⟨fs, he, hfs, hf⟩ := pm_struct
  have h1 := cells_of_pairs pm_arr he hf (by kernel_rfl) hfs hd 364 10240000000000000000 0 (by decide) row364
  have c1 := World.var?_cell hg hvar 728
  have c2 := World.var?_cell hg hvar 729
  rw [← Array.getElem?_toList] at c1 c2
  exact ⟨c1.trans h1.1, c2.trans h1.2⟩
end Go.Proofs.YtbhaigbgembcaaaGreatDoor
