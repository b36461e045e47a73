/- Layer 3: strconv's tables, found on the list of the laid variables: what ParseFloat reads. -/
import Derived.Test.YtbhaigbgembcaaaGreatDoorPRlOpenP
import Derived.Test.YtbhaigbgembcaaaGreatDoorPPfTab
namespace Go.Proofs.YtbhaigbgembcaaaGreatDoor
open Go Go.ChangeShapes Go.WideShapes Go.ChangeAt Go.RowKit Go.Joins
set_option linter.unusedVariables false
set_option linter.unusedSimpArgs false
set_option maxRecDepth 100000
def hiP (i : Nat) : Nat := ((Pinned.pow10Rows)[i]?.getD (0, 0)).1
def loP (i : Nat) : Nat := ((Pinned.pow10Rows)[i]?.getD (0, 0)).2
theorem p10_len : (Pinned.pow10Rows).length = 696 := by decide +kernel
theorem p10_row (i : Nat) (h : i < 696) : (Pinned.pow10Rows)[i]? = some (hiP i, loP i) := by
  unfold hiP loP
  rw [List.getElem?_eq_getElem (by rw [p10_len]; exact h)]
  rfl
theorem p10_all : (Pinned.pow10Rows).all (fun x => decide (x.1 < 18446744073709551616) && decide (x.2 < 18446744073709551616)) = true := by decide +kernel
theorem hiP_lt (i : Nat) : hiP i < 18446744073709551616 ∧ loP i < 18446744073709551616 := by
  unfold hiP loP
  cases hr : (Pinned.pow10Rows)[i]? with
  | none => decide
  | some r =>
    have := List.all_eq_true.1 p10_all r (List.mem_of_getElem? hr)
    simpa using this
theorem tbf : TBF hiP loP fpT := ⟨fun i => (hiP_lt i).1, fun i => (hiP_lt i).2, fpT_ok⟩
theorem ptz_of {W : World} (h0 : laidMetH Tryz.prog lists W) : PTZ hiP loP W W.heap.size := by
  obtain ⟨g, t, cs, fuel, p, hg, hty, hvar, hd⟩ := Lib.laidMet.reads (laid_plain h0) pt_mem
  obtain rfl := Option.some.inj (gPT.symm.trans hg)
  obtain rfl := Option.some.inj (gPTType.symm.trans hty)
  obtain ⟨fs, he, hfs, hf⟩ := pm_struct
  have hall : ∀ i, i < 696 → W.cell? ⟨11, i * 2, none⟩ = some (.int .u64 (hiP i : Int)) ∧ W.cell? ⟨11, i * 2 + 1, none⟩ = some (.int .u64 (loP i : Int)) := fun i hi => by
    have h1 := cells_of_pairs pm_arr he hf (by kernel_rfl) hfs hd i _ _ hi (p10_row i hi)
    have c1 := World.var?_cell hg hvar (i * 2)
    have c2 := World.var?_cell hg hvar (i * 2 + 1)
    rw [← Array.getElem?_toList] at c1 c2
    exact ⟨c1.trans h1.1, c2.trans h1.2⟩
  exact ⟨World.block_lt_of_cell? W _ (hall 0 (by decide)).1, hall⟩
theorem fi_mem : ("internal/strconv.float64info", (.agg [.lit (.int .u64 52), .lit (.int .u64 11), .lit (.int .i64 (-1023))] : DataW Unit)) ∈ lists := List.mem_of_getElem? (i := 3) (by kernel_rfl)
theorem op_mem : ("internal/strconv.optimize", (.lit (.bool true) : DataW Unit)) ∈ lists := List.mem_of_getElem? (i := 4) (by kernel_rfl)
theorem pw_mem : ("internal/strconv.powtab", (.slice [.lit (.int .i64 1), .lit (.int .i64 3), .lit (.int .i64 6), .lit (.int .i64 9), .lit (.int .i64 13), .lit (.int .i64 16), .lit (.int .i64 19), .lit (.int .i64 23), .lit (.int .i64 26)] [] : DataW Unit)) ∈ lists := List.mem_of_getElem? (i := 5) (by kernel_rfl)
theorem fp_mem : ("internal/strconv.float64pow10", (.slice (fpw.map fun x => .lit (.float .f64 x)) [] : DataW Unit)) ∈ lists := List.mem_of_getElem? (i := 6) (by kernel_rfl)
theorem er_mem : ("strconv.ErrRange", (.iface "*errors.errorString" (.ptr (.agg [.lit (.string [118, 97, 108, 117, 101, 32, 111, 117, 116, 32, 111, 102, 32, 114, 97, 110, 103, 101])])) : DataW Unit)) ∈ lists := List.mem_of_getElem? (i := 9) (by kernel_rfl)
theorem lc_mem : ("internal/strconv.leftcheats", Pinned.leftcheats) ∈ lists := List.mem_of_getElem? (i := 11) rfl
theorem pft_of {W : World} (h0 : laidMetH Tryz.prog lists W) : ∃ tv yv, PFT hiP loP fpT tv yv W W.heap.size := by
  have h := laid_plain h0
  obtain ⟨u, v, he⟩ := err_of (varR_of h er_mem (by kernel_rfl) (by kernel_rfl))
  have ho := opt_of (varR_of h op_mem (by kernel_rfl) (by kernel_rfl))
  exact ⟨u, v, ⟨ptz_of h0, lc_of (varR_of h lc_mem (by kernel_rfl) (by kernel_rfl)), pwt_of (varR_of h pw_mem (by kernel_rfl) (by kernel_rfl)), fi_of (varR_of h fi_mem (by kernel_rfl) (by kernel_rfl)), f10_of (varR_of h fp_mem (by kernel_rfl) (by kernel_rfl)), ho, World.block_lt_of_cell? W _ ho⟩, he, World.block_lt_of_cell? W _ he⟩
end Go.Proofs.YtbhaigbgembcaaaGreatDoor
