/- Layer 2: whole.divSizes by one limb. -/
import Derived.Test.YticebchmafipiaaDoorWDivLimb
import Derived.Test.YticebchmafipiaaDoorWDivMod
namespace Go.Proofs.YticebchmafipiaaDoor
open Go.ChangeShapes Go.WideShapes Go.ChangeAt Go.RowKit
set_option linter.unusedVariables false
set_option linter.unusedSimpArgs false
set_option maxRecDepth 100000 in
set_option maxHeartbeats 2000000 in
theorem divSizes_one (u1 u2 : Value) (xs : List Int) (d : Int) (w : World) (h1 : Rd w u1 xs) (h2 : Rd w u2 [d]) (hx : Dig B18 xs) (hxl : xs.length ≤ 1000) (hd : 0 < d ∧ d < B18) (hge : 0 ≤ cmpI (val B18 xs) (val B18 [d]))
    (hx' : Canon B18 xs) (hc' : Canon B18 [d])
    (hD : ∀ (wx : World) (hi lo : Int), 0 ≤ hi → hi < d → 0 ≤ lo → lo ≤ 18446744073709551615 → (xs.length ≤ 1 → hi = 0) → Calls Tryd.prog 72 #[.int .u64 hi, .int .u64 lo, .int .u64 d] wx (D64Post wx hi lo d)) :
    Calls Tryd.prog 40 #[u1, u2] w (DivPost w xs [d]) := by
  have HR1 := Lib.hid h1
  have HR2 := Lib.hid h2
  obtain ⟨p1, c1, rfl, _, _, _⟩ := rd_form h1
  obtain ⟨p2, c2, rfl, _, _, hp2⟩ := rd_form h2
  have HL := Lib.hid (fun wx (hb : Below w.heap.size w wx) => divLimb_any _ xs d wx (HR1.out.keep hb) hx hd hD)
  have HC := Lib.hid (show ∀ wx, Below w.heap.size w wx → Calls Tryd.prog 37 #[.slice p1 xs.length c1, .slice p2 1 c2] wx (CmpPost wx (cmpI (val B18 xs) (val B18 [d]))) from fun wx (hb : Below w.heap.size w wx) => cmpSizes_any _ _ xs [d] wx (HR1.out.keep hb) (HR2.out.keep hb) hx' hc')
  obtain ⟨b2, o2, rfl, hcell⟩ := hp2 (by simp)
  have hc0 := hcell 0 (by simp)
  rw [List.getD_cons_zero, Nat.add_zero] at hc0
  have hnl : ¬ cmpI (val B18 xs) (val B18 [d]) < 0 := by omega
  have HX := Lib.hid hx
  have HXL := Lib.hid hxl
  have HDD := Lib.hid hd
  generalize hcc : cmpI (val B18 xs) (val B18 [d]) = cc at hnl HC
  clear h1 h2 hp2 hcell hx hxl hd hD hge hx' hc' hcc
  go_enter Tryd.func40, Tryd.ntmps40
  go_wp2_with (first
    | (go_at_call 37; (with_reducible refine (HC.out _ (Below.refl _ _)).mono ?_); rintro e wa ⟨rfl, hba⟩; have HBA := Lib.hid hba; have hc1 := below_cell hba hc0; clear hba)
    | (go_at_call 53; (with_reducible refine (HL.out _ HBA.out).mono ?_); rintro e wb ⟨g, qs, r, rfl, hg, hLU, hql, hdq, hxy, hr0, hrd, hbb⟩; have HQL := Lib.hid hql; clear hql))
  have hBB := HBA.out.trans (hbb.mono HBA.out.size)
  have hz := hBB.size
  have hdd := HDD.out
  go_ret2
  refine ⟨.slice (some ⟨g, 0, none⟩) qs.length qs.length, qs, wb.heap.size, [r], rfl, ((MU.mr (LR.mine hLU (B0 := w.heap.size) (by have := HBA.out.size; omega))).keep ((Below.refl _ _).alloc (Nat.le_refl _) _)), heap_alloc_new wb _, hz, hdq, ?_, by rw [HQL.out]; exact HXL.out, by simp, ?_, ?_, hBB.alloc hz _⟩
  · intro i
    cases i with
    | zero => simp; omega
    | succ i => simp [B18]
  · rw [hxy]; simp [val]
  · simp [val]; omega
end Go.Proofs.YticebchmafipiaaDoor
