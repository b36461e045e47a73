/- Layer 8: the chapter's examples, all of them. -/
import Derived.Test.YtebnbgnoldocaaaGreatDoorCKc
namespace Go.Proofs.YtebnbgnoldocaaaGreatDoor
open Go Go.ChangeShapes Go.WideShapes Go.RowKit
set_option linter.unusedVariables false
set_option linter.unusedSimpArgs false
theorem ri_lit {w : World} {b : Nat} (h0 : w.cell? ⟨b, 0, none⟩ = some (.int .i64 3)) (h1 : w.cell? ⟨b, 1, none⟩ = some (.int .i64 2)) : Ri w (.slice (some ⟨b, 0, none⟩) 2 2) ckJ.l :=
  .inr ⟨b, 0, 2, rfl, Nat.le_refl _, by simp [ckJ], fun i hi => by
    rw [Nat.zero_add]
    match i, (show i < 2 from hi) with
    | 0, _ => exact h0
    | 1, _ => exact h1⟩
theorem ri_lit3 (w : World) (T : TypeId) {b : Nat} (hb : b = w.heap.size) : Ri (w.alloc (.cells #[.int .i64 2, .int .i64 3, .int .i64 2] T)) (.slice (some ⟨b, 0, none⟩) 3 3) [2, 3, 2] :=
  .inr ⟨b, 0, 3, rfl, Nat.le_refl _, by simp, fun i hi => by
    rw [Nat.zero_add]
    match i, (show i < 3 from hi) with
    | 0, _ => exact cell_newB hb rfl
    | 1, _ => exact cell_newB hb rfl
    | 2, _ => exact cell_newB hb rfl⟩
set_option maxRecDepth 100000 in
set_option maxHeartbeats 8000000 in
theorem known08 (w : World) (hU : Us w) : Calls Tryz.prog 4 #[] w fun e w' => e = .returned (.bool true) ∧ Below w.heap.size w w' := by
  have HU := Lib.hid hU
  clear hU
  go_enter Tryz.func4, Tryz.ntmps4
  go_wp2_with (first
    | (go_at_call 9; (with_reducible refine (check1 (w.heap.size + 1 + 1 + 1) (w.heap.size + 1 + 1) _ (HU.out.keep (by ((repeat' (first | with_reducible assumption | with_reducible exact Below.refl _ _ | with_reducible refine Below.drew ?_ | with_reducible refine Below.alloc ?_ (by first | omega | (simp; omega) | (simp; done) | fail) _ | with_reducible refine Below.setCell ?_ (by first | omega | (simp; omega) | (simp; done) | fail) _ | fail)); (first | done | fail)))) ⟨alloc_cell (cell_newB (by simp) rfl) _, alloc_cell (cell_newB (by simp) rfl) _, alloc_cell (cell_newB (by simp) rfl) _, alloc_cell (cell_newB (by simp) rfl) _, alloc_cell (cell_newB (by simp) rfl) _, alloc_cell (cell_newB (by simp) rfl) _, alloc_cell (cell_newB (by simp) rfl) _, alloc_cell (cell_newB (by simp) rfl) _, alloc_cell (cell_newB (by simp) rfl) _, alloc_cell (cell_newB (by simp) rfl) _, alloc_cell (alloc_cell (cell_newB (by simp) rfl) _) _, alloc_cell (alloc_cell (cell_newB (by simp) rfl) _) _, alloc_cell (alloc_cell (cell_newB (by simp) rfl) _) _, alloc_cell (alloc_cell (cell_newB (by simp) rfl) _) _, alloc_cell (alloc_cell (cell_newB (by simp) rfl) _) _, alloc_cell (alloc_cell (cell_newB (by simp) rfl) _) _, alloc_cell (alloc_cell (cell_newB (by simp) rfl) _) _⟩).mono ?_); rintro e w1 ⟨rfl, hb⟩; have HJ := Lib.hid (show Box7 w1 (w.heap.size + 1) ckJ (.slice (some ⟨w.heap.size, 0, none⟩) 2 2) from ⟨below_cell hb (alloc_cell (alloc_cell (alloc_cell (cell_newB (by simp) rfl) _) _) _), below_cell hb (alloc_cell (alloc_cell (alloc_cell (cell_newB (by simp) rfl) _) _) _), below_cell hb (alloc_cell (alloc_cell (alloc_cell (cell_newB (by simp) rfl) _) _) _), below_cell hb (alloc_cell (alloc_cell (alloc_cell (cell_newB (by simp) rfl) _) _) _), below_cell hb (alloc_cell (alloc_cell (alloc_cell (cell_newB (by simp) rfl) _) _) _), below_cell hb (alloc_cell (alloc_cell (alloc_cell (cell_newB (by simp) rfl) _) _) _), below_cell hb (alloc_cell (alloc_cell (alloc_cell (cell_newB (by simp) rfl) _) _) _)⟩); have HR := Lib.hid (ri_lit (w := w1) (b := w.heap.size) (below_cell hb (alloc_cell (alloc_cell (alloc_cell (alloc_cell (cell_newB rfl rfl) _) _) _) _)) (below_cell hb (alloc_cell (alloc_cell (alloc_cell (alloc_cell (cell_newB rfl rfl) _) _) _) _))); have HB1 := Lib.hid ((by ((repeat' (first | with_reducible assumption | with_reducible exact Below.refl _ _ | with_reducible refine Below.drew ?_ | with_reducible refine Below.alloc ?_ (by first | omega | (simp; omega) | (simp; done) | fail) _ | with_reducible refine Below.setCell ?_ (by first | omega | (simp; omega) | (simp; done) | fail) _ | fail)); (first | done | fail)) : Below w.heap.size w _).trans (hb.mono (by simp; omega))); clear hb)
    | (go_at_call 9; (with_reducible refine (check0 _).mono ?_); rintro e w2 ⟨rfl, hb⟩; have HJ2 := Lib.hid (HJ.out.keep hb (World.block_lt_of_cell? _ _ HJ.out.c0)); have HR2 := Lib.hid (HR.out.keep hb); have HB2 := Lib.hid (HB1.out.trans (hb.mono HB1.out.size)); obtain ⟨j0, j1, j2, j3, j4, j5, j6⟩ := HJ2.out; dsimp only [ckJ] at j0 j1 j2 j3 j4 j5 j6; have HRD := Lib.hid (reads_any ckJ (.slice (some ⟨w.heap.size, 0, none⟩) 2 2) w2 (HU.out.keep HB2.out) HR2.out (by simp [ckJ])); unfold insV at HRD; dsimp only [ckJ] at HRD; clear hb)
    | (go_at_call 5; (with_reducible refine HRD.out.mono ?_); rintro e w3 ⟨u, rfl, ho, hb⟩; rw [show readsD ⟨21, 1, 2, 0, 0, 0, [3, 2]⟩ = [2, 3, 2] from ckJ_reads] at ho; have HO := Lib.hid ho; have HB3 := Lib.hid (HB2.out.trans (hb.mono HB2.out.size)); clear ho hb)
    | (go_at_call 8; (with_reducible refine (sameints_c _ _ [2, 3, 2] _ ((OW.mine (HO.out.keep ((Below.refl _ _).alloc (Nat.le_refl _) _))).ri (by simp)) (ri_lit3 _ _ (by simp))).mono ?_); rintro e w4 ⟨rfl, hb⟩; have HB4 := Lib.hid ((HB3.out.alloc HB3.out.size _).trans (hb.mono (HB3.out.alloc HB3.out.size _).size)); clear hb)
    | fail)
  go_ret
  exact ⟨rfl, HB4.out⟩
end Go.Proofs.YtebnbgnoldocaaaGreatDoor
