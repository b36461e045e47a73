/- Layer 19: the chapter's examples, which each statement asks first: they answer true. -/
import Derived.Test.YtfddcmapjnkhhaaMOrder
import Derived.Deep.RegionHeld3
namespace Go.Proofs.Ytfddcmapjnkhhaa
open Go.ChangeShapes Go.WideShapes Go.RowKit
set_option linter.unusedVariables false
set_option linter.unusedSimpArgs false
def kb1 : List (List Int) := [[], [0], [0], [1, 2]]
def kb2 : List (List Int) := [[], [0], [0, 1]]
theorem fitk1 : FitP kb1 := fun c hc => by
  match c, hc with
  | 0, _ | 1, _ | 2, _ | 3, _ => exact ⟨by simp [kb1], by simp [kb1]⟩
theorem fitk2 : FitP kb2 := fun c hc => by
  match c, hc with
  | 0, _ | 1, _ | 2, _ => exact ⟨by simp [kb2], by simp [kb2]⟩
theorem kb1_e : ordE kb1 3 = 0 := by
  rw [ordE0 (l := [3, 1, 2, 0]) (by decide) (by decide) (fitB_yes fitk1) (by decide +kernel)]
theorem kb1_l : ordL kb1 3 = [3, 1, 2, 0] := ordL_ok kb1_e (by decide +kernel)
theorem kb2_e : ordE kb2 2 = 13 := by
  rw [ordE4 (by decide) (by decide) (fitB_yes fitk2) (by decide +kernel)]
theorem cell_at {w : World} {b o : Nat} {cs : Array Value} {T : TypeId} {v : Value} (hb : b = w.heap.size) (hv : cs[o]? = some v) : (w.alloc (.cells cs T)).cell? ⟨b, o, none⟩ = some v := by
  subst hb
  unfold World.cell?
  rw [heap_alloc_new]
  exact hv
theorem ri_one1 {w : World} {b c : Nat} {x : Int} (h : w.cell? ⟨b, 0, none⟩ = some (.int .i64 x)) (hc : 1 ≤ c) : Ri w (.slice (some ⟨b, 0, none⟩) 1 c) [x] :=
  .inr ⟨b, 0, c, rfl, hc, by simp, fun j hj => by obtain rfl : j = 0 := by simpa using hj
                                                  exact h⟩
theorem ri_two {w : World} {b c : Nat} {x y : Int} (h : w.cell? ⟨b, 0, none⟩ = some (.int .i64 x)) (h1 : w.cell? ⟨b, 1, none⟩ = some (.int .i64 y)) (hc : 2 ≤ c) : Ri w (.slice (some ⟨b, 0, none⟩) 2 c) [x, y] :=
  .inr ⟨b, 0, c, rfl, hc, by simp, fun j hj => by
    match j, hj with
    | 0, _ => exact h
    | 1, _ => exact h1⟩
set_option maxRecDepth 100000 in
set_option maxHeartbeats 2000000 in
theorem knownM (w : World) : Calls Try.prog 6 #[] w fun e w' => e = .returned (.bool true) ∧ Below w.heap.size w w' := by
  go_enter Try.func6, Try.ntmps6
  go_wp2_with fail
  refine (mroorder_any _ kb1 3 _ (.inr ⟨_, 0, 4, rfl, by simp [kb1], by simp [kb1], fun i hi => ?_⟩) ?_).mono ?_
  · match i, hi with
    | 0, _ => exact ⟨.slice (some ⟨w.heap.size, 0, none⟩) 0 0, (cell_at (by simp) rfl), .inl ⟨_, rfl, rfl⟩⟩
    | 1, _ => exact ⟨.slice (some ⟨w.heap.size + 1, 0, none⟩) 1 1, (cell_at (by simp) rfl), ri_one1 (alloc_cell (alloc_cell (alloc_cell (cell_at (by simp) rfl) _) _) _) (Nat.le_refl _)⟩
    | 2, _ => exact ⟨.slice (some ⟨w.heap.size + 1 + 1, 0, none⟩) 1 1, (cell_at (by simp) rfl), ri_one1 (alloc_cell (alloc_cell (cell_at (by simp) rfl) _) _) (Nat.le_refl _)⟩
    | 3, _ => exact ⟨.slice (some ⟨w.heap.size + 1 + 1 + 1, 0, none⟩) 2 2, (cell_at (by simp) rfl), ri_two (alloc_cell (cell_at (by simp) rfl) _) (alloc_cell (cell_at (by simp) rfl) _) (Nat.le_refl _)⟩
  · intro i
    match i with
    | 0 | 1 | 2 | 3 => simp [kb1]
    | i + 4 => simp [kb1]
  rintro e w1 ⟨u1, rfl, hu, hb⟩
  rw [kb1_e]
  rw [kb1_l] at hu
  have HB1 := Lib.hid (show Below w.heap.size w w1 from (by ((repeat' (first | with_reducible assumption | with_reducible exact Below.refl _ _ | with_reducible refine Below.drew ?_ | with_reducible refine Below.alloc ?_ (by first | omega | (simp; omega) | (simp; done) | fail) _ | with_reducible refine Below.setCell ?_ (by first | omega | (simp; omega) | (simp; done) | fail) _ | fail)); (first | done | fail)) : Below w.heap.size w _).trans (hb.mono (by simp; omega)))
  have HU1 := Lib.hid (OW.mine hu)
  clear hu hb
  obtain ⟨g, c, rfl⟩ : ∃ g c, u1 = .slice (some ⟨g, 0, none⟩) 4 c := by
    rcases HU1.out with ⟨rfl, h⟩ | ⟨g, c, cur, rfl, _⟩
    · cases h
    · exact ⟨g, c, rfl⟩
  go_wp2_with fail
  refine (mroorder_any _ kb2 2 _ (.inr ⟨_, 0, 3, rfl, by simp [kb2], by simp [kb2], fun i hi => ?_⟩) ?_).mono ?_
  · match i, hi with
    | 0, _ => exact ⟨.slice (some ⟨w1.heap.size, 0, none⟩) 0 0, (cell_at (by simp) rfl), .inl ⟨_, rfl, rfl⟩⟩
    | 1, _ => exact ⟨.slice (some ⟨w1.heap.size + 1, 0, none⟩) 1 1, (cell_at (by simp) rfl), ri_one1 (alloc_cell (alloc_cell (cell_at (by simp) rfl) _) _) (Nat.le_refl _)⟩
    | 2, _ => exact ⟨.slice (some ⟨w1.heap.size + 1 + 1, 0, none⟩) 2 2, (cell_at (by simp) rfl), ri_two (alloc_cell (cell_at (by simp) rfl) _) (alloc_cell (cell_at (by simp) rfl) _) (Nat.le_refl _)⟩
  · intro i
    match i with
    | 0 | 1 | 2 => simp [kb2]
    | i + 3 => simp [kb2]
  rintro e w2 ⟨u2, rfl, hu, hb⟩
  rw [kb2_e]
  have HB2 := Lib.hid (show Below w1.heap.size w1 w2 from (by ((repeat' (first | with_reducible assumption | with_reducible exact Below.refl _ _ | with_reducible refine Below.drew ?_ | with_reducible refine Below.alloc ?_ (by first | omega | (simp; omega) | (simp; done) | fail) _ | with_reducible refine Below.setCell ?_ (by first | omega | (simp; omega) | (simp; done) | fail) _ | fail)); (first | done | fail)) : Below w1.heap.size w1 _).trans (hb.mono (by simp; omega)))
  rw [ordL_bad (by rw [kb2_e]; decide)] at hu
  clear hb hu
  have HR := Lib.hid ((Mine.ri HU1.out (by simp)).keep HB2.out)
  go_wp2_with fail
  refine (sameints _ _ [3, 1, 2, 0] _ (HR.out.keep ((Below.refl _ _).alloc (Nat.le_refl _) _)) (.inr ⟨w2.heap.size, 0, 4, rfl, by simp, by simp, fun i hi => ?_⟩)).mono ?_
  · match i, hi with
    | 0, _ | 1, _ | 2, _ | 3, _ => exact (cell_at (by simp) rfl)
  rintro e w3 ⟨rfl, hb3⟩
  have HB3 := Lib.hid (show Below w2.heap.size w2 w3 from (by ((repeat' (first | with_reducible assumption | with_reducible exact Below.refl _ _ | with_reducible refine Below.drew ?_ | with_reducible refine Below.alloc ?_ (by first | omega | (simp; omega) | (simp; done) | fail) _ | with_reducible refine Below.setCell ?_ (by first | omega | (simp; omega) | (simp; done) | fail) _ | fail)); (first | done | fail)) : Below w2.heap.size w2 _).trans (hb3.mono (by simp)))
  clear hb3
  have HR3 := Lib.hid (HR.out.keep HB3.out)
  go_wp2_with fail
  refine (below_any _ [3, 1, 2, 0] 0 _ HR3.out).mono ?_
  rintro e w4 ⟨rfl, rfl⟩
  rw [show hasFrom [3, 1, 2, 0] 0 0 = true by decide]
  go_wp2_with fail
  refine (below_any _ [3, 1, 2, 0] 4 _ HR3.out).mono ?_
  rintro e w4 ⟨rfl, rfl⟩
  rw [show hasFrom [3, 1, 2, 0] 0 4 = false by decide]
  go_wp2_with fail
  go_ret
  exact ⟨rfl, HB1.out.trans ((HB2.out.mono HB1.out.size).trans (HB3.out.mono (Nat.le_trans HB1.out.size HB2.out.size)))⟩
end Go.Proofs.Ytfddcmapjnkhhaa
