/- Layer 2: whole.made: the noughts at the end of the limbs are cut. -/
import Derived.Test.YticebchmafipiaaDoorWGood
namespace Go.Proofs.YticebchmafipiaaDoor
open Go.ChangeShapes Go.WideShapes Go.ChangeAt Go.RowKit
set_option linter.unusedVariables false
set_option linter.unusedSimpArgs false
def madeV (neg : Bool) (p : Option Addr) (k : Nat) : Value := if k = 0 then .agg #[.bool false, .slice none 0 0] else .agg #[.bool neg, .slice p k k]
theorem two_setW {w : World} {B : Nat} {x0 x1 y0 y1 : Value} (h0 : w.cell? ⟨B, 0, none⟩ = some y0) (h1 : w.cell? ⟨B, 1, none⟩ = some y1) :
    ((w.setCell ⟨B, 0, none⟩ x0).setCell ⟨B, 1, none⟩ x1).cell? ⟨B, 0, none⟩ = some x0 ∧ ((w.setCell ⟨B, 0, none⟩ x0).setCell ⟨B, 1, none⟩ x1).cell? ⟨B, 1, none⟩ = some x1 := by
  have n1 : (⟨B, 1, none⟩ : Addr) ≠ ⟨B, 0, none⟩ := by simp
  have n0 : (⟨B, 0, none⟩ : Addr) ≠ ⟨B, 1, none⟩ := by simp
  exact ⟨(World.cell?_setCell_other _ _ _ _ n1).trans (World.cell?_setCell_same _ _ _ h0), World.cell?_setCell_same _ _ _ ((World.cell?_setCell_other _ _ _ _ n0).trans h1)⟩
def MadePost (W : World) (neg : Bool) (p : Option Addr) (ws : List Int) (e : Ending) (w' : World) : Prop := ∃ k, CutAt ws k ∧ e = .returned (madeV neg p k) ∧ Below W.heap.size W w'
set_option maxRecDepth 100000 in
set_option maxHeartbeats 1000000 in
theorem made_any (neg : Bool) (p : Option Addr) (c : Nat) (ws : List Int) (w : World) (hr : Rd w (.slice p ws.length c) ws) :
    Calls Tryd.prog 41 #[.bool neg, .slice p ws.length c] w (MadePost w neg p ws) := by
  obtain ⟨p', c', e0, hc, hm, hp⟩ := rd_form hr
  simp only [Value.slice.injEq, true_and] at e0
  obtain ⟨rfl, rfl⟩ := e0
  have HP := Lib.hid hp
  clear hp hr
  go_enter Tryd.func41, Tryd.ntmps41
  go_wp2
  generalize hw2 : World.alloc w _ = w2
  have HB := Lib.hid (show Below w.heap.size w w2 by rw [← hw2]; exact (Below.refl _ _).alloc (Nat.le_refl _) _)
  have hb0 : w2.cell? ⟨w.heap.size, 0, none⟩ = some (.bool false) := by rw [← hw2]; simp
  have hb1 : w2.cell? ⟨w.heap.size, 1, none⟩ = some (.slice none 0 0) := by rw [← hw2]; simp
  have hf0 : w2.frozen? ⟨w.heap.size, 0, none⟩ = false := by rw [← hw2]; simp
  have hf1 : w2.frozen? ⟨w.heap.size, 1, none⟩ = false := by rw [← hw2]; simp
  clear hw2
  go_loop [5] (fun s => ∃ k : Nat, s = .int .i64 k ∧ k ≤ ws.length ∧ ∀ j, k ≤ j → ws.getD j 0 = 0) (fun s => (intOf s).toNat)
  case atStart => exact ⟨ws.length, by go_num, Nat.le_refl _, fun j hj => by simp [List.getD_eq_getElem?_getD, List.getElem?_eq_none hj]⟩
  case round =>
    obtain ⟨k, rfl, hk, hall⟩ := hrel
    have HA := Lib.hid hall
    clear hall
    by_cases hk0 : k = 0
    · subst hk0
      have HK := Lib.hid (show CutAt ws 0 from ⟨hk, HA.out, fun h => absurd h (by omega)⟩)
      go_wp2
      have z2 := two_setW (x0 := .bool false) (x1 := .slice none 0 0) hb0 hb1
      refine bodyPost_ret (v := .agg #[.bool false, .slice none 0 0]) (by simp [results, Tryd.results41, go_sem, z2.1, z2.2]) rfl ⟨0, HK.out, rfl, ?_⟩
      exact (HB.out.setCell (by simp) _).setCell (by simp) _
    · obtain ⟨b, off, rfl, hx⟩ := HP.out (by omega)
      have e1 := below_cell HB.out (hx (k - 1) (by omega))
      clear hx
      have hk1 : 1 ≤ k := by omega
      by_cases hz : ws.getD (k - 1) 0 = 0
      · have HZ := Lib.hid hz
        rw [hz] at e1
        clear hz hk0
        go_wp2
        go_round
        case rel => exact ⟨k - 1, by go_num, by omega, fun j hj => by
          by_cases e : j = k - 1
          · subst e; exact HZ.out
          · exact HA.out j (by omega)⟩
        case measure => simp [intOf]; omega
      · have HK := Lib.hid (show CutAt ws k from ⟨hk, HA.out, fun _ => hz⟩)
        have hz2 : (ws.getD (k - 1) 0 == 0) = false := by simpa using hz
        generalize ws.getD (k - 1) 0 = x at e1 hz2
        clear hz
        have hk2 : ((k : Int) == 0) = false := by simpa using hk0
        clear hk0
        go_wp2
        have z2 := two_setW (x0 := .bool neg) (x1 := .slice (some ⟨b, off, none⟩) k k) hb0 hb1
        refine bodyPost_ret (v := .agg #[.bool neg, .slice (some ⟨b, off, none⟩) k k]) (by simp [results, Tryd.results41, go_sem, z2.1, z2.2]) rfl ⟨k, HK.out, by rw [madeV, if_neg (by omega)], ?_⟩
        exact (HB.out.setCell (by simp) _).setCell (by simp) _
end Go.Proofs.YticebchmafipiaaDoor
