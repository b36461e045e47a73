/- Layer 2: whole.made: the noughts at the end of the limbs are cut. -/
import Derived.Test.YthcijdlkaoppnaaGreatDoorPWGood
namespace Go.Proofs.YthcijdlkaoppnaaGreatDoor
open Go.ChangeShapes Go.WideShapes Go.ChangeAt Go.RowKit
set_option linter.unusedVariables false
set_option linter.unusedSimpArgs false
def madeV (neg : Bool) (p : Option Addr) (k : Nat) : Value := if k = 0 then .agg #[.bool false, .slice none 0 0] else .agg #[.bool neg, .slice p k k]
theorem two_setW {w : World} {B : Nat} {x0 x1 y0 y1 : Value} (h0 : w.cell? ⟨B, 0, none⟩ = some y0) (h1 : w.cell? ⟨B, 1, none⟩ = some y1) :
    ((w.setCell ⟨B, 0, none⟩ x0).setCell ⟨B, 1, none⟩ x1).cell? ⟨B, 0, none⟩ = some x0 ∧ ((w.setCell ⟨B, 0, none⟩ x0).setCell ⟨B, 1, none⟩ x1).cell? ⟨B, 1, none⟩ = some x1 := by
  have n1 : (⟨B, 1, none⟩ : Addr) ≠ ⟨B, 0, none⟩ := by simp
  have n0 : (⟨B, 0, none⟩ : Addr) ≠ ⟨B, 1, none⟩ := by simp
  exact ⟨(World.cell?_setCell_other _ _ _ _ n1).trans (World.cell?_setCell_same _ _ _ h0), World.cell?_setCell_same _ _ _ ((World.cell?_setCell_other _ _ _ _ n0).trans h1)⟩
def MadePost (W : World) (neg : Bool) (p : Option Addr) (ws : List Int) (e : Ending) (w' : World) : Prop := ∃ k, CutAt ws k ∧ e = .returned (madeV neg p k) ∧ Below W.heap.size W w'
end Go.Proofs.YthcijdlkaoppnaaGreatDoor
