/- Layer 2: whole.Neg. -/
import Derived.Test.YthcijdlkaoppnaaGreatDoorPWAddBad
namespace Go.Proofs.YthcijdlkaoppnaaGreatDoor
open Go.ChangeShapes Go.WideShapes Go.ChangeAt Go.RowKit
set_option linter.unusedVariables false
set_option linter.unusedSimpArgs false
def BigPost (W : World) (B0 : Nat) (z : Int) (e : Ending) (w' : World) : Prop :=
  ∃ neg u ws, e = .returned (.agg #[.bool neg, u]) ∧ MU w' B0 u ws ∧ Sgn B18 neg ws z ∧ Below W.heap.size W w'
/-- The boxes of a number that came in, and of the answer. -/
structure Bx2 (w : World) (B : Nat) (n1 : Bool) (u1 : Value) : Prop where
  x0 : w.cell? ⟨B, 0, none⟩ = some (.bool n1)
  x1 : w.cell? ⟨B, 1, none⟩ = some u1
  r0 : w.cell? ⟨B + 1, 0, none⟩ = some (.bool false)
  r1 : w.cell? ⟨B + 1, 1, none⟩ = some (.slice none 0 0)
  f0 : w.frozen? ⟨B + 1, 0, none⟩ = false
  f1 : w.frozen? ⟨B + 1, 1, none⟩ = false
  lt : B + 1 < w.heap.size
theorem Bx2.keep {w w' : World} {B : Nat} {n1 : Bool} {u1 : Value} (h : Bx2 w B n1 u1) (hb : Below w.heap.size w w') : Bx2 w' B n1 u1 :=
  ⟨below_cell hb h.x0, below_cell hb h.x1, below_cell hb h.r0, below_cell hb h.r1, (hb.frozen (p := ⟨B + 1, 0, none⟩) h.lt).trans h.f0, (hb.frozen (p := ⟨B + 1, 1, none⟩) h.lt).trans h.f1, Nat.lt_of_lt_of_le h.lt hb.size⟩
theorem sg_not (n : Bool) (a : Int) : sg (!n) a = -(sg n a) := by cases n <;> simp [sg]
theorem Small.neg {z : Int} (h : Small z) : Small (-z) := ⟨by rw [Int.natAbs_neg]; exact h.lt⟩
end Go.Proofs.YthcijdlkaoppnaaGreatDoor
