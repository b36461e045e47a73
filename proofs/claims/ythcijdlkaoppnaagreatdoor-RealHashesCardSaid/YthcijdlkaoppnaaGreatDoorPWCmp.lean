/- Layer 2: whole.Cmp and Sign. -/
import Derived.Test.YthcijdlkaoppnaaGreatDoorPWSub
namespace Go.Proofs.YthcijdlkaoppnaaGreatDoor
open Go.ChangeShapes Go.WideShapes Go.ChangeAt Go.RowKit
set_option linter.unusedVariables false
set_option linter.unusedSimpArgs false
structure Bx2c (w : World) (B : Nat) (n1 : Bool) (u1 : Value) (n2 : Bool) (u2 : Value) : Prop where
  x0 : w.cell? ⟨B, 0, none⟩ = some (.bool n1)
  x1 : w.cell? ⟨B, 1, none⟩ = some u1
  y0 : w.cell? ⟨B + 1, 0, none⟩ = some (.bool n2)
  y1 : w.cell? ⟨B + 1, 1, none⟩ = some u2
theorem Bx2c.keep {w w' : World} {B : Nat} {n1 n2 : Bool} {u1 u2 : Value} (h : Bx2c w B n1 u1 n2 u2) (hb : Below w.heap.size w w') : Bx2c w' B n1 u1 n2 u2 :=
  ⟨below_cell hb h.x0, below_cell hb h.x1, below_cell hb h.y0, below_cell hb h.y1⟩
theorem cmp_sgn_nn {b : Int} (hb : 0 < b) {xs ys : List Int} {z1 z2 : Int} (h : Sgn b true xs z1) (g : Sgn b true ys z2) : cmpI (val b ys) (val b xs) = cmpI z1 z2 := by
  have e1 := h.eq; have e2 := g.eq; simp [sg] at e1 e2; unfold cmpI; rw [e1, e2]; (repeat' split) <;> omega
theorem cmp_sgn_pp {b : Int} (hb : 0 < b) {xs ys : List Int} {z1 z2 : Int} (h : Sgn b false xs z1) (g : Sgn b false ys z2) : cmpI (val b xs) (val b ys) = cmpI z1 z2 := by
  have e1 := h.eq; have e2 := g.eq; simp [sg] at e1 e2; rw [e1, e2]
theorem cmp_sgn_np {b : Int} (hb : 0 < b) {xs ys : List Int} {z1 z2 : Int} (h : Sgn b true xs z1) (g : Sgn b false ys z2) : -1 = cmpI z1 z2 := by
  have e1 := h.neg_iff hb; have e2 := g.neg_iff hb; simp at e1 e2; rw [cmpI_lt (by omega)]
theorem cmp_sgn_pn {b : Int} (hb : 0 < b) {xs ys : List Int} {z1 z2 : Int} (h : Sgn b false xs z1) (g : Sgn b true ys z2) : 1 = cmpI z1 z2 := by
  have e1 := h.neg_iff hb; have e2 := g.neg_iff hb; simp at e1 e2; rw [cmpI_gt (by omega)]
end Go.Proofs.YthcijdlkaoppnaaGreatDoor
