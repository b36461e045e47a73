/- Layer 2: numbers of the reference in boxes: what a store into a box leaves, and ref.Of over a fixed world. -/
import Derived.Test.YtapeomcnjjfihaaDoorWLawIs
import Derived.Test.YtapeomcnjjfihaaDoorWRefOf
namespace Go.Proofs.YtapeomcnjjfihaaDoor
open Go.ChangeShapes Go.WideShapes Go.ChangeAt Go.RowKit
set_option linter.unusedVariables false
set_option linter.unusedSimpArgs false
/-- A box holds a bool and a slice, a row of bytes holds bytes: a store into the box leaves the row. -/
theorem Rb.set2 {w : World} {B : Nat} {a : Bool} {p : Option Addr} {n c : Nat} {v : Value} {ws : List Int} (h : Rb w v ws) (hb : Box2 w B (.bool a) (.slice p n c)) (x y : Value) : Rb ((w.setCell ⟨B, 0, none⟩ x).setCell ⟨B, 1, none⟩ y) v ws := by
  rcases h with h | ⟨b, off, cc, rfl, h1, h2, h3⟩
  · exact .inl h
  · refine .inr ⟨b, off, cc, rfl, h1, h2, fun i hi => ?_⟩
    have h4 := h3 i hi
    have e0 : (⟨B, 0, none⟩ : Addr) ≠ ⟨b, off + i, none⟩ := fun e => by rw [← e, hb.c0] at h4; simp at h4
    have e1 : (⟨B, 1, none⟩ : Addr) ≠ ⟨b, off + i, none⟩ := fun e => by rw [← e, hb.c1] at h4; simp at h4
    exact (World.cell?_setCell_other _ _ _ _ e1).trans ((World.cell?_setCell_other _ _ _ _ e0).trans h4)
def NumAt (W wx : World) (z : Int) (e : Ending) (w' : World) : Prop :=
  ∃ m p c ds, e = .returned (.agg #[.bool m, .slice p ds.length c]) ∧ Rb w' (.slice p ds.length c) ds ∧ Sgn 10 m ds z ∧ Below W.heap.size W w' ∧ Below wx.heap.size wx w'
theorem of_at {W : World} {n1 : Bool} {u1 : Value} {xs : List Int} {z : Int} (hr : Rd W u1 xs) (hs : Sgn B18 n1 xs z) (hl : xs.length ≤ 100) (wx : World) (hx : Below W.heap.size W wx) :
    Calls Tryd.prog 22 #[.agg #[.bool n1, u1]] wx (NumAt W wx z) := by
  refine (of_any n1 u1 xs z wx (hr.keep hx) hs hl).mono ?_
  rintro e w' ⟨m, u, ds, rfl, hb, hS, hB⟩
  obtain ⟨p, c, rfl, _, _, _⟩ := rb_form hb
  exact ⟨m, p, c, ds, rfl, hb, hS, hx.trans (hB.mono hx.size), hB⟩
/-- Two numbers in boxes of their own. -/
structure NN (W wx : World) (b1 b2 : Nat) (m1 : Bool) (p1 : Option Addr) (c1 : Nat) (d1 : List Int) (m2 : Bool) (p2 : Option Addr) (c2 : Nat) (d2 : List Int) (z1 z2 : Int) : Prop where
  below : Below W.heap.size W wx
  x1 : Box2 wx b1 (.bool m1) (.slice p1 d1.length c1)
  x2 : Box2 wx b2 (.bool m2) (.slice p2 d2.length c2)
  r1 : Rb wx (.slice p1 d1.length c1) d1
  r2 : Rb wx (.slice p2 d2.length c2) d2
  s1 : Sgn 10 m1 d1 z1
  s2 : Sgn 10 m2 d2 z2
  l1 : W.heap.size ≤ b1
  l2 : W.heap.size ≤ b2
  ne : b1 ≠ b2
end Go.Proofs.YtapeomcnjjfihaaDoor
