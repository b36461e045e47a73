/- Layer 2: whole.Add. -/
import Derived.Test.YthcijdlkaoppnaaGreatDoorPWFit
import Derived.Deep.RegionHeld3
namespace Go.Proofs.YthcijdlkaoppnaaGreatDoor
open Go.ChangeShapes Go.WideShapes Go.ChangeAt Go.RowKit
set_option linter.unusedVariables false
set_option linter.unusedSimpArgs false
/-- The boxes of two numbers that came in, and of the answer. -/
structure Bx3 (w : World) (B : Nat) (n1 : Bool) (u1 : Value) (n2 : Bool) (u2 : Value) : Prop where
  x0 : w.cell? ⟨B, 0, none⟩ = some (.bool n1)
  x1 : w.cell? ⟨B, 1, none⟩ = some u1
  y0 : w.cell? ⟨B + 1, 0, none⟩ = some (.bool n2)
  y1 : w.cell? ⟨B + 1, 1, none⟩ = some u2
  r0 : w.cell? ⟨B + 1 + 1, 0, none⟩ = some (.bool false)
  r1 : w.cell? ⟨B + 1 + 1, 1, none⟩ = some (.slice none 0 0)
  f0 : w.frozen? ⟨B + 1 + 1, 0, none⟩ = false
  f1 : w.frozen? ⟨B + 1 + 1, 1, none⟩ = false
  lt : B + 1 + 1 < w.heap.size
theorem Bx3.keep {w w' : World} {B : Nat} {n1 n2 : Bool} {u1 u2 : Value} (h : Bx3 w B n1 u1 n2 u2) (hb : Below w.heap.size w w') : Bx3 w' B n1 u1 n2 u2 :=
  ⟨below_cell hb h.x0, below_cell hb h.x1, below_cell hb h.y0, below_cell hb h.y1, below_cell hb h.r0, below_cell hb h.r1, (hb.frozen (p := ⟨B + 1 + 1, 0, none⟩) h.lt).trans h.f0, (hb.frozen (p := ⟨B + 1 + 1, 1, none⟩) h.lt).trans h.f1, Nat.lt_of_lt_of_le h.lt hb.size⟩
theorem good_yes (neg : Bool) (u : Value) (ws : List Int) (z : Int) (w : World) (hr : Rd w u ws) (hS : Sgn B18 neg ws z) (hl : ws.length ≤ 30) :
    Calls Tryz.prog 21 #[.agg #[.bool neg, u]] w (BoolPost w true) := by
  have h := good_any neg u ws w hr hS.canon.fit
  rw [goodB_of hS hl] at h
  exact h
theorem good_no (neg : Bool) (u : Value) (ws : List Int) (w : World) (hr : Rd w u ws) (hf : Fit ws) (hg : goodB neg ws = false) :
    Calls Tryz.prog 21 #[.agg #[.bool neg, u]] w (BoolPost w false) := by
  have h := good_any neg u ws w hr hf
  rw [hg] at h
  exact h
theorem third_cell (w : World) (o1 o2 : Obj) (c : Array Value) (T : TypeId) (i : Nat) : (((w.alloc o1).alloc o2).alloc (.cells c T)).cell? ⟨w.heap.size + 1 + 1, i, none⟩ = c[i]? := by
  have e : w.heap.size + 1 + 1 = ((w.alloc o1).alloc o2).heap.size := by simp
  rw [e]; generalize (w.alloc o1).alloc o2 = W; simp
theorem third_fr (w : World) (o1 o2 : Obj) (c : Array Value) (T : TypeId) (i : Nat) : (((w.alloc o1).alloc o2).alloc (.cells c T)).frozen? ⟨w.heap.size + 1 + 1, i, none⟩ = false := by
  have e : w.heap.size + 1 + 1 = ((w.alloc o1).alloc o2).heap.size := by simp
  rw [e]; generalize (w.alloc o1).alloc o2 = W; simp
theorem cell_set2 {w : World} {B C i : Nat} {v : Value} (h : B ≠ C) (hc : w.cell? ⟨B, i, none⟩ = some v) (x y : Value) : ((w.setCell ⟨C, 0, none⟩ x).setCell ⟨C, 1, none⟩ y).cell? ⟨B, i, none⟩ = some v := by
  rw [← hc]
  exact World.cell?_of_block (a := ⟨B, i, none⟩) ((Below.heap_setCell _ _ _ _ h).trans (Below.heap_setCell _ _ _ _ h))
theorem MU.set2 {w : World} {B0 B : Nat} {u : Value} {ws : List Int} (h : MU w B0 u ws) (hB : B < B0) (x0 x1 : Value) : MU ((w.setCell ⟨B, 0, none⟩ x0).setCell ⟨B, 1, none⟩ x1) B0 u ws := by
  rcases h with h | ⟨g, c, cur, h0, h1, h2, h3, h4, h5⟩
  · exact .inl h
  · refine .inr ⟨g, c, cur, h0, h1, h2, h3, ?_, h5⟩
    rw [Below.heap_setCell _ _ _ _ (by simp; omega), Below.heap_setCell _ _ _ _ (by simp; omega)]
    exact h4
theorem ResPost.mk {W w' : World} {B0 B1 : Nat} {z z' : Int} {neg : Bool} {u : Value} {ws : List Int} {er : Int} (hM : MU w' B1 u ws) (hB : B0 ≤ B1) (hb : Below W.heap.size W w') (he : z' = z)
    (hc : (Small z' ∧ er = 0 ∧ Sgn B18 neg ws z') ∨ (¬ Small z' ∧ er = 7 ∧ neg = false ∧ ws = [])) : ResPost W B0 z (.returned (.tuple #[.agg #[.bool neg, u], .int .i64 er])) w' := by
  subst he
  exact ⟨neg, u, ws, er, rfl, hM.low hB, hb, hc⟩
theorem sg_add (n : Bool) (a b : Int) : sg n (a + b) = sg n a + sg n b := by unfold sg; split <;> omega
theorem sg_sub (n m : Bool) (a b : Int) (h : n ≠ m) : sg n (a - b) = sg n a + sg m b := by
  cases n <;> cases m <;> simp [sg] at h ⊢ <;> omega
def BadPost (W : World) (er : Int) (e : Ending) (w' : World) : Prop := e = .returned (.tuple #[.agg #[.bool false, .slice none 0 0], .int .i64 er]) ∧ Below W.heap.size W w'
end Go.Proofs.YthcijdlkaoppnaaGreatDoor
