/- When the sizes of a memory or its first word are wrong, Check answers ErrForm. The contract of Check: it answers 0 where the memory is in form, else ErrForm. -/
import Derived.Test.YtilonacjmihglaaPGStarts
namespace Go.Proofs.Ytilonacjmihglaa
section
open Go.ChangeShapes Go.WideShapes Go.ChangeAt Go.RowKit
set_option linter.unusedVariables false
set_option linter.unusedSimpArgs false

def tags (ws : List Int) (a : Nat) : List Int := (ws.drop (a + 2)).take (hT (headAt ws a)).toNat
def wordsOk (ws : List Int) (l : List Nat) : Bool := l.all fun a => (tags ws a).all (rightW l)
def shapeOk (ws : List Int) : Bool := match scan ws 1 with | none => false | some l => wordsOk ws l
def sizesOk (ws : List Int) (top : Int) : Bool := decide (2 ≤ ws.length ∧ ws.length ≤ 1048576 ∧ 1 ≤ top ∧ top ≤ ws.length ∧ ws.getD 0 0 = 0)
def memOk (ws : List Int) (top : Int) : Bool := sizesOk ws top && ((ws.drop top.toNat).all (· == 0) && shapeOk (ws.take top.toNat))

def checkE (ws : List Int) (top : Int) : Int := if memOk ws top then 0 else 3
theorem checkE_lo (ws : List Int) (top : Int) : 0 ≤ checkE ws top ∧ checkE ws top ≤ 3 := by unfold checkE; split <;> omega
theorem sizeU64 : ∀ wx, (sizeOf (Try.prog.elem 22)).run Try.prog wx = .ok 1 wx := fun wx => by kernel_rfl
theorem sliceU64 : Try.prog.underlying 22 = some (.slice (Try.prog.elem 22)) := by kernel_rfl
theorem cell_alloc1 {w : World} {a : Addr} {v : Value} {w1 : World} {o : Obj} (hb : Below (w.alloc o).heap.size (w.alloc o) w1) (h : (w.alloc o).cell? a = some v) : w1.cell? a = some v := below_cell hb h
end
section
open Go.ChangeShapes Go.WideShapes Go.ChangeAt Go.RowKit
set_option linter.unusedVariables false
set_option linter.unusedSimpArgs false

/-- The loop of Check. -/
structure CS (w : World) (top : Int) (u : Value) (ws : List Int) (l : List Nat) (g : Nat) (B : Nat) (k : Nat) (done rest : List Nat) (wr : World) : Prop where
  split : l = done ++ rest
  rest : scan ws k = some rest
  ok : (done.all fun a => (tags ws a).all (rightW l)) = true
  one : 1 ≤ k
  le : k ≤ ws.length
  box : wr.cell? ⟨w.heap.size, 1, none⟩ = some (.int .i64 top)
  view : wr.cell? ⟨B, 0, none⟩ = some u
  row : StartsRow wr g (ws.length / 64 + 1) l
  below : Below w.heap.size w wr
theorem CS.drewN {w : World} {top : Int} {u : Value} {ws : List Int} {l : List Nat} {g B k : Nat} {done rest : List Nat} {wr : World} (h : CS w top u ws l g B k done rest wr) (q : Nat) : CS w top u ws l g B k done rest (wr.drewN q) :=
  ⟨h.split, h.rest, h.ok, h.one, h.le, h.box, h.view, h.row, below_drewN h.below q⟩
theorem CS.keep {w : World} {top : Int} {u : Value} {ws : List Int} {l : List Nat} {g B k : Nat} {done rest : List Nat} {wr w1 : World} (h : CS w top u ws l g B k done rest wr) (hb : Below wr.heap.size wr w1) : CS w top u ws l g B k done rest w1 :=
  ⟨h.split, h.rest, h.ok, h.one, h.le, below_cell hb h.box, below_cell hb h.view, h.row.keep hb, h.below.trans (hb.mono h.below.size)⟩
end
end Go.Proofs.Ytilonacjmihglaa
