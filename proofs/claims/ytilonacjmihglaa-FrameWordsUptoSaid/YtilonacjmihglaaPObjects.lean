/- The contract of Objects: the addresses of all objects, where the memory is in form; nothing else changes. -/
import Derived.Test.YtilonacjmihglaaPGRefAll
namespace Go.Proofs.Ytilonacjmihglaa
open Go.ChangeShapes Go.WideShapes Go.ChangeAt Go.RowKit
set_option linter.unusedVariables false
set_option linter.unusedSimpArgs false
def ObjPost (W : World) (ws : List Int) (top : Int) (e : Ending) (w' : World) : Prop :=
  Below W.heap.size W w' ∧ ∃ u, e = .returned u ∧ w'.ownsRow W.heap.size 3 1 u (objList ws top).length (natVals (objList ws top))
theorem ObjPost.no {W w' : World} {ws : List Int} {top : Int} (h : memOk ws top = false) (hb : Below W.heap.size W w') : ObjPost W ws top (.returned (.slice none 0 0)) w' := by
  have e : objList ws top = [] := by unfold objList; rw [h]; rfl
  refine ⟨hb, .slice none 0 0, rfl, ?_⟩
  rw [e]
  exact World.ownsRow_nil _ _ _ _
theorem ObjPost.yes {W w' : World} {ws : List Int} {n : Nat} {l : List Nat} {u : Value} (hm : memOk ws n = true) (hs : scan (ws.take n) 1 = some l) (hb : Below W.heap.size W w') (ho : w'.ownsRow W.heap.size 3 1 u l.length (natVals l)) :
    ObjPost W ws n (.returned u) w' := by
  have e : objList ws n = l := by unfold objList; rw [hm, Int.toNat_natCast, hs]; rfl
  refine ⟨hb, u, rfl, ?_⟩
  rw [e]
  exact ho
/-- The state of the loop. -/
structure OS (w : World) (n : Nat) (uv : Value) (vs : List Int) (l : List Nat) (B k : Nat) (done rest : List Nat) (lv : Value) (wr : World) : Prop where
  split : l = done ++ rest
  rest : scan vs k = some rest
  one : 1 ≤ k
  le : k ≤ n
  len : done.length ≤ k
  box1 : wr.cell? ⟨w.heap.size, 1, none⟩ = some (.int .i64 n)
  view : wr.cell? ⟨B, 0, none⟩ = some uv
  bge : w.heap.size < B
  own : wr.ownsRow (B + 1) 3 1 lv done.length (natVals done)
  below : Below w.heap.size w wr
  lt : B < wr.heap.size
theorem OS.keep {w : World} {n : Nat} {uv : Value} {vs : List Int} {l : List Nat} {B k : Nat} {done rest : List Nat} {lv : Value} {wr w1 : World} (h : OS w n uv vs l B k done rest lv wr) (hb : Below wr.heap.size wr w1) : OS w n uv vs l B k done rest lv w1 :=
  ⟨h.split, h.rest, h.one, h.le, h.len, below_cell hb h.box1, below_cell hb h.view, h.bge, h.own.kept (row := none) ⟨hb.os, hb.tape, hb.output, hb.size, fun k hk _ => hb.block k hk⟩ (by cases lv.ownBlock <;> simp), h.below.trans (hb.mono h.below.size), Nat.lt_of_lt_of_le h.lt hb.size⟩
theorem OS.next {w : World} {n : Nat} {uv : Value} {vs : List Int} {l : List Nat} {B k : Nat} {done rest rest' : List Nat} {lv : Value} {w1 : World} (h : OS w n uv vs l B k done rest lv w1) (hr : rest = k :: rest') (hn : vs.length = n) (ho : okAt vs k = true) (hrest : scan vs (k + sz vs k) = some rest') (O2 : Obj)
    (v' : Value) (w3 : World) (hown : w3.ownsRow (B + 1) 3 1 v' (done.length + 1) (natVals done ++ [.int .i64 (k : Int)])) (hg : (w1.alloc O2).grownBy w3 lv.ownBlock) : OS w n uv vs l B (k + sz vs k) (done ++ [k]) rest' v' w3 := by
  have hlt := h.own.lt
  have hsz := okAt_sz ho
  have hne : ∀ x, x < B + 1 → some x ≠ lv.ownBlock := fun x hx e => by have := hlt x e.symm; omega
  refine ⟨by rw [h.split, hr, List.append_assoc]; rfl, hrest, by have := h.one; omega, by rw [← hn]; exact hsz.2.2.1, by rw [List.length_append]; have := h.len; simp; omega, ?_, ?_, h.bge, by simpa [natVals] using hown, ?_, ?_⟩
  · exact hg.cell (alloc_cell h.box1 O2) (hne _ (by have := h.bge; simp; omega))
  · exact hg.cell (alloc_cell h.view O2) (hne _ (by simp))
  · have b1 : Below w.heap.size w (w1.alloc O2) := h.below.alloc h.below.size O2
    exact b1.grown hg b1.size (fun x hx => by have := hlt x hx; have := h.bge; omega)
  · have h2 := hg.size; have h3 := h.lt; simp at h2; omega
end Go.Proofs.Ytilonacjmihglaa
