/- Layer 2: screeref02.Same: what it answers of two numbers' signs and limbs. -/
import Derived.Test.YthcijdlkaoppnaaGreatDoorPWGood
namespace Go.Proofs.YthcijdlkaoppnaaGreatDoor
open Go.ChangeShapes Go.WideShapes Go.ChangeAt Go.RowKit
set_option linter.unusedVariables false
set_option linter.unusedSimpArgs false
def sameB (n1 : Bool) (xs : List Int) (n2 : Bool) (ys : List Int) : Bool := (n1 == n2) && decide (xs = ys)
theorem sameB_sign {n1 n2 : Bool} (xs ys : List Int) (h : n1 ≠ n2) : sameB n1 xs n2 ys = false := by
  unfold sameB; cases n1 <;> cases n2 <;> simp_all
theorem sameB_len {n1 n2 : Bool} {xs ys : List Int} (h : xs.length ≠ ys.length) : sameB n1 xs n2 ys = false := by
  unfold sameB; rw [decide_eq_false (fun e => h (by rw [e])), Bool.and_false]
theorem sameB_at {n1 n2 : Bool} {xs ys : List Int} (i : Nat) (h : xs.getD i 0 ≠ ys.getD i 0) : sameB n1 xs n2 ys = false := by
  unfold sameB; rw [decide_eq_false (fun e => h (by rw [e])), Bool.and_false]
theorem list_ext_getD {xs ys : List Int} (hl : xs.length = ys.length) (h : ∀ i, i < xs.length → xs.getD i 0 = ys.getD i 0) : xs = ys := by
  apply List.ext_getElem hl
  intro i h1 h2
  have := h i h1
  simpa [List.getD_eq_getElem?_getD, h1, h2] using this
theorem sameB_yes {n : Bool} {xs ys : List Int} (hl : xs.length = ys.length) (h : ∀ i, i < xs.length → xs.getD i 0 = ys.getD i 0) : sameB n xs n ys = true := by
  unfold sameB; rw [list_ext_getD hl h]; simp
end Go.Proofs.YthcijdlkaoppnaaGreatDoor
