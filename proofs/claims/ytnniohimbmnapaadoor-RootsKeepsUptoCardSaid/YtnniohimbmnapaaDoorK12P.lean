/- Layer 12: the chapter's example 1: which registers are live. -/
import Derived.Test.YtnniohimbmnapaaDoorLvGo
import Derived.Test.YtnniohimbmnapaaDoorLvPure2
namespace Go.Proofs.YtnniohimbmnapaaDoor
open Go
set_option linter.unusedVariables false
set_option linter.unusedSimpArgs false
def F12 : FuncD := ⟨0, 2, [⟨3, 0, 0, 0, 0, 0, []⟩, ⟨4, 1, 0, 0, 0, 0, []⟩, ⟨41, 0, 1, 0, 0, 0, []⟩], []⟩
theorem sound12 : soundB F12 = true := by decide
theorem reads12 : ∀ y, y < 3 → readsN F12 y = [[], [0], [1]].getD y [] := by decide
theorem ways12 : ∀ y, y < 3 → waysN F12 y = [[(1, [0])], [(2, [1])], []].getD y [] := by decide
theorem live12 {y q : Nat} (hy : y < 3) (hq : q < 2) : hasW ([[0], [1], [2]].getD y []) q = true ↔ Lv (grOf F12) y q := by
  have r1 : Lv (grOf F12) 1 0 := .read (by show 0 ∈ readsN F12 1; rw [reads12 1 (by omega)]; simp)
  have r2 : Lv (grOf F12) 2 1 := .read (by show 1 ∈ readsN F12 2; rw [reads12 2 (by omega)]; simp)
  constructor
  · intro h
    have hh : ∀ y, y < 3 → ∀ q, q < 2 → (hasW (([[0], [1], [2]] : List (List Nat)).getD y []) q = false ∨ ((y = 1 ∧ q = 0) ∨ (y = 2 ∧ q = 1))) := by decide
    have hh := (hh y hy q hq).resolve_left (by rw [h]; simp)
    rcases hh with ⟨rfl, rfl⟩ | ⟨rfl, rfl⟩ <;> assumption
  · intro h
    have hG := (soundF sound12).gr
    have main : ∀ y q, Lv (grOf F12) y q → y < 3 → hasW ([[0], [1], [2]].getD y []) q = true := by
      intro y q h
      induction h with
      | @read x r h =>
        intro hx
        have h : r ∈ readsN F12 x := h
        rw [reads12 x hx] at h
        exact (by decide : ∀ x, x < 3 → ∀ r ∈ ([[], [0], [1]].getD x [] : List Nat), hasW ([[0], [1], [2]].getD x []) r = true) x hx r h
      | @way x r w hw hn hl ih =>
        intro hx
        have hw : w ∈ waysN F12 x := hw
        rw [ways12 x hx] at hw
        have hb := (by decide : ∀ x, x < 3 → ∀ w ∈ ([[(1, [0])], [(2, [1])], []].getD x [] : List (Nat × List Nat)), w.1 < 3 ∧ ∀ r, r < 2 → r ∉ w.2 → hasW ([[0], [1], [2]].getD w.1 []) r = true → hasW ([[0], [1], [2]].getD x []) r = true) x hx w hw
        exact hb.2 r (hl.lt hG hb.1) hn (ih hb.1)
    exact main y q h hy
theorem known_rows12 {L : List (List Nat)} (h : OkL (grOf F12) L) (hl : ∀ y, y < F12.ins.length → ∀ q, hasW (L.getD y []) q = true ↔ Lv (grOf F12) y q) : L = [[0], [1], [2]] := by
  have hG := (soundF sound12).gr
  refine rows_ext h (B := [[0], [1], [2]]) ⟨rfl, fun y hy => ?_⟩ fun y hy q hq => ?_
  · exact (by decide : ∀ y, y < 3 → ([[0], [1], [2]] : List (List Nat)).getD y [] = [0] ∨ ([[0], [1], [2]] : List (List Nat)).getD y [] = [1] ∨ ([[0], [1], [2]] : List (List Nat)).getD y [] = [2]) y hy |>.elim (fun e => by rw [e]; exact ⟨rfl, fun i => by cases i <;> simp⟩) (fun e => e.elim (fun e => by rw [e]; exact ⟨rfl, fun i => by cases i <;> simp⟩) (fun e => by rw [e]; exact ⟨rfl, fun i => by cases i <;> simp⟩))
  · have hy : y < 3 := hy
    rw [Bool.eq_iff_iff, hl y hy q]
    by_cases h2 : q < 2
    · exact (live12 hy h2).symm
    · have hq : q < 64 := hq
      constructor
      · intro hl'
        exact absurd (hl'.lt hG hy) h2
      · intro hh
        exact absurd ((by decide : ∀ y, y < 3 → ∀ q, q < 64 → hasW ([[0], [1], [2]].getD y []) q = true → q < 2) y hy q hq hh) h2
end Go.Proofs.YtnniohimbmnapaaDoor
