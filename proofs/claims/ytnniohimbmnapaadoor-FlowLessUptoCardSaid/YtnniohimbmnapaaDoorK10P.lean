/- Layer 10: the chapter's example 2: which registers are live. -/
import Derived.Test.YtnniohimbmnapaaDoorLvGo
import Derived.Test.YtnniohimbmnapaaDoorLvPure2
namespace Go.Proofs.YtnniohimbmnapaaDoor
open Go
set_option linter.unusedVariables false
set_option linter.unusedSimpArgs false
def F10 : FuncD := ⟨0, 2, [⟨39, 1, 0, 0, 2, 0, []⟩, ⟨41, 0, 1, 0, 0, 0, []⟩, ⟨41, 0, 1, 0, 0, 0, []⟩], []⟩
theorem sound10 : soundB F10 = true := by decide
theorem reads10 : ∀ y, y < 3 → readsN F10 y = [[0], [1], [1]].getD y [] := by decide
theorem ways10 : ∀ y, y < 3 → waysN F10 y = [[(1, [1]), (2, [])], [], []].getD y [] := by decide
theorem live10 {y q : Nat} (hy : y < 3) (hq : q < 2) : hasW ([[3], [2], [2]].getD y []) q = true ↔ Lv (grOf F10) y q := by
  have r0 : Lv (grOf F10) 0 0 := .read (by show 0 ∈ readsN F10 0; rw [reads10 0 (by omega)]; simp)
  have r1 : Lv (grOf F10) 1 1 := .read (by show 1 ∈ readsN F10 1; rw [reads10 1 (by omega)]; simp)
  have r2 : Lv (grOf F10) 2 1 := .read (by show 1 ∈ readsN F10 2; rw [reads10 2 (by omega)]; simp)
  have r3 : Lv (grOf F10) 0 1 := .way (w := (2, [])) (by show _ ∈ waysN F10 0; rw [ways10 0 (by omega)]; simp) (by simp) r2
  constructor
  · intro h
    have hh : ∀ y, y < 3 → ∀ q, q < 2 → (hasW (([[3], [2], [2]] : List (List Nat)).getD y []) q = false ∨ ((y = 0 ∧ q = 0) ∨ (y = 0 ∧ q = 1) ∨ (y = 1 ∧ q = 1) ∨ (y = 2 ∧ q = 1))) := by decide
    have hh := (hh y hy q hq).resolve_left (by rw [h]; simp)
    rcases hh with ⟨rfl, rfl⟩ | ⟨rfl, rfl⟩ | ⟨rfl, rfl⟩ | ⟨rfl, rfl⟩ <;> assumption
  · intro h
    have hG := (soundF sound10).gr
    have main : ∀ y q, Lv (grOf F10) y q → y < 3 → hasW ([[3], [2], [2]].getD y []) q = true := by
      intro y q h
      induction h with
      | @read x r h =>
        intro hx
        have h : r ∈ readsN F10 x := h
        rw [reads10 x hx] at h
        exact (by decide : ∀ x, x < 3 → ∀ r ∈ ([[0], [1], [1]].getD x [] : List Nat), hasW ([[3], [2], [2]].getD x []) r = true) x hx r h
      | @way x r w hw hn hl ih =>
        intro hx
        have hw : w ∈ waysN F10 x := hw
        rw [ways10 x hx] at hw
        have hb := (by decide : ∀ x, x < 3 → ∀ w ∈ ([[(1, [1]), (2, [])], [], []].getD x [] : List (Nat × List Nat)), w.1 < 3 ∧ ∀ r, r < 2 → r ∉ w.2 → hasW ([[3], [2], [2]].getD w.1 []) r = true → hasW ([[3], [2], [2]].getD x []) r = true) x hx w hw
        exact hb.2 r (hl.lt hG hb.1) hn (ih hb.1)
    exact main y q h hy
theorem known_rows {L : List (List Nat)} (h : OkL (grOf F10) L) (hl : ∀ y, y < F10.ins.length → ∀ q, hasW (L.getD y []) q = true ↔ Lv (grOf F10) y q) : L = [[3], [2], [2]] := by
  have hG := (soundF sound10).gr
  refine rows_ext h (B := [[3], [2], [2]]) ⟨rfl, fun y hy => ?_⟩ fun y hy q hq => ?_
  · exact (by decide : ∀ y, y < 3 → ([[3], [2], [2]] : List (List Nat)).getD y [] = [3] ∨ ([[3], [2], [2]] : List (List Nat)).getD y [] = [2]) y hy |>.elim (fun e => by rw [e]; exact ⟨rfl, fun i => by cases i <;> simp⟩) (fun e => by rw [e]; exact ⟨rfl, fun i => by cases i <;> simp⟩)
  · have hy : y < 3 := hy
    rw [Bool.eq_iff_iff, hl y hy q]
    by_cases h2 : q < 2
    · exact (live10 hy h2).symm
    · have hq : q < 64 := hq
      constructor
      · intro hl'
        exact absurd (hl'.lt hG hy) h2
      · intro hh
        exact absurd ((by decide : ∀ y, y < 3 → ∀ q, q < 64 → hasW ([[3], [2], [2]].getD y []) q = true → q < 2) y hy q hq hh) h2
end Go.Proofs.YtnniohimbmnapaaDoor
