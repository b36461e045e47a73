/- Layer 2: whole.subSizes: the difference of two rows of limbs, place by place. -/
import Derived.Test.YthcijdlkaoppnaaGreatDoorPWAddSizes
namespace Go.Proofs.YthcijdlkaoppnaaGreatDoor
open Go.ChangeShapes Go.WideShapes Go.ChangeAt Go.RowKit
set_option linter.unusedVariables false
set_option linter.unusedSimpArgs false
structure SubState (xs ys os : List Int) (k : Nat) (c : Int) : Prop where
  len : os.length = xs.length
  dig : Dig B18 os
  same : ∀ j, k ≤ j → j < xs.length → os.getD j 0 = xs.getD j 0
  diff : DiffAt B18 xs ys os k c
theorem SubState.start {xs : List Int} (hx : Dig B18 xs) (ys : List Int) : SubState xs ys xs 0 0 :=
  ⟨rfl, hx, fun j _ hj => rfl, DiffAt.zero _ _ _ _⟩
theorem SubState.step {xs ys os : List Int} {k : Nat} {c c' d : Int} (h : SubState xs ys os k c) (hk : k < xs.length) (e : d - B18 * c' = xs.getD k 0 - ys.getD k 0 - c) (hd : 0 ≤ d ∧ d < B18) : SubState xs ys (os.set k d) (k + 1) c' :=
  ⟨by rw [List.length_set]; exact h.len, h.dig.set k d hd, fun j hj hl => by rw [getD_set' _ _ _ _ (by have := h.len; omega), if_neg (by omega)]; exact h.same j (by omega) hl, h.diff.step (by have := h.len; omega) e⟩
theorem SubState.finish {xs ys os : List Int} {c : Int} (h : SubState xs ys os xs.length c) (hy : ys.length ≤ xs.length) (hge : val B18 ys ≤ val B18 xs) (hc : 0 ≤ c ∧ c ≤ 1) : val B18 os = val B18 xs - val B18 ys :=
  h.diff.done (by decide) h.len (Nat.le_refl _) hy h.dig hc hge
def SubPost (W : World) (xs ys : List Int) (e : Ending) (w' : World) : Prop :=
  ∃ g os, e = .returned (.slice (some ⟨g, 0, none⟩) os.length os.length) ∧ W.heap.size ≤ g ∧ LU w' g os ∧ os.length = xs.length ∧ Dig B18 os ∧ val B18 os = val B18 xs - val B18 ys ∧ Below W.heap.size W w'
end Go.Proofs.YthcijdlkaoppnaaGreatDoor
