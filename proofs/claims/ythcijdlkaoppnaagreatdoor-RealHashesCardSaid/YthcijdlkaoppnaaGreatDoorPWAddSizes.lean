/- Layer 2: whole.addSizes: the sum of two rows of limbs, place by place. -/
import Derived.Test.YthcijdlkaoppnaaGreatDoorPWCopied
import Derived.Test.YthcijdlkaoppnaaGreatDoorPWCmpSizes
namespace Go.Proofs.YthcijdlkaoppnaaGreatDoor
open Go.ChangeShapes Go.WideShapes Go.ChangeAt Go.RowKit
set_option linter.unusedVariables false
set_option linter.unusedSimpArgs false
theorem min_len (ws : List Int) (m : Nat) : (ws.map (Value.int .u64)).length = Nat.min ws.length (ws.length + m) := by
  rw [List.length_map]; exact (Nat.min_eq_left (by omega)).symm
theorem fit_len (ws : List Int) (m : Nat) : 0 + (ws.map (Value.int .u64)).length ≤ ((List.replicate (ws.length + m) (0 : Int)).map (Value.int .u64)).length := by
  simp
structure AddState (xs ys os : List Int) (k : Nat) (c : Int) : Prop where
  len : os.length = xs.length + 1
  dig : Dig B18 os
  same : ∀ j, k ≤ j → j < xs.length → os.getD j 0 = xs.getD j 0
  sum : SumAt B18 xs ys os k c
theorem getD_append_left {xs ys : List Int} {j : Nat} (h : j < xs.length) : (xs ++ ys).getD j 0 = xs.getD j 0 := by
  simp only [List.getD_eq_getElem?_getD, List.getElem?_append_left h]
theorem AddState.start {xs : List Int} (hx : Dig B18 xs) (ys : List Int) : AddState xs ys (xs ++ List.replicate 1 0) 0 0 :=
  ⟨by simp, hx.append (Dig.cons (by decide) (Dig.nil (by decide))), fun j _ hj => getD_append_left hj, SumAt.zero _ _ _ _⟩
theorem AddState.step {xs ys os : List Int} {k : Nat} {c c' d : Int} (h : AddState xs ys os k c) (hk : k < xs.length) (e : d + B18 * c' = c + xs.getD k 0 + ys.getD k 0) (hd : 0 ≤ d ∧ d < B18) : AddState xs ys (os.set k d) (k + 1) c' :=
  ⟨by rw [List.length_set]; exact h.len, h.dig.set k d hd, fun j hj hl => by rw [getD_set' _ _ _ _ (by have := h.len; omega), if_neg (by omega)]; exact h.same j (by omega) hl, h.sum.step (by have := h.len; omega) e⟩
theorem AddState.finish {xs ys os : List Int} {c : Int} (h : AddState xs ys os xs.length c) (hy : ys.length ≤ xs.length) (hc : 0 ≤ c ∧ c ≤ 1) : Dig B18 (os.set xs.length c) ∧ val B18 (os.set xs.length c) = val B18 xs + val B18 ys :=
  ⟨h.dig.set _ _ ⟨hc.1, by rw [B18]; omega⟩, h.sum.done h.len (Nat.le_refl _) hy⟩
def AddPost (W : World) (xs ys : List Int) (e : Ending) (w' : World) : Prop :=
  ∃ g os, e = .returned (.slice (some ⟨g, 0, none⟩) os.length os.length) ∧ W.heap.size ≤ g ∧ LU w' g os ∧ os.length = max xs.length ys.length + 1 ∧ Dig B18 os ∧ val B18 os = val B18 xs + val B18 ys ∧ Below W.heap.size W w'
end Go.Proofs.YthcijdlkaoppnaaGreatDoor
