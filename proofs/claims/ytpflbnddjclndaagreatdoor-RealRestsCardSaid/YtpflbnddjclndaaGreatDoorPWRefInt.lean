/- Layer 2: the reference's Int and Small: digits of an int, the int of digits. Layer 2: the reference's Small: the int of digits. -/
import Derived.Test.YtpflbnddjclndaaGreatDoorPGWf
import Derived.Test.YtpflbnddjclndaaGreatDoorPGWd
import Derived.Deep.CutBlock
namespace Go.Proofs.YtpflbnddjclndaaGreatDoor
section
open Go.ChangeShapes Go.WideShapes Go.ChangeAt Go.RowKit
set_option linter.unusedVariables false
set_option linter.unusedSimpArgs false
/-- An int's range. -/
structure I64 (z : Int) : Prop where
  lo : -9223372036854775808 ≤ z
  hi : z ≤ 9223372036854775807
theorem I64.small {n : Int} (h : I64 n) : Small n := by
  refine ⟨?_⟩
  have h1 := pow_mono' (b := 10) (by decide) (show 19 ≤ 540 by decide)
  rw [show (10 : Int) ^ 19 = 10000000000000000000 by decide] at h1
  have := h.lo; have := h.hi
  generalize (10 : Int) ^ 540 = P at h1 ⊢
  omega
structure IntState (a : Int) (ds : List Int) (u : Int) : Prop where
  dig : Dig 10 ds
  sum : val 10 ds + 10 ^ ds.length * u = a
  lo : 0 ≤ u
  last : u = 0 → 0 < ds.length → ds.getD (ds.length - 1) 0 ≠ 0
theorem IntState.start {a : Int} (h : 0 ≤ a) : IntState a [] a := ⟨Dig.nil (by decide), by simp [val], h, fun _ h => by simp at h⟩
theorem IntState.len {a u : Int} {ds : List Int} (h : IntState a ds u) (hu : 0 < u) (ha : a ≤ 18446744073709551615) : ds.length < 20 := by
  apply Classical.byContradiction
  intro hc
  have h1 := pow_mono' (b := 10) (by decide) (show 20 ≤ ds.length by omega)
  have h2 := val_nonneg (b := 10) (by decide) h.dig
  have h3 : (10 : Int) ^ ds.length * 1 ≤ 10 ^ ds.length * u := Int.mul_le_mul_of_nonneg_left (by omega) (Int.le_of_lt (pow_pos' (by decide) _))
  have h4 := h.sum
  rw [show (10 : Int) ^ 20 = 100000000000000000000 by decide] at h1
  omega
theorem getD_snoc_last (ds : List Int) (x : Int) : (ds ++ [x]).getD ((ds ++ [x]).length - 1) 0 = x := by
  simp [List.getD_eq_getElem?_getD]
theorem IntState.step {a u : Int} {ds : List Int} (h : IntState a ds u) (hu : 0 < u) : IntState a (ds ++ [u % 10]) (u / 10) := by
  refine ⟨h.dig.append (Dig.cons ⟨by omega, by omega⟩ (Dig.nil (by decide))), ?_, by omega, fun h0 _ => ?_⟩
  · rw [val_snoc, List.length_append, List.length_singleton, Int.pow_succ, ← h.sum]
    have e : (10 : Int) ^ ds.length * 10 * (u / 10) = 10 ^ ds.length * (10 * (u / 10)) := by rw [Int.mul_assoc]
    have e2 : (10 : Int) ^ ds.length * (u % 10) + 10 ^ ds.length * (10 * (u / 10)) = 10 ^ ds.length * u := by
      rw [← Int.mul_add]; congr 1; omega
    omega
  · rw [getD_snoc_last]; omega
theorem IntState.done {n a : Int} {ds : List Int} (h : IntState a ds 0) (ha : a = (n.natAbs : Int)) : Sgn 10 (decide (n < 0)) ds n := by
  have hs := h.sum
  rw [Int.mul_zero, Int.add_zero] at hs
  refine ⟨⟨h.dig, h.last rfl⟩, fun hn => ?_, ?_⟩
  · apply Classical.byContradiction
    intro hc
    obtain rfl := List.length_eq_zero_iff.1 (show ds.length = 0 by omega)
    simp [val] at hs
    simp at hn
    omega
  · unfold sg
    split <;> rename_i hh <;> simp at hh <;> omega
end
section
open Go.ChangeShapes Go.WideShapes Go.ChangeAt Go.RowKit
set_option linter.unusedVariables false
set_option linter.unusedSimpArgs false
def SmallPost (W : World) (z : Int) (e : Ending) (w' : World) : Prop :=
  ∃ m ok, e = .returned (.tuple #[.int .i64 m, .bool ok]) ∧ ((I64 z ∧ m = z ∧ ok = true) ∨ (¬ I64 z ∧ ok = false)) ∧ Below W.heap.size W w'
theorem SmallPost.yes {W w' : World} {z m : Int} (h : I64 z) (e : m = z) (hb : Below W.heap.size W w') : SmallPost W z (.returned (.tuple #[.int .i64 m, .bool true])) w' := ⟨m, true, rfl, .inl ⟨h, e, rfl⟩, hb⟩
theorem SmallPost.no {W w' : World} {z m : Int} (h : ¬ I64 z) (hb : Below W.heap.size W w') : SmallPost W z (.returned (.tuple #[.int .i64 m, .bool false])) w' := ⟨m, false, rfl, .inr ⟨h, rfl⟩, hb⟩
theorem drop_lt {ds : List Int} (hd : Dig 10 ds) (hl : ds.length ≤ 19) {j : Nat} (hj : j < ds.length) : 0 ≤ val 10 (ds.drop (j + 1)) ∧ val 10 (ds.drop (j + 1)) < 1000000000000000000 := by
  have hdd : Dig 10 (ds.drop (j + 1)) := fun i => by rw [getD_dropD]; exact hd _
  have h1 := val_lt (b := 10) (by decide) hdd
  have h2 := pow_mono' (b := 10) (by decide) (show (ds.drop (j + 1)).length ≤ 18 by rw [List.length_drop]; omega)
  rw [show (10 : Int) ^ 18 = 1000000000000000000 by decide] at h2
  exact ⟨val_nonneg (by decide) hdd, by omega⟩
theorem val_19 {ds : List Int} (hd : Dig 10 ds) (hl : ds.length ≤ 19) : 0 ≤ val 10 ds ∧ val 10 ds < 10000000000000000000 := by
  have h1 := val_lt (b := 10) (by decide) hd
  have h2 := pow_mono' (b := 10) (by decide) hl
  rw [show (10 : Int) ^ 19 = 10000000000000000000 by decide] at h2
  exact ⟨val_nonneg (by decide) hd, by omega⟩
end
end Go.Proofs.YtpflbnddjclndaaGreatDoor
