/- Layer 2, the document's answer: screeref02.sizes and cut, over rows of decimal digits. Layer 2, the document's answer: screeref02.plus, digit by digit. Layer 2, the document's answer: screeref02.minus, digit by digit. -/
import Derived.Test.YtpflbnddjclndaaGreatDoorPGWa
import Derived.Test.YtpflbnddjclndaaGreatDoorPOwn
namespace Go.Proofs.YtpflbnddjclndaaGreatDoor
section
open Go.ChangeShapes Go.WideShapes Go.ChangeAt Go.RowKit
set_option linter.unusedVariables false
set_option linter.unusedSimpArgs false
def CutPost (W : World) (p : Option Addr) (c : Nat) (ds : List Int) (e : Ending) (w' : World) : Prop := ∃ k, CutAt ds k ∧ e = .returned (.slice p k c) ∧ W = w'
end
section
open Go.ChangeShapes Go.WideShapes Go.ChangeAt Go.RowKit
set_option linter.unusedVariables false
set_option linter.unusedSimpArgs false
theorem infoU8 : (Tryz.prog.info? 5).map (fun i => (i.zero, i.size, i.bytes)) = some (some (.int .u8 0), 1, 1) := by kernel_rfl
abbrev U8 : TypeId := 5
abbrev OB (w : World) (B : Nat) (v : Value) (ds : List Int) : Prop := OW .u8 U8 w B v ds
structure PlusState (xs ys os : List Int) (k : Nat) (c : Int) : Prop where
  len : os.length = k
  dig : Dig 10 os
  sum : val 10 os + 10 ^ k * c = val 10 (xs.take k) + val 10 (ys.take k)
theorem PlusState.start (xs ys : List Int) : PlusState xs ys [] 0 0 := ⟨rfl, Dig.nil (by decide), by simp [val]⟩
theorem PlusState.step {xs ys os : List Int} {k : Nat} {c c' d : Int} (h : PlusState xs ys os k c) (e : d + 10 * c' = c + xs.getD k 0 + ys.getD k 0) (hd : 0 ≤ d ∧ d < 10) : PlusState xs ys (os ++ [d]) (k + 1) c' := by
  refine ⟨by simp [h.len], h.dig.append (Dig.cons hd (Dig.nil (by decide))), ?_⟩
  rw [val_snoc, val_take', val_take', h.len, Int.pow_succ]
  have h1 := h.sum
  have : (10 : Int) ^ k * (d + 10 * c') = 10 ^ k * (c + xs.getD k 0 + ys.getD k 0) := by rw [e]
  grind
theorem PlusState.finish {xs ys os : List Int} {k : Nat} {c : Int} (h : PlusState xs ys os k c) (hx : xs.length ≤ k) (hy : ys.length ≤ k) (hc : 0 ≤ c ∧ c ≤ 1) : Dig 10 (os ++ [c]) ∧ val 10 (os ++ [c]) = val 10 xs + val 10 ys := by
  refine ⟨h.dig.append (Dig.cons (by omega) (Dig.nil (by decide))), ?_⟩
  rw [val_snoc, h.len, h.sum, val_full 10 hx, val_full 10 hy]
/-- A row of digits that the call made. -/
def DigPost (W : World) (z : Int) (e : Ending) (w' : World) : Prop :=
  ∃ u ds, e = .returned u ∧ Mine .u8 U8 w' W.heap.size u ds ∧ ds.length ≤ 140737488355328 ∧ Canon 10 ds ∧ val 10 ds = z ∧ Below W.heap.size W w'
end
section
open Go.ChangeShapes Go.WideShapes Go.ChangeAt Go.RowKit
set_option linter.unusedVariables false
set_option linter.unusedSimpArgs false
structure MinusState (xs ys os : List Int) (k : Nat) (c : Int) : Prop where
  len : os.length = k
  dig : Dig 10 os
  diff : val 10 os - 10 ^ k * c = val 10 (xs.take k) - val 10 (ys.take k)
theorem MinusState.start (xs ys : List Int) : MinusState xs ys [] 0 0 := ⟨rfl, Dig.nil (by decide), by simp [val]⟩
theorem MinusState.step {xs ys os : List Int} {k : Nat} {c c' d : Int} (h : MinusState xs ys os k c) (e : d - 10 * c' = xs.getD k 0 - ys.getD k 0 - c) (hd : 0 ≤ d ∧ d < 10) : MinusState xs ys (os ++ [d]) (k + 1) c' := by
  refine ⟨by simp [h.len], h.dig.append (Dig.cons hd (Dig.nil (by decide))), ?_⟩
  rw [val_snoc, val_take', val_take', h.len, Int.pow_succ]
  have h1 := h.diff
  have : (10 : Int) ^ k * (d - 10 * c') = 10 ^ k * (xs.getD k 0 - ys.getD k 0 - c) := by rw [e]
  grind
theorem MinusState.finish {xs ys os : List Int} {k : Nat} {c : Int} (h : MinusState xs ys os k c) (hx : xs.length ≤ k) (hy : ys.length ≤ k) (hge : val 10 ys ≤ val 10 xs) (hc : 0 ≤ c ∧ c ≤ 1) : val 10 os = val 10 xs - val 10 ys := by
  have h1 := h.diff
  rw [val_full 10 hx, val_full 10 hy] at h1
  have h2 := val_lt (by decide : (0 : Int) < 10) h.dig
  rw [h.len] at h2
  by_cases e : c = 0
  · subst e; simpa using h1
  · obtain rfl : c = 1 := by omega
    omega
end
end Go.Proofs.YtpflbnddjclndaaGreatDoor
