/- Layer 2: the plain mathematics of products of rows of limbs. -/
import Derived.Test.YtapeomcnjjfihaaDoorWAddSizes
namespace Go.Proofs.YtapeomcnjjfihaaDoor
open Go.ChangeShapes Go.WideShapes Go.ChangeAt Go.RowKit
set_option linter.unusedVariables false
set_option linter.unusedSimpArgs false
theorem val_set (b : Int) : ∀ (ws : List Int) (k : Nat) (x : Int), k < ws.length → val b (ws.set k x) = val b ws + b ^ k * (x - ws.getD k 0)
  | [], k, x, h => by simp at h
  | d :: r, 0, x, h => by simp [val]; omega
  | d :: r, k + 1, x, h => by
    have ih := val_set b r k x (by simpa using h)
    simp only [List.set_cons_succ, val, ih, List.getD_cons_succ, Int.pow_succ]
    rw [Int.mul_add, Int.mul_comm (b ^ k) b, Int.mul_assoc]
    omega
/-- One limb times one limb, with two more. -/
theorem mul_bound {p q r s b : Int} (hp : 0 ≤ p ∧ p < b) (hq : 0 ≤ q ∧ q < b) (hr : 0 ≤ r ∧ r < b) (hs : 0 ≤ s ∧ s < b) : 0 ≤ p * q + r + s ∧ p * q + r + s < b * b := by
  have h1 : p * q ≤ (b - 1) * q := Int.mul_le_mul_of_nonneg_right (by omega) hq.1
  have h2 : (b - 1) * q ≤ (b - 1) * (b - 1) := Int.mul_le_mul_of_nonneg_left (by omega) (by omega)
  have h3 : (b - 1) * (b - 1) = b * b - 2 * b + 1 := by rw [Int.mul_sub, Int.sub_mul]; omega
  have h4 := Int.mul_nonneg hp.1 hq.1
  omega
/-- A product's row: so many of the first row's limbs are worked in, and of the limb at hand so many of the second row's. -/
structure MulIn (xs ys os : List Int) (i j : Nat) (c : Int) : Prop where
  len : os.length = xs.length + ys.length
  dig : Dig B18 os
  zero : ∀ k, i + ys.length ≤ k → os.getD k 0 = 0
  sum : val B18 os + B18 ^ (i + j) * c = val B18 (xs.take i) * val B18 ys + B18 ^ i * xs.getD i 0 * val B18 (ys.take j)
  lo : 0 ≤ c
  hi : c < B18
structure MulOut (xs ys os : List Int) (i : Nat) : Prop where
  len : os.length = xs.length + ys.length
  dig : Dig B18 os
  zero : ∀ k, i + ys.length ≤ k → os.getD k 0 = 0
  sum : val B18 os = val B18 (xs.take i) * val B18 ys
theorem MulOut.start (xs ys : List Int) : MulOut xs ys (List.replicate (xs.length + ys.length) 0) 0 := by
  have hz : ∀ k, (List.replicate (xs.length + ys.length) (0 : Int)).getD k 0 = 0 := fun k => by
    rw [List.getD_eq_getElem?_getD, List.getElem?_replicate]; split <;> rfl
  exact ⟨by simp, fun i => by rw [hz i]; exact ⟨Int.le_refl _, by decide⟩, fun k _ => hz k, by rw [val_zero _ hz]; simp [val]⟩
theorem MulOut.enter {xs ys os : List Int} {i : Nat} (h : MulOut xs ys os i) : MulIn xs ys os i 0 0 :=
  ⟨h.len, h.dig, h.zero, by rw [h.sum]; simp [val], Int.le_refl _, by decide⟩
theorem MulIn.step {xs ys os : List Int} {i j : Nat} {c l c' : Int} (h : MulIn xs ys os i j c) (hi : i < xs.length) (hj : j < ys.length)
    (e : xs.getD i 0 * ys.getD j 0 + os.getD (i + j) 0 + c = c' * B18 + l) (hl : 0 ≤ l ∧ l < B18) (hc : 0 ≤ c' ∧ c' < B18) : MulIn xs ys (os.set (i + j) l) i (j + 1) c' := by
  have hlen := h.len
  refine ⟨by rw [List.length_set]; exact hlen, h.dig.set _ _ hl, fun k hk => ?_, ?_, hc.1, hc.2⟩
  · rw [getD_set' _ _ _ _ (by omega), if_neg (by omega)]; exact h.zero k hk
  · have hs := h.sum
    rw [val_set _ _ _ _ (by omega), val_take' B18 ys j, ← Nat.add_assoc, Int.pow_succ]
    have e1 : B18 ^ (i + j) * B18 * c' = B18 ^ (i + j) * (c' * B18) := by rw [Int.mul_assoc, Int.mul_comm B18 c']
    have e2 : B18 ^ i * xs.getD i 0 * (val B18 (ys.take j) + B18 ^ j * ys.getD j 0) = B18 ^ i * xs.getD i 0 * val B18 (ys.take j) + B18 ^ (i + j) * (xs.getD i 0 * ys.getD j 0) := by
      rw [Int.mul_add, Int.pow_add]
      congr 1
      rw [Int.mul_assoc, Int.mul_assoc, Int.mul_left_comm (xs.getD i 0)]
    rw [e1, e2]
    have e3 : B18 ^ (i + j) * (l - os.getD (i + j) 0) + B18 ^ (i + j) * (c' * B18) = B18 ^ (i + j) * c + B18 ^ (i + j) * (xs.getD i 0 * ys.getD j 0) := by
      rw [← Int.mul_add, ← Int.mul_add]
      congr 1
      omega
    omega
theorem MulIn.leave {xs ys os : List Int} {i : Nat} {c : Int} (h : MulIn xs ys os i ys.length c) (hi : i < xs.length) : MulOut xs ys (os.set (i + ys.length) c) (i + 1) := by
  have hlen := h.len
  refine ⟨by rw [List.length_set]; exact hlen, h.dig.set _ _ ⟨h.lo, h.hi⟩, fun k hk => ?_, ?_⟩
  · rw [getD_set' _ _ _ _ (by omega), if_neg (by omega)]; exact h.zero k (by omega)
  · have hs := h.sum
    rw [List.take_length] at hs
    rw [val_set _ _ _ _ (by omega), h.zero _ (Nat.le_refl _), val_take' B18 xs i, Int.sub_zero, Int.add_mul]
    omega
theorem MulOut.done {xs ys os : List Int} (h : MulOut xs ys os xs.length) : val B18 os = val B18 xs * val B18 ys := by
  have := h.sum
  rwa [List.take_length] at this
end Go.Proofs.YtapeomcnjjfihaaDoor
