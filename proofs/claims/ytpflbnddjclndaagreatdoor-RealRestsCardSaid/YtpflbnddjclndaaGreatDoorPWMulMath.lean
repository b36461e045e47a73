/- Layer 2: the plain mathematics of products of rows of limbs. Layer 2: the plain mathematics of the reference's products: sums of products of digits place by place, then carries. -/
import Derived.Test.YtpflbnddjclndaaGreatDoorPGWa
namespace Go.Proofs.YtpflbnddjclndaaGreatDoor
section
open Go.ChangeShapes Go.WideShapes Go.ChangeAt Go.RowKit
set_option linter.unusedVariables false
set_option linter.unusedSimpArgs false
theorem val_set (b : Int) : ∀ (ws : List Int) (k : Nat) (x : Int), k < ws.length → val b (ws.set k x) = val b ws + b ^ k * (x - ws.getD k 0)
  | [], k, x, h => by simp at h
  | d :: r, 0, x, h => by simp [val]; omega
  | d :: r, k + 1, x, h => by
    have ih := val_set b r k x (by simpa using h)
    simp only [List.set_cons_succ, val, ih, List.getD_cons_succ, Int.pow_succ]
    rw [Int.mul_add, Int.mul_comm (b ^ k) b, Int.mul_assoc]
    omega
/-- One limb times one limb, with two more. -/
theorem mul_bound {p q r s b : Int} (hp : 0 ≤ p ∧ p < b) (hq : 0 ≤ q ∧ q < b) (hr : 0 ≤ r ∧ r < b) (hs : 0 ≤ s ∧ s < b) : 0 ≤ p * q + r + s ∧ p * q + r + s < b * b := by
  have h1 : p * q ≤ (b - 1) * q := Int.mul_le_mul_of_nonneg_right (by omega) hq.1
  have h2 : (b - 1) * q ≤ (b - 1) * (b - 1) := Int.mul_le_mul_of_nonneg_left (by omega) (by omega)
  have h3 : (b - 1) * (b - 1) = b * b - 2 * b + 1 := by rw [Int.mul_sub, Int.sub_mul]; omega
  have h4 := Int.mul_nonneg hp.1 hq.1
  omega
/-- A product's row: so many of the first row's limbs are worked in, and of the limb at hand so many of the second row's. -/
structure MulIn (xs ys os : List Int) (i j : Nat) (c : Int) : Prop where
  len : os.length = xs.length + ys.length
  dig : Dig B18 os
  zero : ∀ k, i + ys.length ≤ k → os.getD k 0 = 0
  sum : val B18 os + B18 ^ (i + j) * c = val B18 (xs.take i) * val B18 ys + B18 ^ i * xs.getD i 0 * val B18 (ys.take j)
  lo : 0 ≤ c
  hi : c < B18
structure MulOut (xs ys os : List Int) (i : Nat) : Prop where
  len : os.length = xs.length + ys.length
  dig : Dig B18 os
  zero : ∀ k, i + ys.length ≤ k → os.getD k 0 = 0
  sum : val B18 os = val B18 (xs.take i) * val B18 ys
theorem MulOut.start (xs ys : List Int) : MulOut xs ys (List.replicate (xs.length + ys.length) 0) 0 := by
  have hz : ∀ k, (List.replicate (xs.length + ys.length) (0 : Int)).getD k 0 = 0 := fun k => by
    rw [List.getD_eq_getElem?_getD, List.getElem?_replicate]; split <;> rfl
  exact ⟨by simp, fun i => by rw [hz i]; exact ⟨Int.le_refl _, by decide⟩, fun k _ => hz k, by rw [val_zero _ hz]; simp [val]⟩
theorem MulOut.enter {xs ys os : List Int} {i : Nat} (h : MulOut xs ys os i) : MulIn xs ys os i 0 0 :=
  ⟨h.len, h.dig, h.zero, by rw [h.sum]; simp [val], Int.le_refl _, by decide⟩
theorem MulIn.step {xs ys os : List Int} {i j : Nat} {c l c' : Int} (h : MulIn xs ys os i j c) (hi : i < xs.length) (hj : j < ys.length)
    (e : xs.getD i 0 * ys.getD j 0 + os.getD (i + j) 0 + c = c' * B18 + l) (hl : 0 ≤ l ∧ l < B18) (hc : 0 ≤ c' ∧ c' < B18) : MulIn xs ys (os.set (i + j) l) i (j + 1) c' := by
  have hlen := h.len
  refine ⟨by rw [List.length_set]; exact hlen, h.dig.set _ _ hl, fun k hk => ?_, ?_, hc.1, hc.2⟩
  · rw [getD_set' _ _ _ _ (by omega), if_neg (by omega)]; exact h.zero k hk
  · have hs := h.sum
    rw [val_set _ _ _ _ (by omega), val_take' B18 ys j, ← Nat.add_assoc, Int.pow_succ]
    have e1 : B18 ^ (i + j) * B18 * c' = B18 ^ (i + j) * (c' * B18) := by rw [Int.mul_assoc, Int.mul_comm B18 c']
    have e2 : B18 ^ i * xs.getD i 0 * (val B18 (ys.take j) + B18 ^ j * ys.getD j 0) = B18 ^ i * xs.getD i 0 * val B18 (ys.take j) + B18 ^ (i + j) * (xs.getD i 0 * ys.getD j 0) := by
      rw [Int.mul_add, Int.pow_add]
      congr 1
      rw [Int.mul_assoc, Int.mul_assoc, Int.mul_left_comm (xs.getD i 0)]
    rw [e1, e2]
    have e3 : B18 ^ (i + j) * (l - os.getD (i + j) 0) + B18 ^ (i + j) * (c' * B18) = B18 ^ (i + j) * c + B18 ^ (i + j) * (xs.getD i 0 * ys.getD j 0) := by
      rw [← Int.mul_add, ← Int.mul_add]
      congr 1
      omega
    omega
theorem MulIn.leave {xs ys os : List Int} {i : Nat} {c : Int} (h : MulIn xs ys os i ys.length c) (hi : i < xs.length) : MulOut xs ys (os.set (i + ys.length) c) (i + 1) := by
  have hlen := h.len
  refine ⟨by rw [List.length_set]; exact hlen, h.dig.set _ _ ⟨h.lo, h.hi⟩, fun k hk => ?_, ?_⟩
  · rw [getD_set' _ _ _ _ (by omega), if_neg (by omega)]; exact h.zero k (by omega)
  · have hs := h.sum
    rw [List.take_length] at hs
    rw [val_set _ _ _ _ (by omega), h.zero _ (Nat.le_refl _), val_take' B18 xs i, Int.sub_zero, Int.add_mul]
    omega
theorem MulOut.done {xs ys os : List Int} (h : MulOut xs ys os xs.length) : val B18 os = val B18 xs * val B18 ys := by
  have := h.sum
  rwa [List.take_length] at this
end
section
open Go.ChangeShapes Go.WideShapes Go.ChangeAt Go.RowKit
set_option linter.unusedVariables false
set_option linter.unusedSimpArgs false
theorem val_zeros (b : Int) (n : Nat) : val b (List.replicate n 0) = 0 := val_zero b (fun k => by
  rw [List.getD_eq_getElem?_getD, List.getElem?_replicate]; split <;> rfl)
theorem getD_zeros (n k : Nat) : (List.replicate n (0 : Int)).getD k 0 = 0 := by
  rw [List.getD_eq_getElem?_getD, List.getElem?_replicate]; split <;> rfl
structure TmIn (xs ys S : List Int) (i k : Nat) : Prop where
  len : S.length = xs.length + ys.length + 1
  lo : ∀ j, 0 ≤ S.getD j 0
  hi : ∀ j, S.getD j 0 ≤ 81 * (i : Int) + 81
  new : ∀ j, i + k ≤ j → S.getD j 0 ≤ 81 * (i : Int)
  sum : val 10 S = val 10 (xs.take i) * val 10 ys + 10 ^ i * xs.getD i 0 * val 10 (ys.take k)
structure TmOut (xs ys S : List Int) (i : Nat) : Prop where
  len : S.length = xs.length + ys.length + 1
  lo : ∀ j, 0 ≤ S.getD j 0
  hi : ∀ j, S.getD j 0 ≤ 81 * (i : Int)
  sum : val 10 S = val 10 (xs.take i) * val 10 ys
theorem TmOut.start (xs ys : List Int) : TmOut xs ys (List.replicate (xs.length + ys.length + 1) 0) 0 :=
  ⟨by simp, fun j => by rw [getD_zeros]; omega, fun j => by rw [getD_zeros]; omega, by rw [val_zeros]; simp [val]⟩
theorem TmOut.enter {xs ys S : List Int} {i : Nat} (h : TmOut xs ys S i) : TmIn xs ys S i 0 :=
  ⟨h.len, h.lo, fun j => by have := h.hi j; omega, fun j _ => h.hi j, by rw [h.sum]; simp [val]⟩
theorem digit_mul {x y : Int} (hx : 0 ≤ x ∧ x < 10) (hy : 0 ≤ y ∧ y < 10) : 0 ≤ x * y ∧ x * y ≤ 81 := by
  have h1 : x * y ≤ 9 * y := Int.mul_le_mul_of_nonneg_right (by omega) hy.1
  exact ⟨Int.mul_nonneg hx.1 hy.1, by omega⟩
theorem TmIn.step {xs ys S : List Int} {i k : Nat} (h : TmIn xs ys S i k) (hx : Dig 10 xs) (hy : Dig 10 ys) (hi : i < xs.length) (hk : k < ys.length) : TmIn xs ys (S.set (i + k) (S.getD (i + k) 0 + xs.getD i 0 * ys.getD k 0)) i (k + 1) := by
  have hlen := h.len
  have hd := digit_mul (hx i) (hy k)
  have h0 := h.lo (i + k)
  have h1 := h.new (i + k) (Nat.le_refl _)
  refine ⟨by rw [List.length_set]; exact hlen, fun j => ?_, fun j => ?_, fun j hj => ?_, ?_⟩
  · rw [getD_set' _ _ _ _ (by omega)]; split
    · omega
    · exact h.lo j
  · rw [getD_set' _ _ _ _ (by omega)]; split
    · omega
    · exact h.hi j
  · rw [getD_set' _ _ _ _ (by omega), if_neg (by omega)]; exact h.new j (by omega)
  · rw [val_set _ _ _ _ (by omega), h.sum, val_take' 10 ys k]
    have e2 : (10 : Int) ^ i * xs.getD i 0 * (val 10 (ys.take k) + 10 ^ k * ys.getD k 0) = 10 ^ i * xs.getD i 0 * val 10 (ys.take k) + 10 ^ (i + k) * (xs.getD i 0 * ys.getD k 0) := by
      rw [Int.mul_add, Int.pow_add]
      congr 1
      rw [Int.mul_assoc, Int.mul_assoc, Int.mul_left_comm (xs.getD i 0)]
    rw [e2, show S.getD (i + k) 0 + xs.getD i 0 * ys.getD k 0 - S.getD (i + k) 0 = xs.getD i 0 * ys.getD k 0 by omega]
    omega
theorem TmIn.leave {xs ys S : List Int} {i : Nat} (h : TmIn xs ys S i ys.length) : TmOut xs ys S (i + 1) := by
  refine ⟨h.len, h.lo, fun j => by have := h.hi j; omega, ?_⟩
  have hs := h.sum
  rw [List.take_length] at hs
  rw [hs, val_take' 10 xs i, Int.add_mul]
theorem TmOut.done {xs ys S : List Int} (h : TmOut xs ys S xs.length) : val 10 S = val 10 xs * val 10 ys := by
  have := h.sum
  rwa [List.take_length] at this
/-- The carries: so many places are worked off. -/
structure TcSt (S os : List Int) (i : Nat) (c : Int) : Prop where
  len : os.length = i
  dig : Dig 10 os
  sum : val 10 os + 10 ^ i * c = val 10 (S.take i)
  lo : 0 ≤ c
  hi : c ≤ 9000
theorem TcSt.start (S : List Int) : TcSt S [] 0 0 := ⟨rfl, Dig.nil (by decide), by simp [val], by omega, by omega⟩
theorem TcSt.step {S os : List Int} {i : Nat} {c : Int} (h : TcSt S os i c) (h0 : 0 ≤ S.getD i 0) (h1 : S.getD i 0 ≤ 81000) : TcSt S (os ++ [(c + S.getD i 0) % 10]) (i + 1) ((c + S.getD i 0) / 10) := by
  have hl := h.len
  have hlo := h.lo
  have hhi := h.hi
  refine ⟨by rw [List.length_append, List.length_singleton, hl], h.dig.append (Dig.cons ⟨by omega, by omega⟩ (Dig.nil (by decide))), ?_, by omega, by omega⟩
  rw [val_snoc, hl, val_take' 10 S i, ← h.sum, Int.pow_succ, Int.mul_assoc]
  generalize S.getD i 0 = s at *
  have e : (10 : Int) ^ i * ((c + s) % 10) + 10 ^ i * (10 * ((c + s) / 10)) = 10 ^ i * c + 10 ^ i * s := by
    rw [← Int.mul_add, ← Int.mul_add]; congr 1; omega
  omega
theorem TcSt.done {S os : List Int} {c : Int} (h : TcSt S os S.length c) {A : Int} (hA : val 10 S = A) (hlt : A < 10 ^ S.length) : val 10 os = A := by
  have hs := h.sum
  rw [List.take_length, hA] at hs
  have hv := val_nonneg (b := 10) (by decide) h.dig
  have hp := pow_pos' (b := 10) (by decide) S.length
  have hc := h.lo
  by_cases h0 : c = 0
  · rw [h0] at hs; omega
  · have h3 : (10 : Int) ^ S.length * 1 ≤ 10 ^ S.length * c := Int.mul_le_mul_of_nonneg_left (by omega) (Int.le_of_lt hp)
    omega
theorem prod_lt {xs ys : List Int} (hx : Dig 10 xs) (hy : Dig 10 ys) : val 10 xs * val 10 ys < 10 ^ (xs.length + ys.length + 1) := by
  have h1 := val_lt (b := 10) (by decide) hx
  have h2 := val_lt (b := 10) (by decide) hy
  have h3 := val_nonneg (b := 10) (by decide) hx
  have h4 := val_nonneg (b := 10) (by decide) hy
  have p1 := pow_pos' (b := 10) (by decide) xs.length
  have p2 := pow_pos' (b := 10) (by decide) ys.length
  rw [Int.pow_succ, Int.pow_add]
  have a1 : val 10 xs * val 10 ys ≤ 10 ^ xs.length * val 10 ys := Int.mul_le_mul_of_nonneg_right (Int.le_of_lt h1) h4
  have a2 : (10 : Int) ^ xs.length * val 10 ys ≤ 10 ^ xs.length * 10 ^ ys.length := Int.mul_le_mul_of_nonneg_left (Int.le_of_lt h2) (Int.le_of_lt p1)
  have a3 : 0 < (10 : Int) ^ xs.length * 10 ^ ys.length := Int.mul_pos p1 p2
  generalize (10 : Int) ^ xs.length * 10 ^ ys.length = P at *
  omega
end
end Go.Proofs.YtpflbnddjclndaaGreatDoor
