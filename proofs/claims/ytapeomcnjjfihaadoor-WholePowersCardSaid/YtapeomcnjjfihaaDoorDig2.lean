/- Rows of digits: comparing from the top, sums and differences digit by digit. Plain lists of integers. -/
import Derived.Test.YtapeomcnjjfihaaDoorDig
namespace Go.Proofs.YtapeomcnjjfihaaDoor
set_option linter.unusedVariables false
set_option linter.unusedSimpArgs false
theorem getD_len {ws : List Int} {k : Nat} (h : ws.length ≤ k) : ws.getD k 0 = 0 := by simp [List.getD_eq_getElem?_getD, List.getElem?_eq_none h]
theorem val_take' (b : Int) (ws : List Int) (k : Nat) : val b (ws.take (k + 1)) = val b (ws.take k) + b ^ k * ws.getD k 0 := by
  by_cases h : k < ws.length
  · exact val_take b h
  · rw [getD_len (by omega), List.take_of_length_le (by omega), List.take_of_length_le (by omega)]; simp
theorem val_split (b : Int) (ws : List Int) (d : Nat) (h : d ≤ ws.length) : val b ws = val b (ws.take d) + b ^ d * val b (ws.drop d) := by
  have e := val_append b (ws.take d) (ws.drop d)
  rw [List.take_append_drop, List.length_take, Nat.min_eq_left h] at e
  exact e
theorem val_full (b : Int) {ws : List Int} {k : Nat} (h : ws.length ≤ k) : val b (ws.take k) = val b ws := by rw [List.take_of_length_le h]
theorem drop_ext {xs ys : List Int} {d : Nat} (hl : xs.length = ys.length) (h : ∀ j, d ≤ j → xs.getD j 0 = ys.getD j 0) : xs.drop d = ys.drop d := by
  apply List.ext_getElem?
  intro i
  rw [List.getElem?_drop, List.getElem?_drop]
  have := h (d + i) (by omega)
  by_cases hi : d + i < xs.length
  · simp only [List.getD_eq_getElem?_getD, List.getElem?_eq_getElem hi, List.getElem?_eq_getElem (hl ▸ hi), Option.getD_some] at this ⊢
    rw [this]
  · rw [List.getElem?_eq_none (by omega), List.getElem?_eq_none (by omega)]
theorem list_ext_all {xs ys : List Int} (hl : xs.length = ys.length) (h : ∀ i, xs.getD i 0 = ys.getD i 0) : xs = ys := by
  have := drop_ext (d := 0) hl (fun j _ => h j)
  simpa using this
theorem cmp_lt {b : Int} (hb : 1 < b) {xs ys : List Int} (hx : Dig b xs) (hy : Dig b ys) (hl : xs.length = ys.length) (d : Nat) (hd : d < xs.length)
    (heq : ∀ j, d < j → xs.getD j 0 = ys.getD j 0) (h : xs.getD d 0 < ys.getD d 0) : val b xs < val b ys := by
  rw [val_split b xs (d + 1) (by omega), val_split b ys (d + 1) (by omega), drop_ext (d := d + 1) hl (fun j hj => heq j (by omega)), val_take', val_take']
  have h1 := val_lt (by omega : 0 < b) (hx.take (by omega) d)
  rw [List.length_take, Nat.min_eq_left (by omega)] at h1
  have h2 := val_nonneg (by omega : 0 < b) (hy.take (by omega) d)
  have h3 := pow_pos' (by omega : 0 < b) d
  have h4 : b ^ d * (xs.getD d 0 + 1) ≤ b ^ d * ys.getD d 0 := Int.mul_le_mul_of_nonneg_left (by omega) (by omega)
  rw [Int.mul_add, Int.mul_one] at h4
  omega
def cmpI (a b : Int) : Int := if a < b then -1 else if b < a then 1 else 0
theorem cmpI_lo (a b : Int) : -1 ≤ cmpI a b ∧ cmpI a b ≤ 1 := by unfold cmpI; split <;> (try split) <;> omega
theorem cmpI_lt {a b : Int} (h : a < b) : cmpI a b = -1 := if_pos h
theorem cmpI_gt {a b : Int} (h : b < a) : cmpI a b = 1 := by unfold cmpI; rw [if_neg (by omega), if_pos h]
theorem cmpI_eq {a b : Int} (h : a = b) : cmpI a b = 0 := by unfold cmpI; rw [if_neg (by omega), if_neg (by omega)]
theorem len_lt {b : Int} (hb : 1 < b) {xs ys : List Int} (hx : Canon b xs) (hy : Canon b ys) (h : xs.length < ys.length) : val b xs < val b ys := by
  have h1 := canon_lo hb hy (by omega)
  have h2 := val_lt (by omega : 0 < b) hx.1
  have h3 := pow_mono' (by omega : 1 ≤ b) (show xs.length ≤ ys.length - 1 by omega)
  omega
/-- One place of a sum: what stands so far, the carry. -/
def SumAt (b : Int) (xs ys os : List Int) (k : Nat) (c : Int) : Prop := val b (os.take k) + b ^ k * c = val b (xs.take k) + val b (ys.take k)
theorem getD_set' (ws : List Int) (q : Nat) (x : Int) (i : Nat) (hq : q < ws.length) : (ws.set q x).getD i 0 = if i = q then x else ws.getD i 0 := by
  simp only [List.getD_eq_getElem?_getD, List.getElem?_set]
  by_cases h : q = i
  · subst h; simp [hq]
  · rw [if_neg h, if_neg (fun e => h e.symm)]
theorem take_set (ws : List Int) (k : Nat) (x : Int) : (ws.set k x).take k = ws.take k := by
  apply List.ext_getElem?
  intro i
  rw [List.getElem?_take, List.getElem?_take]
  split
  · rw [List.getElem?_set_ne (by omega)]
  · rfl
theorem SumAt.step {b : Int} {xs ys os : List Int} {k : Nat} {c c' d : Int} (h : SumAt b xs ys os k c) (hk : k < os.length) (e : d + b * c' = c + xs.getD k 0 + ys.getD k 0) : SumAt b xs ys (os.set k d) (k + 1) c' := by
  unfold SumAt at *
  rw [val_take', val_take', val_take', take_set, getD_set' _ _ _ _ hk, if_pos rfl, Int.pow_succ]
  have : b ^ k * (d + b * c') = b ^ k * (c + xs.getD k 0 + ys.getD k 0) := by rw [e]
  grind
theorem Dig.set {b : Int} {ws : List Int} (h : Dig b ws) (k : Nat) (x : Int) (hx : 0 ≤ x ∧ x < b) : Dig b (ws.set k x) := by
  intro i
  by_cases hk : k < ws.length
  · rw [getD_set' _ _ _ _ hk]; split
    · exact hx
    · exact h i
  · rw [List.set_eq_of_length_le (by omega)]; exact h i
/-- One place of a difference. -/
def DiffAt (b : Int) (xs ys os : List Int) (k : Nat) (c : Int) : Prop := val b (os.take k) - b ^ k * c = val b (xs.take k) - val b (ys.take k)
theorem DiffAt.step {b : Int} {xs ys os : List Int} {k : Nat} {c c' d : Int} (h : DiffAt b xs ys os k c) (hk : k < os.length) (e : d - b * c' = xs.getD k 0 - ys.getD k 0 - c) : DiffAt b xs ys (os.set k d) (k + 1) c' := by
  unfold DiffAt at *
  rw [val_take', val_take', val_take', take_set, getD_set' _ _ _ _ hk, if_pos rfl, Int.pow_succ]
  have : b ^ k * (d - b * c') = b ^ k * (xs.getD k 0 - ys.getD k 0 - c) := by rw [e]
  grind
theorem SumAt.zero (b : Int) (xs ys os : List Int) : SumAt b xs ys os 0 0 := by simp [SumAt, val]
theorem DiffAt.zero (b : Int) (xs ys os : List Int) : DiffAt b xs ys os 0 0 := by simp [DiffAt, val]
theorem SumAt.done {b : Int} {xs ys os : List Int} {n : Nat} {c : Int} (h : SumAt b xs ys os n c) (hl : os.length = n + 1) (hx : xs.length ≤ n) (hy : ys.length ≤ n) : val b (os.set n c) = val b xs + val b ys := by
  unfold SumAt at h
  rw [val_full b hx, val_full b hy] at h
  rw [← h]
  have e : (os.set n c).take (n + 1) = os.set n c := List.take_of_length_le (by rw [List.length_set]; omega)
  rw [← e, val_take', take_set, getD_set' _ _ _ _ (by omega), if_pos rfl]
theorem DiffAt.done {b : Int} (hb : 1 < b) {xs ys os : List Int} {n : Nat} {c : Int} (h : DiffAt b xs ys os n c) (hl : os.length = n) (hx : xs.length ≤ n) (hy : ys.length ≤ n) (hd : Dig b os) (hc : 0 ≤ c ∧ c ≤ 1) (hge : val b ys ≤ val b xs) : val b os = val b xs - val b ys := by
  unfold DiffAt at h
  rw [val_full b hx, val_full b hy, val_full b (by omega)] at h
  have h1 := val_lt (by omega : 0 < b) hd
  rw [hl] at h1
  by_cases e : c = 0
  · subst e; simpa using h
  · obtain rfl : c = 1 := by omega
    omega
end Go.Proofs.YtapeomcnjjfihaaDoor
