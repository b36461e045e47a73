/- Layer 2: the plain mathematics of a long division, place by place. Layer 2: the plain mathematics of the scale of a long division. -/
import Derived.Test.YtpebnofjcodikaaGreatDoorPWTake
namespace Go.Proofs.YtpebnofjcodikaaGreatDoor
section
set_option linter.unusedVariables false
set_option linter.unusedSimpArgs false
/-- The window of n + 1 places from place k. -/
def win (us : List Int) (k n : Nat) : Int := val B18 ((us.drop k).take (n + 1))
structure ShortState (us vs os : List Int) (k : Nat) (g s : Int) : Prop where
  len : os.length = us.length
  dig : Dig B18 os
  same : ∀ j, j < k ∨ k + (vs.length + 1) ≤ j → os.getD j 0 = us.getD j 0
  eq : win os k vs.length - B18 ^ (vs.length + 1) * s = win us k vs.length - val B18 vs * g
  up : win us k vs.length < (g + 1) * val B18 vs
theorem b18_pos : (0 : Int) < B18 := by decide
theorem win_nonneg {us : List Int} (h : Dig B18 us) (k n : Nat) : 0 ≤ win us k n := by
  refine val_nonneg b18_pos (Dig.take (fun i => ?_) b18_pos _)
  rw [getD_drop_at]; exact h _
theorem win_lt {us : List Int} (h : Dig B18 us) {k n : Nat} (hl : k + (n + 1) ≤ us.length) : win us k n < B18 ^ (n + 1) := by
  have := val_lt b18_pos (ws := (us.drop k).take (n + 1)) (Dig.take (fun i => by rw [getD_drop_at]; exact h _) b18_pos _)
  rw [List.length_take, List.length_drop, Nat.min_eq_left (by omega)] at this
  exact this
theorem ShortState.start {us vs os : List Int} {k : Nat} {g s : Int} (hl : os.length = us.length) (hd : Dig B18 os) (hs : ∀ j, j < k ∨ k + (vs.length + 1) ≤ j → os.getD j 0 = us.getD j 0)
    (hD : DiffAt B18 (us.drop k) (vs.map (fun v => v * g)) (os.drop k) (vs.length + 1) s) (hu : win us k vs.length < (g + 1) * val B18 vs) : ShortState us vs os k g s := by
  refine ⟨hl, hd, hs, ?_, hu⟩
  unfold DiffAt at hD
  rw [val_full B18 (ws := vs.map _) (by rw [List.length_map]; omega), val_times] at hD
  exact hD
theorem ShortState.pos {us vs os : List Int} {k : Nat} {g : Int} (h : ShortState us vs os k g 1) (hn : k + (vs.length + 1) ≤ us.length) (hus : Dig B18 us) (hv : 0 < val B18 vs) : 1 ≤ g := by
  have h1 := win_lt h.dig (k := k) (n := vs.length) (by rw [h.len]; exact hn)
  have h2 := win_nonneg hus k vs.length
  have h3 := h.eq
  by_cases hg : 1 ≤ g
  · exact hg
  have : val B18 vs * g ≤ 0 := Int.mul_nonpos_of_nonneg_of_nonpos (by omega) (by omega)
  omega
theorem ShortState.next {us vs os os2 : List Int} {k : Nat} {g c : Int} (h : ShortState us vs os k g 1) (hn : k + (vs.length + 1) ≤ us.length) (hus : Dig B18 us) (hv : 0 < val B18 vs)
    (hG : GiveState os vs os2 k (vs.length + 1) c) : ShortState us vs os2 k (g - 1) (1 - c) := by
  have h1 := win_lt h.dig (k := k) (n := vs.length) (by rw [h.len]; exact hn)
  have h3 := h.eq
  refine ⟨by rw [hG.len]; exact h.len, hG.dig, fun j hj => by rw [hG.same j hj]; exact h.same j hj, ?_, ?_⟩
  · have h4 := hG.sum
    unfold SumAt at h4
    rw [val_full B18 (ws := vs) (by omega)] at h4
    unfold win at *
    rw [Int.mul_sub, Int.mul_sub]
    omega
  · rw [show g - 1 + 1 = g by omega, Int.mul_comm]
    rw [Int.mul_one] at h3
    omega
theorem ShortState.done {us vs os : List Int} {k : Nat} {g : Int} (h : ShortState us vs os k g 0) : win os k vs.length = win us k vs.length - val B18 vs * g ∧ win os k vs.length < val B18 vs := by
  have h3 := h.eq
  have h4 := h.up
  rw [Int.mul_zero, Int.sub_zero] at h3
  rw [Int.add_mul, Int.one_mul, Int.mul_comm] at h4
  omega
theorem win_val {us : List Int} {k n : Nat} (hl : k + (n + 1) ≤ us.length) (hz : ∀ j, k + (n + 1) ≤ j → us.getD j 0 = 0) : val B18 us = val B18 (us.take k) + B18 ^ k * win us k n := by
  rw [val_split B18 us k (by omega)]
  unfold win
  rw [val_cut B18 (ws := us.drop k) (k := n + 1) (fun i hi => by rw [getD_drop_at]; exact hz _ (by omega))]
structure PlaceState (vs : List Int) (U : Int) (L : Nat) (qs us : List Int) (k : Nat) : Prop where
  ql : qs.length = L
  ul : us.length = L + vs.length
  qd : Dig B18 qs
  ud : Dig B18 us
  qz : ∀ j, j < k → qs.getD j 0 = 0
  uz : ∀ j, k + vs.length ≤ j → us.getD j 0 = 0
  eq : U = val B18 qs * val B18 vs + val B18 us
  lt : val B18 us < val B18 vs * B18 ^ k
theorem pow_b18 (k : Nat) : (0 : Int) < B18 ^ k := Int.pow_pos b18_pos
theorem PlaceState.win_up {vs qs us : List Int} {U : Int} {L k : Nat} (h : PlaceState vs U L qs us (k + 1)) (hk : k < L) : win us k vs.length < val B18 vs * B18 := by
  have e := win_val (us := us) (k := k) (n := vs.length) (by rw [h.ul]; omega) (fun j hj => h.uz j (by omega))
  have h1 := h.lt
  have h2 := val_nonneg b18_pos (h.ud.take b18_pos k)
  rw [Int.pow_succ, ← Int.mul_assoc, Int.mul_right_comm] at h1
  refine Int.lt_of_not_ge fun hg => ?_
  have h3 := Int.mul_le_mul_of_nonneg_right hg (show 0 ≤ B18 ^ k by have := pow_b18 k; omega)
  rw [Int.mul_comm (win us k vs.length)] at h3
  omega
theorem PlaceState.guess {vs qs us : List Int} {U g : Int} {L k m : Nat} (h : PlaceState vs U L qs us (k + 1)) (hk : k < L) (hm : vs.length = m + 1) (hv : Dig B18 vs) (hg0 : 0 ≤ g)
    (hg : (vs.getD m 0 ≤ us.getD (k + vs.length) 0 ∧ g = B18 - 1) ∨ (us.getD (k + vs.length) 0 < vs.getD m 0 ∧ g * vs.getD m 0 ≤ us.getD (k + vs.length) 0 * B18 + us.getD (k + m) 0 ∧ us.getD (k + vs.length) 0 * B18 + us.getD (k + m) 0 < (g + 1) * vs.getD m 0)) :
    win us k vs.length < (g + 1) * val B18 vs := by
  rcases hg with ⟨_, rfl⟩ | ⟨_, _, hg⟩
  · have := h.win_up hk
    rw [Int.mul_comm] at this
    rw [show B18 - 1 + 1 = B18 by decide]
    exact this
  · have e1 : win us k vs.length = val B18 ((us.drop k).take m) + B18 ^ m * (us.getD (k + m) 0 + B18 * us.getD (k + vs.length) 0) := by
      unfold win
      rw [val_take', hm, val_take', getD_drop_at, getD_drop_at, Int.pow_succ, Int.mul_add, Int.mul_assoc, Int.add_assoc]
    have e2 : val B18 ((us.drop k).take m) < B18 ^ m := by
      have := val_lt b18_pos (ws := (us.drop k).take m) (Dig.take (fun i => by rw [getD_drop_at]; exact h.ud _) b18_pos _)
      rw [List.length_take, List.length_drop, Nat.min_eq_left (by rw [h.ul]; omega)] at this
      exact this
    have e3 : B18 ^ m * vs.getD m 0 ≤ val B18 vs := by
      rw [← val_full B18 (ws := vs) (k := m + 1) (by omega), val_take']
      have := val_nonneg b18_pos (hv.take b18_pos m)
      omega
    have e4 := Int.mul_le_mul_of_nonneg_left e3 (show 0 ≤ g + 1 by omega)
    have e5 := Int.mul_le_mul_of_nonneg_left (show us.getD (k + m) 0 + B18 * us.getD (k + vs.length) 0 + 1 ≤ (g + 1) * vs.getD m 0 by rw [Int.mul_comm B18]; omega) (show 0 ≤ B18 ^ m by have := pow_b18 m; omega)
    rw [Int.mul_add, Int.mul_one, Int.mul_left_comm] at e5
    omega
theorem val_set_at (b : Int) : ∀ (ws : List Int) (k : Nat) (x : Int), k < ws.length → val b (ws.set k x) = val b ws + b ^ k * (x - ws.getD k 0)
  | [], k, x, h => by simp at h
  | w :: ws, 0, x, h => by simp [val]; omega
  | w :: ws, k + 1, x, h => by
    have ih := val_set_at b ws k x (by simpa using h)
    simp only [List.set_cons_succ, val, ih, List.getD_cons_succ, Int.pow_succ]
    rw [Int.mul_add, Int.mul_comm (b ^ k) b, Int.mul_assoc]
    omega
theorem take_same {us os : List Int} {k : Nat} (hl : os.length = us.length) (hs : ∀ j, j < k → os.getD j 0 = us.getD j 0) : os.take k = us.take k := by
  refine List.ext_getElem (by simp [hl]) fun i h1 h2 => ?_
  have h := hs i (by simp at h1; omega)
  simp only [List.length_take] at h1 h2
  rw [List.getElem_take, List.getElem_take]
  rw [List.getD_eq_getElem?_getD, List.getD_eq_getElem?_getD, List.getElem?_eq_getElem (by omega), List.getElem?_eq_getElem (by omega)] at h
  exact h
theorem PlaceState.step {vs qs us os : List Int} {U g : Int} {L k : Nat} (h : PlaceState vs U L qs us (k + 1)) (hk : k < L) (hv : Dig B18 vs) (hS : ShortState us vs os k g 0) (hg : 0 ≤ g ∧ g < B18) : PlaceState vs U L (qs.set k g) os k := by
  have hd := hS.done
  have hul := h.ul
  have hzs : ∀ j, k + (vs.length + 1) ≤ j → os.getD j 0 = 0 := fun j hj => by rw [hS.same j (.inr hj)]; exact h.uz j (by omega)
  have e1 := win_val (us := us) (k := k) (n := vs.length) (by omega) (fun j hj => h.uz j (by omega))
  have e2 := win_val (us := os) (k := k) (n := vs.length) (by rw [hS.len]; omega) hzs
  rw [take_same hS.len (fun j hj => hS.same j (.inl hj))] at e2
  have hlow := val_lt b18_pos (h.ud.take b18_pos k)
  rw [List.length_take, Nat.min_eq_left (by omega)] at hlow
  have hV := val_lt b18_pos hv
  refine ⟨by rw [List.length_set]; exact h.ql, by rw [hS.len]; exact h.ul, h.qd.set k g hg, hS.dig, fun j hj => ?_, fun j hj => ?_, ?_, ?_⟩
  · rw [getD_set' _ _ _ _ (by rw [h.ql]; exact hk), if_neg (by omega)]
    exact h.qz j (by omega)
  · by_cases hj2 : k + (vs.length + 1) ≤ j
    · exact hzs j hj2
    · obtain rfl : j = k + vs.length := by omega
      have e3 : win os k vs.length = val B18 ((os.drop k).take vs.length) + B18 ^ vs.length * os.getD (k + vs.length) 0 := by
        unfold win; rw [val_take', getD_drop_at]
      have e4 := val_nonneg b18_pos (ws := (os.drop k).take vs.length) (Dig.take (fun i => by rw [getD_drop_at]; exact hS.dig _) b18_pos _)
      have e5 := (hS.dig (k + vs.length)).1
      by_cases hz : os.getD (k + vs.length) 0 = 0
      · exact hz
      · have e6 := Int.mul_le_mul_of_nonneg_left (show 1 ≤ os.getD (k + vs.length) 0 by omega) (show 0 ≤ B18 ^ vs.length by have := pow_b18 vs.length; omega)
        omega
  · rw [val_set_at _ _ _ _ (by rw [h.ql]; exact hk), h.qz k (by omega), Int.sub_zero, h.eq, e1, e2, hd.1, Int.add_mul, Int.mul_sub, Int.mul_assoc, Int.mul_comm g]
    omega
  · have e7 := Int.mul_le_mul_of_nonneg_left (show win os k vs.length + 1 ≤ val B18 vs by omega) (show 0 ≤ B18 ^ k by have := pow_b18 k; omega)
    rw [Int.mul_add, Int.mul_one] at e7
    rw [Int.mul_comm (val B18 vs)]
    omega
theorem PlaceState.start {vs us : List Int} {L : Nat} (hl : us.length = L + vs.length) (hd : Dig B18 us) (hlt : val B18 us < val B18 vs * B18 ^ L) : PlaceState vs (val B18 us) L (List.replicate L 0) us L := by
  refine ⟨by simp, hl, fun i => ?_, hd, fun j hj => ?_, fun j hj => ?_, ?_, hlt⟩
  · rw [List.getD_eq_getElem?_getD, List.getElem?_replicate]; split <;> simp [B18]
  · rw [List.getD_eq_getElem?_getD, List.getElem?_replicate]; split <;> simp
  · exact getD_len (by omega)
  · rw [val_zero B18 (ws := List.replicate L 0) (fun i => by rw [List.getD_eq_getElem?_getD, List.getElem?_replicate]; split <;> simp)]
    omega
end
section
set_option linter.unusedVariables false
set_option linter.unusedSimpArgs false
theorem scale_pos {top : Int} (h0 : 0 ≤ top) (h1 : top < B18) : 0 < B18 / (top + 1) ∧ (top + 1) * (B18 / (top + 1)) ≤ B18 := by
  have e := Int.mul_ediv_add_emod B18 (top + 1)
  have e2 := Int.emod_nonneg B18 (show top + 1 ≠ 0 by omega)
  have e3 := Int.emod_lt_of_pos B18 (show 0 < top + 1 by omega)
  refine ⟨?_, by omega⟩
  by_cases h : 0 < B18 / (top + 1)
  · exact h
  · have h4 : (top + 1) * (B18 / (top + 1)) ≤ 0 := Int.mul_nonpos_of_nonneg_of_nonpos (by omega) (by omega)
    omega
theorem val_top {ys : List Int} {m : Nat} (hy : Dig B18 ys) (hm : ys.length = m + 1) : ys.getD m 0 * B18 ^ m ≤ val B18 ys ∧ val B18 ys < (ys.getD m 0 + 1) * B18 ^ m := by
  have e : val B18 ys = val B18 (ys.take m) + B18 ^ m * ys.getD m 0 := by
    rw [← val_full B18 (ws := ys) (k := m + 1) (by omega), val_take']
  have h0 := val_nonneg b18_pos (hy.take b18_pos m)
  have h1 := val_lt b18_pos (hy.take b18_pos m)
  rw [List.length_take, Nat.min_eq_left (by omega)] at h1
  rw [e, Int.add_mul, Int.one_mul, Int.mul_comm (ys.getD m 0)]
  omega
/-- The scaled divisor has no more places. -/
theorem scale_fits {ys : List Int} {m : Nat} {sc : Int} (hy : Dig B18 ys) (hm : ys.length = m + 1) (hs : B18 / (ys.getD m 0 + 1) = sc) : val B18 ys * sc < B18 ^ (m + 1) := by
  have ht := hy m
  have hp := scale_pos ht.1 ht.2
  rw [hs] at hp
  have h1 := (val_top hy hm).2
  have h2 := Int.mul_lt_mul_of_pos_right h1 hp.1
  have h3 := Int.mul_le_mul_of_nonneg_right hp.2 (show 0 ≤ B18 ^ m by have := pow_b18 m; omega)
  rw [Int.pow_succ, Int.mul_comm (B18 ^ m)]
  rw [Int.mul_right_comm] at h2
  omega
/-- The first window lies below the divisor. -/
theorem scale_start {xs ys : List Int} {m L : Nat} {sc : Int} (hx : Dig B18 xs) (hy : Dig B18 ys) (hm : ys.length = m + 1) (ht : 0 < ys.getD m 0) (hs : 0 < sc) (hL : xs.length = L + m) :
    val B18 xs * sc < val B18 ys * sc * B18 ^ L := by
  have h1 := val_lt b18_pos hx
  have h2 := (val_top hy hm).1
  have h3 := Int.mul_le_mul_of_nonneg_right (show 1 ≤ ys.getD m 0 by omega) (show 0 ≤ B18 ^ m by have := pow_b18 m; omega)
  have h4 := Int.mul_le_mul_of_nonneg_left (show B18 ^ m ≤ val B18 ys by omega) (show 0 ≤ B18 ^ L by have := pow_b18 L; omega)
  rw [← Int.pow_add, ← hL] at h4
  have h5 := Int.mul_lt_mul_of_pos_right (show val B18 xs < B18 ^ L * val B18 ys by omega) hs
  rw [Int.mul_right_comm, Int.mul_comm (val B18 ys)]
  exact h5
/-- A row whose value is small enough loses nothing when it is cut. -/
theorem cut_fits {ws : List Int} {n : Nat} (hd : Dig B18 ws) (hl : ws.length = n + 1) (hv : val B18 ws < B18 ^ n) : val B18 (ws.take n) = val B18 ws := by
  have e : val B18 ws = val B18 (ws.take n) + B18 ^ n * ws.getD n 0 := by
    rw [← val_full B18 (ws := ws) (k := n + 1) (by omega), val_take']
  have h0 := val_nonneg b18_pos (hd.take b18_pos n)
  have h1 := (hd n).1
  by_cases hz : ws.getD n 0 = 0
  · rw [hz, Int.mul_zero] at e; omega
  · have := Int.mul_le_mul_of_nonneg_left (show 1 ≤ ws.getD n 0 by omega) (show 0 ≤ B18 ^ n by have := pow_b18 n; omega)
    omega
/-- The rest, scaled back. -/
theorem scale_end {x y q R r e sc : Int} (hs : 0 < sc) (h : x * sc = q * (y * sc) + R) (hR : 0 ≤ R) (hlt : R < y * sc) (hr : R = r * sc + e) (he : 0 ≤ e) (hel : e < sc) : x = q * y + r ∧ r < y := by
  have e1 : x * sc = q * y * sc + r * sc + e := by rw [h, hr, ← Int.mul_assoc]; omega
  have e2 : (x - q * y - r) * sc = e := by rw [Int.sub_mul, Int.sub_mul]; omega
  have e3 : x - q * y - r = 0 := by
    by_cases h1 : 1 ≤ x - q * y - r
    · have := Int.mul_le_mul_of_nonneg_right h1 (show 0 ≤ sc by omega); omega
    · by_cases h2 : x - q * y - r ≤ -1
      · have := Int.mul_le_mul_of_nonneg_right h2 (show 0 ≤ sc by omega); omega
      · omega
  refine ⟨by omega, ?_⟩
  by_cases h1 : r < y
  · exact h1
  · have := Int.mul_le_mul_of_nonneg_right (show y ≤ r by omega) (show 0 ≤ sc by omega)
    omega
end
end Go.Proofs.YtpebnofjcodikaaGreatDoor
