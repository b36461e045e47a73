/- Rows of digits to a base, the lowest first: their value, that a row without noughts at its end is the only one of its value. Plain lists of integers. Rows of digits: comparing from the top, sums and differences digit by digit. Plain lists of integers. -/
namespace Go.Proofs.YtpebnofjcodikaaGreatDoor
section
set_option linter.unusedVariables false
set_option linter.unusedSimpArgs false
def val (b : Int) : List Int → Int
  | [] => 0
  | d :: r => d + b * val b r
theorem val_append (b : Int) (xs ys : List Int) : val b (xs ++ ys) = val b xs + b ^ xs.length * val b ys := by
  induction xs with
  | nil => simp [val]
  | cons d r ih => simp only [List.cons_append, val, ih, List.length_cons, Int.pow_succ]; grind
theorem val_one (b d : Int) : val b [d] = d := by simp [val]
theorem val_snoc (b : Int) (xs : List Int) (d : Int) : val b (xs ++ [d]) = val b xs + b ^ xs.length * d := by rw [val_append, val_one]
theorem take_snocD {ws : List Int} {k : Nat} (h : k < ws.length) : ws.take (k + 1) = ws.take k ++ [ws.getD k 0] := by
  rw [List.take_succ_eq_append_getElem h]; simp [List.getD_eq_getElem?_getD, h]
theorem val_take (b : Int) {ws : List Int} {k : Nat} (h : k < ws.length) : val b (ws.take (k + 1)) = val b (ws.take k) + b ^ k * ws.getD k 0 := by
  rw [take_snocD h, val_snoc, List.length_take, Nat.min_eq_left (by omega)]
theorem val_zero (b : Int) {ws : List Int} (h : ∀ i, ws.getD i 0 = 0) : val b ws = 0 := by
  induction ws with
  | nil => rfl
  | cons d r ih =>
    have h0 : d = 0 := by simpa using h 0
    have hr : val b r = 0 := ih fun i => by simpa using h (i + 1)
    simp [val, h0, hr]
theorem getD_dropD (ws : List Int) (k i : Nat) : (ws.drop k).getD i 0 = ws.getD (k + i) 0 := by
  simp only [List.getD_eq_getElem?_getD, List.getElem?_drop]
theorem getD_takeD (ws : List Int) (k i : Nat) : (ws.take k).getD i 0 = if i < k then ws.getD i 0 else 0 := by
  simp only [List.getD_eq_getElem?_getD, List.getElem?_take]; split <;> simp
theorem val_cut (b : Int) {ws : List Int} {k : Nat} (h : ∀ i, k ≤ i → ws.getD i 0 = 0) : val b (ws.take k) = val b ws := by
  have e := List.take_append_drop k ws
  have : val b (ws.drop k) = 0 := val_zero b fun i => by rw [getD_dropD]; exact h _ (by omega)
  rw [← e, val_append, this]; simp
/-- Digits to a base. -/
def Dig (b : Int) (ws : List Int) : Prop := ∀ i, 0 ≤ ws.getD i 0 ∧ ws.getD i 0 < b
theorem Dig.nil {b : Int} (h : 0 < b) : Dig b [] := fun i => by simp; exact h
theorem Dig.tail {b d : Int} {r : List Int} (h : Dig b (d :: r)) : Dig b r := fun i => by simpa using h (i + 1)
theorem Dig.head {b d : Int} {r : List Int} (h : Dig b (d :: r)) : 0 ≤ d ∧ d < b := by simpa using h 0
theorem Dig.cons {b d : Int} {r : List Int} (h0 : 0 ≤ d ∧ d < b) (h : Dig b r) : Dig b (d :: r) := fun i => by
  cases i with
  | zero => simpa using h0
  | succ i => simpa using h i
theorem Dig.take {b : Int} {ws : List Int} (h : Dig b ws) (hb : 0 < b) (k : Nat) : Dig b (ws.take k) := fun i => by
  rw [getD_takeD]; split
  · exact h i
  · omega
theorem Dig.append {b : Int} {xs ys : List Int} (h : Dig b xs) (g : Dig b ys) : Dig b (xs ++ ys) := by
  induction xs with
  | nil => simpa using g
  | cons d r ih => exact Dig.cons h.head (ih h.tail)
theorem val_nonneg {b : Int} (hb : 0 < b) {ws : List Int} (h : Dig b ws) : 0 ≤ val b ws := by
  induction ws with
  | nil => simp [val]
  | cons d r ih =>
    have h1 := ih h.tail
    have h2 := h.head
    have h3 := Int.mul_nonneg (Int.le_of_lt hb) h1
    simp only [val]; omega
theorem val_lt {b : Int} (hb : 0 < b) {ws : List Int} (h : Dig b ws) : val b ws < b ^ ws.length := by
  induction ws with
  | nil => simp [val]
  | cons d r ih =>
    have h1 := ih h.tail
    have h2 := h.head
    simp only [val, List.length_cons, Int.pow_succ]
    have h3 : b * val b r ≤ b * (b ^ r.length - 1) := Int.mul_le_mul_of_nonneg_left (by omega) (by omega)
    have h4 : b * (b ^ r.length - 1) = b ^ r.length * b - b := by grind
    omega
/-- .. without a nought at the end. -/
def Canon (b : Int) (ws : List Int) : Prop := Dig b ws ∧ (0 < ws.length → ws.getD (ws.length - 1) 0 ≠ 0)
theorem Canon.nil {b : Int} (h : 0 < b) : Canon b [] := ⟨Dig.nil h, fun h => absurd h (by simp)⟩
theorem Canon.tail {b d : Int} {r : List Int} (h : Canon b (d :: r)) : Canon b r := ⟨h.1.tail, fun hl => by
  have := h.2 (by simp)
  cases r with
  | nil => simp at hl
  | cons x r => simpa using this⟩
theorem Canon.pos {b : Int} (hb : 0 < b) {ws : List Int} (h : Canon b ws) (hl : 0 < ws.length) : 0 < val b ws := by
  induction ws with
  | nil => simp at hl
  | cons d r ih =>
    have h2 := h.1.head
    simp only [val]
    cases r with
    | nil =>
      have := h.2 (by simp)
      simp at this
      simp [val]; omega
    | cons x r =>
      have h1 := ih h.tail (by simp)
      have h3 := Int.mul_pos hb h1
      omega
theorem canon_uniq {b : Int} (hb : 1 < b) : ∀ {xs ys : List Int}, Canon b xs → Canon b ys → val b xs = val b ys → xs = ys := by
  intro xs
  induction xs with
  | nil =>
    intro ys hx hy e
    cases ys with
    | nil => rfl
    | cons d r => have := hy.pos (by omega) (by simp); simp only [val] at *; omega
  | cons d r ih =>
    intro ys hx hy e
    cases ys with
    | nil => have := hx.pos (by omega) (by simp); simp only [val] at *; omega
    | cons d' r' =>
      simp only [val] at e
      have h1 := hx.1.head
      have h2 := hy.1.head
      have e1 : d % b = d' % b := by
        have := congrArg (· % b) e
        simpa [Int.add_mul_emod_self_left] using this
      rw [Int.emod_eq_of_lt h1.1 h1.2, Int.emod_eq_of_lt h2.1 h2.2] at e1
      subst e1
      have e2 : b * val b r = b * val b r' := by omega
      have e3 := Int.eq_of_mul_eq_mul_left (by omega) e2
      rw [ih hx.tail hy.tail e3]
theorem pow_pos' {b : Int} (hb : 0 < b) (k : Nat) : 0 < b ^ k := by
  induction k with
  | zero => simp
  | succ k ih => rw [Int.pow_succ]; exact Int.mul_pos ih hb
theorem pow_mono' {b : Int} (hb : 1 ≤ b) {j k : Nat} (h : j ≤ k) : b ^ j ≤ b ^ k := by
  induction k with
  | zero => have : j = 0 := by omega
            subst this; exact Int.le_refl _
  | succ k ih =>
    by_cases e : j = k + 1
    · subst e; exact Int.le_refl _
    · have h1 := ih (by omega)
      have h2 := pow_pos' (by omega : 0 < b) k
      rw [Int.pow_succ]
      have h3 : b ^ k * 1 ≤ b ^ k * b := Int.mul_le_mul_of_nonneg_left hb (by omega)
      omega
theorem canon_lo {b : Int} (hb : 1 < b) {ws : List Int} (h : Canon b ws) (hl : 0 < ws.length) : b ^ (ws.length - 1) ≤ val b ws := by
  obtain ⟨n, hn⟩ : ∃ n, ws.length = n + 1 := ⟨ws.length - 1, by omega⟩
  have hk : n < ws.length := by omega
  have e : ws.take (n + 1) = ws := List.take_of_length_le (by omega)
  have h1 := val_take b hk
  rw [e] at h1
  have h2 := h.2 hl
  have h3 := h.1 n
  have h4 := val_nonneg (by omega : 0 < b) (h.1.take (by omega) n)
  have h5 := pow_pos' (by omega : 0 < b) n
  rw [hn] at h2 ⊢
  simp only [Nat.add_sub_cancel] at h2 ⊢
  have h6 : b ^ n * 1 ≤ b ^ n * ws.getD n 0 := Int.mul_le_mul_of_nonneg_left (by omega) (by omega)
  omega
theorem canon_len {b : Int} (hb : 1 < b) {ws : List Int} (h : Canon b ws) (k : Nat) : ws.length ≤ k ↔ val b ws < b ^ k := by
  constructor
  · intro hk
    exact Int.lt_of_lt_of_le (val_lt (by omega) h.1) (pow_mono' (by omega) hk)
  · intro hv
    by_cases hl : 0 < ws.length
    · apply Classical.byContradiction
      intro hc
      have h1 := canon_lo hb h hl
      have h2 := pow_mono' (by omega : 1 ≤ b) (show k ≤ ws.length - 1 by omega)
      omega
    · omega
/-- Where a row's noughts at its end begin. -/
def CutAt (ws : List Int) (k : Nat) : Prop := k ≤ ws.length ∧ (∀ i, k ≤ i → ws.getD i 0 = 0) ∧ (0 < k → ws.getD (k - 1) 0 ≠ 0)
theorem CutAt.canon {b : Int} (hb : 0 < b) {ws : List Int} {k : Nat} (h : CutAt ws k) (hd : Dig b ws) : Canon b (ws.take k) ∧ val b (ws.take k) = val b ws ∧ (ws.take k).length = k := by
  have hl : (ws.take k).length = k := by rw [List.length_take]; have := h.1; omega
  refine ⟨⟨hd.take hb k, fun h0 => ?_⟩, val_cut b h.2.1, hl⟩
  rw [hl] at h0 ⊢
  rw [getD_takeD, if_pos (by omega)]
  exact h.2.2 h0
end
section
set_option linter.unusedVariables false
set_option linter.unusedSimpArgs false
theorem getD_len {ws : List Int} {k : Nat} (h : ws.length ≤ k) : ws.getD k 0 = 0 := by simp [List.getD_eq_getElem?_getD, List.getElem?_eq_none h]
theorem val_take' (b : Int) (ws : List Int) (k : Nat) : val b (ws.take (k + 1)) = val b (ws.take k) + b ^ k * ws.getD k 0 := by
  by_cases h : k < ws.length
  · exact val_take b h
  · rw [getD_len (by omega), List.take_of_length_le (by omega), List.take_of_length_le (by omega)]; simp
theorem val_split (b : Int) (ws : List Int) (d : Nat) (h : d ≤ ws.length) : val b ws = val b (ws.take d) + b ^ d * val b (ws.drop d) := by
  have e := val_append b (ws.take d) (ws.drop d)
  rw [List.take_append_drop, List.length_take, Nat.min_eq_left h] at e
  exact e
theorem val_full (b : Int) {ws : List Int} {k : Nat} (h : ws.length ≤ k) : val b (ws.take k) = val b ws := by rw [List.take_of_length_le h]
theorem drop_ext {xs ys : List Int} {d : Nat} (hl : xs.length = ys.length) (h : ∀ j, d ≤ j → xs.getD j 0 = ys.getD j 0) : xs.drop d = ys.drop d := by
  apply List.ext_getElem?
  intro i
  rw [List.getElem?_drop, List.getElem?_drop]
  have := h (d + i) (by omega)
  by_cases hi : d + i < xs.length
  · simp only [List.getD_eq_getElem?_getD, List.getElem?_eq_getElem hi, List.getElem?_eq_getElem (hl ▸ hi), Option.getD_some] at this ⊢
    rw [this]
  · rw [List.getElem?_eq_none (by omega), List.getElem?_eq_none (by omega)]
theorem list_ext_all {xs ys : List Int} (hl : xs.length = ys.length) (h : ∀ i, xs.getD i 0 = ys.getD i 0) : xs = ys := by
  have := drop_ext (d := 0) hl (fun j _ => h j)
  simpa using this
theorem cmp_lt {b : Int} (hb : 1 < b) {xs ys : List Int} (hx : Dig b xs) (hy : Dig b ys) (hl : xs.length = ys.length) (d : Nat) (hd : d < xs.length)
    (heq : ∀ j, d < j → xs.getD j 0 = ys.getD j 0) (h : xs.getD d 0 < ys.getD d 0) : val b xs < val b ys := by
  rw [val_split b xs (d + 1) (by omega), val_split b ys (d + 1) (by omega), drop_ext (d := d + 1) hl (fun j hj => heq j (by omega)), val_take', val_take']
  have h1 := val_lt (by omega : 0 < b) (hx.take (by omega) d)
  rw [List.length_take, Nat.min_eq_left (by omega)] at h1
  have h2 := val_nonneg (by omega : 0 < b) (hy.take (by omega) d)
  have h3 := pow_pos' (by omega : 0 < b) d
  have h4 : b ^ d * (xs.getD d 0 + 1) ≤ b ^ d * ys.getD d 0 := Int.mul_le_mul_of_nonneg_left (by omega) (by omega)
  rw [Int.mul_add, Int.mul_one] at h4
  omega
def cmpI (a b : Int) : Int := if a < b then -1 else if b < a then 1 else 0
theorem cmpI_lt {a b : Int} (h : a < b) : cmpI a b = -1 := if_pos h
theorem cmpI_gt {a b : Int} (h : b < a) : cmpI a b = 1 := by unfold cmpI; rw [if_neg (by omega), if_pos h]
theorem cmpI_eq {a b : Int} (h : a = b) : cmpI a b = 0 := by unfold cmpI; rw [if_neg (by omega), if_neg (by omega)]
theorem len_lt {b : Int} (hb : 1 < b) {xs ys : List Int} (hx : Canon b xs) (hy : Canon b ys) (h : xs.length < ys.length) : val b xs < val b ys := by
  have h1 := canon_lo hb hy (by omega)
  have h2 := val_lt (by omega : 0 < b) hx.1
  have h3 := pow_mono' (by omega : 1 ≤ b) (show xs.length ≤ ys.length - 1 by omega)
  omega
/-- One place of a sum: what stands so far, the carry. -/
def SumAt (b : Int) (xs ys os : List Int) (k : Nat) (c : Int) : Prop := val b (os.take k) + b ^ k * c = val b (xs.take k) + val b (ys.take k)
theorem getD_set' (ws : List Int) (q : Nat) (x : Int) (i : Nat) (hq : q < ws.length) : (ws.set q x).getD i 0 = if i = q then x else ws.getD i 0 := by
  simp only [List.getD_eq_getElem?_getD, List.getElem?_set]
  by_cases h : q = i
  · subst h; simp [hq]
  · rw [if_neg h, if_neg (fun e => h e.symm)]
theorem take_set (ws : List Int) (k : Nat) (x : Int) : (ws.set k x).take k = ws.take k := by
  apply List.ext_getElem?
  intro i
  rw [List.getElem?_take, List.getElem?_take]
  split
  · rw [List.getElem?_set_ne (by omega)]
  · rfl
theorem SumAt.step {b : Int} {xs ys os : List Int} {k : Nat} {c c' d : Int} (h : SumAt b xs ys os k c) (hk : k < os.length) (e : d + b * c' = c + xs.getD k 0 + ys.getD k 0) : SumAt b xs ys (os.set k d) (k + 1) c' := by
  unfold SumAt at *
  rw [val_take', val_take', val_take', take_set, getD_set' _ _ _ _ hk, if_pos rfl, Int.pow_succ]
  have : b ^ k * (d + b * c') = b ^ k * (c + xs.getD k 0 + ys.getD k 0) := by rw [e]
  grind
theorem Dig.set {b : Int} {ws : List Int} (h : Dig b ws) (k : Nat) (x : Int) (hx : 0 ≤ x ∧ x < b) : Dig b (ws.set k x) := by
  intro i
  by_cases hk : k < ws.length
  · rw [getD_set' _ _ _ _ hk]; split
    · exact hx
    · exact h i
  · rw [List.set_eq_of_length_le (by omega)]; exact h i
/-- One place of a difference. -/
def DiffAt (b : Int) (xs ys os : List Int) (k : Nat) (c : Int) : Prop := val b (os.take k) - b ^ k * c = val b (xs.take k) - val b (ys.take k)
theorem DiffAt.step {b : Int} {xs ys os : List Int} {k : Nat} {c c' d : Int} (h : DiffAt b xs ys os k c) (hk : k < os.length) (e : d - b * c' = xs.getD k 0 - ys.getD k 0 - c) : DiffAt b xs ys (os.set k d) (k + 1) c' := by
  unfold DiffAt at *
  rw [val_take', val_take', val_take', take_set, getD_set' _ _ _ _ hk, if_pos rfl, Int.pow_succ]
  have : b ^ k * (d - b * c') = b ^ k * (xs.getD k 0 - ys.getD k 0 - c) := by rw [e]
  grind
theorem SumAt.zero (b : Int) (xs ys os : List Int) : SumAt b xs ys os 0 0 := by simp [SumAt, val]
theorem DiffAt.zero (b : Int) (xs ys os : List Int) : DiffAt b xs ys os 0 0 := by simp [DiffAt, val]
theorem SumAt.done {b : Int} {xs ys os : List Int} {n : Nat} {c : Int} (h : SumAt b xs ys os n c) (hl : os.length = n + 1) (hx : xs.length ≤ n) (hy : ys.length ≤ n) : val b (os.set n c) = val b xs + val b ys := by
  unfold SumAt at h
  rw [val_full b hx, val_full b hy] at h
  rw [← h]
  have e : (os.set n c).take (n + 1) = os.set n c := List.take_of_length_le (by rw [List.length_set]; omega)
  rw [← e, val_take', take_set, getD_set' _ _ _ _ (by omega), if_pos rfl]
theorem DiffAt.done {b : Int} (hb : 1 < b) {xs ys os : List Int} {n : Nat} {c : Int} (h : DiffAt b xs ys os n c) (hl : os.length = n) (hx : xs.length ≤ n) (hy : ys.length ≤ n) (hd : Dig b os) (hc : 0 ≤ c ∧ c ≤ 1) (hge : val b ys ≤ val b xs) : val b os = val b xs - val b ys := by
  unfold DiffAt at h
  rw [val_full b hx, val_full b hy, val_full b (by omega)] at h
  have h1 := val_lt (by omega : 0 < b) hd
  rw [hl] at h1
  by_cases e : c = 0
  · subst e; simpa using h
  · obtain rfl : c = 1 := by omega
    omega
end
end Go.Proofs.YtpebnofjcodikaaGreatDoor
