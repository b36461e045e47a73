/- Rows of decimal digits as numbers: strconv's decimal, plainly. strconv's decimal shifted to the left, plainly. Which of two rows of digits comes first; the table of new digits. -/
import Derived.Laws.FloatArith
import GoSem.PinnedTables
namespace Go.Proofs.YtpebnofjcodikaaGreatDoor
section
open Go
set_option linter.unusedVariables false
set_option linter.unusedSimpArgs false
/-- Digit i of a number of n digits, the first one the highest. -/
def dg (V n i : Nat) : Nat := V / 10 ^ (n - 1 - i) % 10
theorem dg_lt (V n i : Nat) : dg V n i < 10 := Nat.mod_lt _ (by decide)
/-- The value of the first j of n digits. -/
def tp (V n j : Nat) : Nat := V / 10 ^ (n - j)
/-- The value of the last j digits. -/
def lw (V j : Nat) : Nat := V % 10 ^ j
theorem tp_zero {V n : Nat} (h : V < 10 ^ n) : tp V n 0 = 0 := by unfold tp; rw [Nat.sub_zero]; exact Nat.div_eq_of_lt h
theorem tp_all (V n : Nat) : tp V n n = V := by unfold tp; simp
theorem tp_step {V n j : Nat} (h : j < n) : tp V n (j + 1) = tp V n j * 10 + dg V n j := by
  unfold tp dg
  have e : n - j = (n - (j + 1)) + 1 := by omega
  have e2 : n - 1 - j = n - (j + 1) := by omega
  rw [e, e2, Nat.pow_succ, ← Nat.div_div_eq_div_mul]
  generalize V / 10 ^ (n - (j + 1)) = q
  omega
theorem lw_step {V n j : Nat} (h : j < n) : lw V (j + 1) = dg V n (n - 1 - j) * 10 ^ j + lw V j := by
  unfold lw dg
  rw [show n - 1 - (n - 1 - j) = j by omega, Nat.pow_succ, Nat.mod_mul]
  rw [Nat.mul_comm, Nat.add_comm]
theorem lw_all {V n : Nat} (h : V < 10 ^ n) : lw V n = V := Nat.mod_eq_of_lt h
theorem lw_lt (V j : Nat) : lw V j < 10 ^ j := Nat.mod_lt _ (Nat.pow_pos (by decide))
/-- The table of new digits: so many for a shift by k, and the number that parts them. -/
def chD : List Nat := [0, 1, 1, 1, 2, 2, 2, 3, 3, 3, 4, 4, 4, 4, 5, 5, 5, 6, 6, 6, 7, 7, 7, 7, 8, 8, 8, 9, 9, 9, 10, 10, 10, 10, 11, 11, 11, 12, 12, 12, 13, 13, 13, 13, 14, 14, 14, 15, 15, 15, 16, 16, 16, 16, 17, 17, 17, 18, 18, 18, 19]
def dl (k : Nat) : Nat := chD.getD k 0
theorem dl_pow : ∀ k, 1 ≤ k → k ≤ 60 → 1 ≤ dl k ∧ dl k ≤ k ∧ dl k ≤ 19 ∧ 10 ^ (dl k - 1) ≤ 2 ^ k ∧ 2 ^ k < 10 ^ dl k := by
  have h : (List.range 61).all (fun k => k == 0 || (decide (1 ≤ dl k) && decide (dl k ≤ k) && decide (dl k ≤ 19) && decide (10 ^ (dl k - 1) ≤ 2 ^ k) && decide (2 ^ k < 10 ^ dl k))) = true := by decide +kernel
  intro k h1 h2
  have := List.all_eq_true.1 h k (by simp; omega)
  simp at this
  omega
/-- How many digits come in: fewer by one where the first digits are below the table's. -/
def nu (V n k : Nat) : Nat := if V * 10 ^ (k - dl k + 1) < 5 ^ k * 10 ^ n then dl k - 1 else dl k
/-- A number of n digits times 2^k has n + nu digits. -/
theorem nu_digits {V n k : Nat} (hn : 1 ≤ n) (hV : V < 10 ^ n) (hV1 : 10 ^ (n - 1) ≤ V) (h1 : 1 ≤ k) (h2 : k ≤ 60) : V * 2 ^ k < 10 ^ (n + nu V n k) ∧ 10 ^ (n + nu V n k - 1) ≤ V * 2 ^ k := by
  obtain ⟨d1, d2, d3, d4, d5⟩ := dl_pow k h1 h2
  have hten : (10 : Nat) ^ k = 2 ^ k * 5 ^ k := by rw [← Nat.mul_pow]
  have hp2 : 0 < (2 : Nat) ^ k := Nat.two_pow_pos k
  have e1 : (10 : Nat) ^ (k - dl k + 1) * 10 ^ (dl k - 1) = 10 ^ k := by rw [← Nat.pow_add]; congr 1; omega
  have key : V * 10 ^ (k - dl k + 1) < 5 ^ k * 10 ^ n ↔ V * 2 ^ k < 10 ^ (n + (dl k - 1)) := by
    rw [Nat.pow_add 10 n]
    have hq : 0 < 2 ^ k * 10 ^ (dl k - 1) := Nat.mul_pos hp2 (Nat.pow_pos (by decide))
    have hr : 0 < (10 : Nat) ^ (k - dl k + 1) := Nat.pow_pos (by decide)
    have s1 : V * 10 ^ (k - dl k + 1) * (2 ^ k * 10 ^ (dl k - 1)) = (V * 2 ^ k) * 10 ^ k := by rw [← e1]; simp only [Nat.mul_assoc, Nat.mul_comm, Nat.mul_left_comm]
    have s2 : 5 ^ k * 10 ^ n * (2 ^ k * 10 ^ (dl k - 1)) = (10 ^ n * 10 ^ (dl k - 1)) * 10 ^ k := by rw [hten]; simp only [Nat.mul_assoc, Nat.mul_comm, Nat.mul_left_comm]
    have hk : 0 < (10 : Nat) ^ k := Nat.pow_pos (by decide)
    constructor
    · intro h
      have h3 := Nat.mul_lt_mul_of_pos_right h hq
      rw [s1, s2] at h3
      exact Nat.lt_of_mul_lt_mul_right h3
    · intro h
      have h3 := Nat.mul_lt_mul_of_pos_right h hk
      rw [← s1, ← s2] at h3
      exact Nat.lt_of_mul_lt_mul_right h3
  unfold nu
  by_cases hc : V * 10 ^ (k - dl k + 1) < 5 ^ k * 10 ^ n
  · rw [if_pos hc]
    refine ⟨key.1 hc, ?_⟩
    have h3 : 10 ^ (n - 1) * 10 ^ (dl k - 1) ≤ V * 2 ^ k := Nat.mul_le_mul hV1 d4
    rw [← Nat.pow_add] at h3
    rw [show n + (dl k - 1) - 1 = n - 1 + (dl k - 1) by omega]
    exact h3
  · rw [if_neg hc]
    constructor
    · rw [Nat.pow_add]
      exact Nat.mul_lt_mul'' hV d5
    · have := Nat.le_of_not_lt (mt key.2 hc)
      rw [show n + dl k - 1 = n + (dl k - 1) by omega]
      exact this
/-- Trailing noughts cut off: the number and how many digits it has. -/
def trimP : Nat → Nat → Nat × Nat
  | V, 0 => (V, 0)
  | V, n + 1 => if V % 10 = 0 then trimP (V / 10) n else (V, n + 1)
theorem trimP_le (n : Nat) : ∀ V, (trimP V n).2 ≤ n := by
  induction n with
  | zero => intro V; simp [trimP]
  | succ n ih =>
    intro V
    unfold trimP
    split
    · have := ih (V / 10); omega
    · simp
theorem trimP_val (n : Nat) : ∀ V, (trimP V n).1 * 10 ^ (n - (trimP V n).2) = V := by
  induction n with
  | zero => intro V; simp [trimP]
  | succ n ih =>
    intro V
    unfold trimP
    split
    · rename_i h
      have h1 := ih (V / 10)
      have h2 := trimP_le n (V / 10)
      rw [show n + 1 - (trimP (V / 10) n).2 = (n - (trimP (V / 10) n).2) + 1 by omega, Nat.pow_succ, ← Nat.mul_assoc, h1]
      omega
    · simp
theorem trimP_pos (n : Nat) : ∀ V, V < 10 ^ n → 1 ≤ V → 10 ^ (n - 1) ≤ V → 1 ≤ (trimP V n).2 ∧ (trimP V n).1 < 10 ^ (trimP V n).2 ∧ 10 ^ ((trimP V n).2 - 1) ≤ (trimP V n).1 ∧ (trimP V n).1 % 10 ≠ 0 := by
  induction n with
  | zero => intro V h1 h2 _; simp at h1; omega
  | succ n ih =>
    intro V h1 h2 h3
    unfold trimP
    split
    · rename_i h
      rw [Nat.pow_succ] at h1
      have hn : n ≠ 0 := by
        intro hc; subst hc; simp at h1; omega
      have e : n + 1 - 1 = (n - 1) + 1 := by omega
      rw [e, Nat.pow_succ] at h3
      exact ih (V / 10) (by omega) (by omega) (by omega)
    · rename_i h
      exact ⟨by omega, h1, h3, h⟩
end
section
open Go
set_option linter.unusedVariables false
set_option linter.unusedSimpArgs false
/-- A decimal: its digits as a number, how many they are, where the point stands, whether something was cut off. -/
structure DS where
  V : Nat
  n : Nat
  dp : Int
  tr : Bool
/-- A decimal in form: the first digit is no nought. -/
structure Nrm (s : DS) : Prop where
  n1 : 1 ≤ s.n
  n8 : s.n ≤ 800
  hi : s.V < 10 ^ s.n
  lo : 10 ^ (s.n - 1) ≤ s.V
theorem Nrm.pos {s : DS} (h : Nrm s) : 1 ≤ s.V := Nat.le_trans (Nat.pow_pos (by decide)) h.lo
/-- How many digits there is room for, opaque. -/
@[irreducible] def cK : Nat := 800
theorem cK_eq : cK = 800 := by unfold cK; rfl
/-- Cut to so many digits. -/
def cutV (T L : Nat) : Nat := T / 10 ^ (L - cK)
def cutN (L : Nat) : Nat := min L cK
theorem cut_hi {T L : Nat} (h : T < 10 ^ L) : cutV T L < 10 ^ cutN L := by
  unfold cutV cutN
  by_cases h8 : L ≤ cK
  · rw [Nat.min_eq_left h8, show L - cK = 0 by omega, Nat.pow_zero, Nat.div_one]; exact h
  · rw [Nat.min_eq_right (by omega), Nat.div_lt_iff_lt_mul (Nat.pow_pos (by decide)), ← Nat.pow_add, show cK + (L - cK) = L by omega]
    exact h
theorem cut_lo {T L : Nat} (h : 10 ^ (L - 1) ≤ T) (hL : 1 ≤ L) : 10 ^ (cutN L - 1) ≤ cutV T L := by
  unfold cutV cutN
  by_cases h8 : L ≤ cK
  · rw [Nat.min_eq_left h8, show L - cK = 0 by omega, Nat.pow_zero, Nat.div_one]; exact h
  · rw [Nat.min_eq_right (by omega), Nat.le_div_iff_mul_le (Nat.pow_pos (by decide)), ← Nat.pow_add, show cK - 1 + (L - cK) = L - 1 by (have := cK_eq; omega)]
    exact h
theorem cut_dg {T L i : Nat} (hi : i < cutN L) : dg (cutV T L) (cutN L) i = dg T L i := by
  unfold dg cutV cutN at *
  by_cases h8 : L ≤ cK
  · rw [Nat.min_eq_left h8] at hi ⊢
    rw [show L - cK = 0 by omega, Nat.pow_zero, Nat.div_one]
  · rw [Nat.min_eq_right (by omega)] at hi ⊢
    rw [Nat.div_div_eq_div_mul, ← Nat.pow_add, show L - cK + (cK - 1 - i) = L - 1 - i by omega]
/-- Trailing noughts cut off. -/
def trimS (s : DS) : DS := ⟨(trimP s.V s.n).1, (trimP s.V s.n).2, if (trimP s.V s.n).2 = 0 then 0 else s.dp, s.tr⟩
/-- Shifted to the left by k. -/
def lsh (k : Nat) (s : DS) : DS :=
  trimS ⟨cutV (s.V * 2 ^ k) (s.n + nu s.V s.n k), cutN (s.n + nu s.V s.n k), s.dp + (nu s.V s.n k : Nat), s.tr || decide (lw (s.V * 2 ^ k) (s.n + nu s.V s.n k - cK) ≠ 0)⟩
theorem trim_nrm {V n : Nat} {dp : Int} {tr : Bool} (h1 : 1 ≤ n) (h8 : n ≤ 800) (hi : V < 10 ^ n) (lo : 10 ^ (n - 1) ≤ V) : Nrm (trimS ⟨V, n, dp, tr⟩) ∧ (trimS ⟨V, n, dp, tr⟩).dp = dp := by
  have hp : 1 ≤ V := Nat.le_trans (Nat.pow_pos (by decide)) lo
  obtain ⟨a1, a2, a3, a4⟩ := trimP_pos n V hi hp lo
  have a5 := trimP_le n V
  unfold trimS
  refine ⟨⟨a1, Nat.le_trans a5 h8, a2, a3⟩, ?_⟩
  simp only
  rw [if_neg (by omega)]
theorem cutN_le (L : Nat) : cutN L ≤ 800 := by unfold cutN; have := cK_eq; omega
theorem lsh_nrm {k : Nat} {s : DS} (h : Nrm s) (h1 : 1 ≤ k) (h2 : k ≤ 60) : Nrm (lsh k s) ∧ (lsh k s).dp = s.dp + (nu s.V s.n k : Nat) := by
  obtain ⟨b1, b2⟩ := nu_digits h.n1 h.hi h.lo h1 h2
  have hL : 1 ≤ s.n + nu s.V s.n k := by have := h.n1; omega
  unfold lsh
  exact trim_nrm (by unfold cutN; have := cK_eq; omega) (cutN_le _) (cut_hi b1) (cut_lo b2 hL)
theorem nu_le {V n k : Nat} (h1 : 1 ≤ k) (h2 : k ≤ 60) : nu V n k ≤ 19 := by
  obtain ⟨d1, d2, d3, d4, d5⟩ := dl_pow k h1 h2
  unfold nu; split <;> omega
/-- The carry behind j digits. -/
def cy (V k j : Nat) : Nat := lw V j * 2 ^ k / 10 ^ j
theorem cy_zero (V k : Nat) : cy V k 0 = 0 := by unfold cy lw; simp [Nat.mod_one]
theorem cy_lt (V k j : Nat) : cy V k j < 2 ^ k := by
  unfold cy
  rw [Nat.div_lt_iff_lt_mul (Nat.pow_pos (by decide)), Nat.mul_comm (2 ^ k)]
  exact Nat.mul_lt_mul_of_pos_right (lw_lt V j) (Nat.two_pow_pos k)
theorem cy_in {V n k j : Nat} (hj : j < n) : cy V k j + dg V n (n - 1 - j) * 2 ^ k = lw V (j + 1) * 2 ^ k / 10 ^ j := by
  unfold cy
  rw [lw_step hj, Nat.add_mul, Nat.mul_right_comm, Nat.add_comm (dg V n (n - 1 - j) * 2 ^ k * 10 ^ j), Nat.add_mul_div_right _ _ (Nat.pow_pos (by decide))]
theorem cy_step {V n k j : Nat} (hj : j < n) : (cy V k j + dg V n (n - 1 - j) * 2 ^ k) / 10 = cy V k (j + 1) := by
  rw [cy_in hj]
  unfold cy
  rw [Nat.div_div_eq_div_mul, ← Nat.pow_succ]
theorem mod_mul_pow (V m j : Nat) : (V % 10 ^ j * m) % 10 ^ j = (V * m) % 10 ^ j := by rw [Nat.mod_mul_mod]
theorem dig_of (T j : Nat) : T % 10 ^ (j + 1) / 10 ^ j = T / 10 ^ j % 10 := by rw [Nat.pow_succ, Nat.mod_mul_right_div_self]
theorem cy_dig {V n k j L : Nat} (hj : j < n) (hL : j < L) : (cy V k j + dg V n (n - 1 - j) * 2 ^ k) % 10 = dg (V * 2 ^ k) L (L - 1 - j) := by
  rw [cy_in hj]
  unfold dg
  rw [show L - 1 - (L - 1 - j) = j by omega, ← dig_of, ← dig_of]
  unfold lw
  rw [mod_mul_pow]
/-- The carry behind all digits is what the number has above. -/
theorem cy_top {V n k : Nat} (h : V < 10 ^ n) : cy V k n = V * 2 ^ k / 10 ^ n := by unfold cy; rw [lw_all h]
theorem top_dig {T j L : Nat} (hL : j < L) : T / 10 ^ j % 10 = dg T L (L - 1 - j) := by
  unfold dg
  rw [show L - 1 - (L - 1 - j) = j by omega]
theorem top_step (T j : Nat) : T / 10 ^ j / 10 = T / 10 ^ (j + 1) := by rw [Nat.div_div_eq_div_mul, ← Nat.pow_succ]
theorem top_pos {T j L : Nat} (hT : T < 10 ^ L) (h : 0 < T / 10 ^ j) : j < L := by
  refine Nat.lt_of_not_le fun hc => ?_
  have h1 : (10 : Nat) ^ L ≤ 10 ^ j := Nat.pow_le_pow_right (by decide) hc
  rw [Nat.div_eq_of_lt (by omega)] at h
  omega
theorem top_zero {T j L : Nat} (hT : 10 ^ (L - 1) ≤ T) (hL : 1 ≤ L) (hj : j ≤ L) (h : T / 10 ^ j = 0) : j = L := by
  refine Nat.le_antisymm hj (Nat.le_of_not_lt fun hc => ?_)
  have h1 : (10 : Nat) ^ j ≤ 10 ^ (L - 1) := Nat.pow_le_pow_right (by decide) (by omega)
  have h2 : 0 < T / 10 ^ j := Nat.div_pos (by omega) (Nat.pow_pos (by decide))
  omega
/-- Was something dropped, behind j digits? -/
def drp (T L j : Nat) : Bool := decide (lw T (min j (L - cK)) ≠ 0)
theorem drp_zero (T L : Nat) : drp T L 0 = false := by unfold drp lw; simp [Nat.mod_one]
theorem drp_all {T L j : Nat} (h : L - cK ≤ j) : drp T L j = decide (lw T (L - cK) ≠ 0) := by unfold drp; rw [Nat.min_eq_right h]
theorem drp_in {T L j : Nat} (h : ¬ cK ≤ L - 1 - j) (hj : j < L) : drp T L (j + 1) = drp T L j := by
  unfold drp
  rw [Nat.min_eq_right (by omega), Nat.min_eq_right (by omega)]
theorem drp_out {T L j : Nat} (h : cK ≤ L - 1 - j) (hj : j < L) : drp T L (j + 1) = (drp T L j || decide (dg T L (L - 1 - j) ≠ 0)) := by
  unfold drp
  rw [Nat.min_eq_left (by omega), Nat.min_eq_left (by omega), lw_step (n := L) hj, ]
  have hp : 0 < 10 ^ j := Nat.pow_pos (by decide)
  rw [Bool.eq_iff_iff, Bool.or_eq_true, decide_eq_true_eq, decide_eq_true_eq, decide_eq_true_eq]
  constructor
  · intro h1
    by_cases h2 : dg T L (L - 1 - j) = 0
    · left; rw [h2] at h1; simpa using h1
    · right; exact h2
  · rintro (h1 | h1)
    · omega
    · have : 0 < dg T L (L - 1 - j) * 10 ^ j := Nat.mul_pos (by omega) hp
      omega
end
section
open Go
set_option linter.unusedVariables false
set_option linter.unusedSimpArgs false
theorem tp_le (V n j : Nat) : tp V n j * 10 ^ (n - j) ≤ V := by unfold tp; exact Nat.div_mul_le_self _ _
theorem tp_lt (V n j : Nat) : V < (tp V n j + 1) * 10 ^ (n - j) := by
  unfold tp
  rw [Nat.mul_comm]
  exact Nat.lt_mul_div_succ V (Nat.pow_pos (by decide))
theorem pl_less {V n C L j : Nat} (hn : j ≤ n) (hL : j ≤ L) (h : tp V n j < tp C L j) : V * 10 ^ L < C * 10 ^ n := by
  have h1 := tp_lt V n j
  have h2 := tp_le C L j
  have h3 : (tp V n j + 1) * 10 ^ (n - j) ≤ tp C L j * 10 ^ (n - j) := Nat.mul_le_mul_right _ h
  have h4 : V * 10 ^ L < tp C L j * 10 ^ (n - j) * 10 ^ L := Nat.mul_lt_mul_of_pos_right (Nat.lt_of_lt_of_le h1 h3) (Nat.pow_pos (by decide))
  have h5 : tp C L j * 10 ^ (L - j) * 10 ^ n ≤ C * 10 ^ n := Nat.mul_le_mul_right _ h2
  have e : tp C L j * 10 ^ (n - j) * 10 ^ L = tp C L j * 10 ^ (L - j) * 10 ^ n := by
    rw [Nat.mul_assoc, Nat.mul_assoc, ← Nat.pow_add, ← Nat.pow_add]; congr 2; omega
  omega
theorem pl_eq {V n C L j : Nat} (hn : j = n) (hL : j < L) (h : tp V n j = tp C L j) (hC : C % 10 ≠ 0) : V * 10 ^ L < C * 10 ^ n := by
  subst hn
  rw [tp_all] at h
  have h2 := tp_le C L j
  rw [← h] at h2
  have h3 : V * 10 ^ (L - j) ≠ C := by
    intro hc
    rw [← hc, show L - j = (L - j - 1) + 1 by omega, Nat.pow_succ, ← Nat.mul_assoc, Nat.mul_mod_left] at hC
    exact hC rfl
  have h4 : V * 10 ^ (L - j) < C := by omega
  have h5 := Nat.mul_lt_mul_of_pos_right h4 (Nat.pow_pos (by decide : 0 < 10) (n := j))
  have e : V * 10 ^ (L - j) * 10 ^ j = V * 10 ^ L := by rw [Nat.mul_assoc, ← Nat.pow_add]; congr 2; omega
  omega
theorem pl_all {V n C L : Nat} (hL : L ≤ n) (h : tp V n L = tp C L L) : ¬ V * 10 ^ L < C * 10 ^ n := by
  rw [tp_all] at h
  have h2 := tp_le V n L
  rw [h] at h2
  have h5 := Nat.mul_le_mul_right (10 ^ L) h2
  have e : C * 10 ^ (n - L) * 10 ^ L = C * 10 ^ n := by rw [Nat.mul_assoc, ← Nat.pow_add]; congr 2; omega
  omega
theorem pl_more {V n C L j : Nat} (hn : j ≤ n) (hL : j ≤ L) (h : tp C L j < tp V n j) : ¬ V * 10 ^ L < C * 10 ^ n := by
  have := pl_less hL hn h
  omega
/-- A row of the table: the new digits, and the digits of 5^k. -/
theorem cheat_row : ∀ k, k ≤ 60 → ∃ d s, Pinned.cheatRows[k]? = some (d, s) ∧ d = dl k ∧ (1 ≤ k → s.length = k - dl k + 1 ∧ 5 ^ k < 10 ^ s.length ∧ 5 ^ k % 10 ≠ 0 ∧ ∀ i, i < s.length → (s.getD i 0).toNat = 48 + dg (5 ^ k) s.length i) := by
  have h : (List.range 61).all (fun k => match Pinned.cheatRows[k]? with
    | none => false
    | some (d, s) => d == dl k && (k == 0 || (s.length == k - dl k + 1 && decide (5 ^ k < 10 ^ s.length) && decide (5 ^ k % 10 ≠ 0) && (List.range s.length).all (fun i => (s.getD i 0).toNat == 48 + dg (5 ^ k) s.length i)))) = true := by decide +kernel
  intro k hk
  have h1 := List.all_eq_true.1 h k (by simp; omega)
  cases hr : Pinned.cheatRows[k]? with
  | none => rw [hr] at h1; cases h1
  | some r =>
    obtain ⟨d, s⟩ := r
    rw [hr] at h1
    simp only [Bool.and_eq_true, Bool.or_eq_true, beq_iff_eq, decide_eq_true_eq] at h1
    refine ⟨d, s, rfl, h1.1, fun h0 => ?_⟩
    rcases h1.2 with h2 | ⟨⟨⟨h2, h3⟩, h4⟩, h5⟩
    · omega
    · refine ⟨h2, h3, h4, fun i hi => ?_⟩
      have := List.all_eq_true.1 h5 i (by simp; exact hi)
      simpa using this
end
end Go.Proofs.YtpebnofjcodikaaGreatDoor
