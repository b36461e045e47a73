/- strconv's decimal shifted to the right, plainly. strconv's decimal: rightShift. strconv's decimal: Shift. -/
import Derived.Test.YtpebnofjcodikaaGreatDoorPGPfA
import Derived.Test.YtpebnofjcodikaaGreatDoorPGPfM
import Derived.Deep.LoopGhost
import Derived.Test.YtpebnofjcodikaaGreatDoorPPfL
namespace Go.Proofs.YtpebnofjcodikaaGreatDoor
section
open Go
set_option linter.unusedVariables false
set_option linter.unusedSimpArgs false
/-- The first r digits, as a number; noughts behind the last one. -/
def yr (V n r : Nat) : Nat := V * 10 ^ r / 10 ^ n
theorem yr_zero {V n : Nat} (h : V < 10 ^ n) : yr V n 0 = 0 := by unfold yr; rw [Nat.pow_zero, Nat.mul_one]; exact Nat.div_eq_of_lt h
theorem yr_far {V n r : Nat} (h : n ≤ r) : yr V n r = V * 10 ^ (r - n) := by
  unfold yr
  rw [show r = (r - n) + n by omega, Nat.pow_add, ← Nat.mul_assoc, Nat.mul_div_cancel _ (Nat.pow_pos (by decide)), show (r - n) + n - n = r - n by omega]
theorem yr_tp {V n r : Nat} (h : r ≤ n) : yr V n r = tp V n r := by
  unfold yr tp
  have e : (10 : Nat) ^ n = 10 ^ (n - r) * 10 ^ r := by rw [← Nat.pow_add]; congr 1; omega
  rw [e, Nat.mul_div_mul_right _ _ (Nat.pow_pos (by decide))]
/-- The digit that comes next; a nought behind the last one. -/
def dgz (V n r : Nat) : Nat := if r < n then dg V n r else 0
theorem dgz_lt (V n r : Nat) : dgz V n r < 10 := by unfold dgz; split; { exact dg_lt V n r }; { omega }
theorem yr_step (V n r : Nat) : yr V n (r + 1) = yr V n r * 10 + dgz V n r := by
  unfold dgz
  by_cases h : r < n
  · rw [if_pos h, yr_tp (by omega), yr_tp (by omega), tp_step h]
  · rw [if_neg h, yr_far (by omega), yr_far (by omega), show r + 1 - n = (r - n) + 1 by omega, Nat.pow_succ, ← Nat.mul_assoc, Nat.add_zero]
theorem yr_back {V n r E : Nat} (h : r ≤ E) : yr V n E / 10 ^ (E - r) = yr V n r := by
  unfold yr
  rw [Nat.div_div_eq_div_mul, show (10 : Nat) ^ E = 10 ^ r * 10 ^ (E - r) by rw [← Nat.pow_add]; congr 1; omega, ← Nat.mul_assoc, Nat.mul_div_mul_right _ _ (Nat.pow_pos (by decide))]
/-- From where on the shifted number has a digit. -/
def fr (V n k : Nat) : Nat → Nat → Nat
  | 0, r => r
  | f + 1, r => if 2 ^ k ≤ yr V n r then r else fr V n k f (r + 1)
theorem fr_stop {V n k f r : Nat} (h : 2 ^ k ≤ yr V n r) : fr V n k f r = r := by cases f <;> simp [fr, h]
theorem fr_go {V n k f r : Nat} (h : ¬ 2 ^ k ≤ yr V n r) : fr V n k (f + 1) r = fr V n k f (r + 1) := by simp [fr, h]
theorem yr_big {V n k : Nat} (h : 1 ≤ V) : 2 ^ k ≤ yr V n (n + k) := by
  rw [yr_far (by omega), show n + k - n = k by omega]
  have h1 : (2 : Nat) ^ k ≤ 10 ^ k := Nat.pow_le_pow_left (by decide) k
  have h2 : 1 * 10 ^ k ≤ V * 10 ^ k := Nat.mul_le_mul_right _ h
  omega
theorem fr_spec {V n k : Nat} (hV : 1 ≤ V) : ∀ f r, n + k + 1 ≤ f + r → r ≤ n + k → (∀ i, i < r → yr V n i < 2 ^ k) → 2 ^ k ≤ yr V n (fr V n k f r) ∧ r ≤ fr V n k f r ∧ fr V n k f r ≤ n + k ∧ ∀ i, i < fr V n k f r → yr V n i < 2 ^ k := by
  intro f
  induction f with
  | zero => intro r h1 h2; omega
  | succ f ih =>
    intro r h1 h2 h3
    by_cases h : 2 ^ k ≤ yr V n r
    · rw [fr_stop h]; exact ⟨h, Nat.le_refl _, h2, h3⟩
    · rw [fr_go h]
      have hr : r ≠ n + k := fun hc => h (by rw [hc]; exact yr_big hV)
      obtain ⟨a1, a2, a3, a4⟩ := ih (r + 1) (by omega) (by omega) (fun i hi => by
        by_cases hir : i = r
        · subst hir; omega
        · exact h3 i (by omega))
      exact ⟨a1, by omega, a3, a4⟩
def rR (V n k : Nat) : Nat := fr V n k (n + k + 1) 0
theorem rR_spec {V n k : Nat} (hV : 1 ≤ V) (hn : V < 10 ^ n) : 2 ^ k ≤ yr V n (rR V n k) ∧ 1 ≤ rR V n k ∧ rR V n k ≤ n + k ∧ yr V n (rR V n k) < 10 * 2 ^ k := by
  obtain ⟨a1, a2, a3, a4⟩ := fr_spec (V := V) (n := n) (k := k) hV (n + k + 1) 0 (by omega) (by omega) (fun i hi => absurd hi (by omega))
  have h1 : 1 ≤ rR V n k := by
    refine Nat.pos_of_ne_zero fun hc => ?_
    unfold rR at hc
    rw [hc, yr_zero hn] at a1
    have := Nat.two_pow_pos k
    omega
  refine ⟨a1, h1, a3, ?_⟩
  have h2 := a4 (rR V n k - 1) (by unfold rR at h1 ⊢; omega)
  have h3 := yr_step V n (rR V n k - 1)
  rw [show rR V n k - 1 + 1 = rR V n k by omega] at h3
  have h4 := dgz_lt V n (rR V n k - 1)
  omega
/-- Where nothing is left. -/
def fe (V n k : Nat) : Nat → Nat → Nat
  | 0, r => r
  | f + 1, r => if yr V n r % (10 * 2 ^ k) = 0 then r else fe V n k f (r + 1)
theorem fe_stop {V n k f r : Nat} (h : yr V n r % (10 * 2 ^ k) = 0) : fe V n k f r = r := by cases f <;> simp [fe, h]
theorem fe_go {V n k f r : Nat} (h : ¬ yr V n r % (10 * 2 ^ k) = 0) : fe V n k (f + 1) r = fe V n k f (r + 1) := by simp [fe, h]
theorem yr_end {V n k r : Nat} (h : n + k + 1 ≤ r) : yr V n r % (10 * 2 ^ k) = 0 := by
  rw [yr_far (by omega)]
  have e : (10 : Nat) ^ (r - n) = 10 ^ (r - n - (k + 1)) * (5 ^ k * (10 * 2 ^ k)) := by
    have e1 : (10 : Nat) ^ k = 5 ^ k * 2 ^ k := by rw [← Nat.mul_pow]
    have e2 : 5 ^ k * (10 * 2 ^ k) = 10 ^ (k + 1) := by rw [Nat.pow_succ, e1]; simp only [Nat.mul_assoc, Nat.mul_comm, Nat.mul_left_comm]
    rw [e2, ← Nat.pow_add]; congr 1; omega
  rw [e, ← Nat.mul_assoc, ← Nat.mul_assoc, Nat.mul_mod_left]
theorem fe_spec {V n k : Nat} : ∀ f r, n + k + 2 ≤ f + r → r ≤ n + k + 1 → yr V n (fe V n k f r) % (10 * 2 ^ k) = 0 ∧ r ≤ fe V n k f r ∧ fe V n k f r ≤ n + k + 1 := by
  intro f
  induction f with
  | zero => intro r h1 h2; omega
  | succ f ih =>
    intro r h1 h2
    by_cases h : yr V n r % (10 * 2 ^ k) = 0
    · rw [fe_stop h]; exact ⟨h, Nat.le_refl _, h2⟩
    · rw [fe_go h]
      have hr : r ≠ n + k + 1 := fun hc => h (yr_end (by omega))
      obtain ⟨a1, a2, a3⟩ := ih (r + 1) (by omega) (by omega)
      exact ⟨a1, by omega, a3⟩
def rE (V n k : Nat) : Nat := fe V n k (n + k + 2) (max n (rR V n k))
def rO (V n k : Nat) : Nat := yr V n (rE V n k) / (10 * 2 ^ k)
def rW (V n k : Nat) : Nat := rE V n k - rR V n k
/-- Shifted to the right by k. -/
def rsh (k : Nat) (s : DS) : DS :=
  trimS ⟨cutV (rO s.V s.n k) (rW s.V s.n k), cutN (rW s.V s.n k), s.dp - ((rR s.V s.n k : Int) - 1), s.tr || decide (lw (rO s.V s.n k) (rW s.V s.n k - cK) ≠ 0)⟩
theorem rE_spec {V n k : Nat} (hV : 1 ≤ V) (hn : V < 10 ^ n) : yr V n (rE V n k) % (10 * 2 ^ k) = 0 ∧ n ≤ rE V n k ∧ rR V n k < rE V n k ∧ rE V n k ≤ n + k + 1 := by
  obtain ⟨a1, a2, a3, a4⟩ := rR_spec (k := k) hV hn
  obtain ⟨b1, b2, b3⟩ := fe_spec (V := V) (n := n) (k := k) (n + k + 2) (max n (rR V n k)) (by omega) (by omega)
  have hne : rR V n k ≠ rE V n k := by
    intro hc
    rw [← rE, ← hc, Nat.mod_eq_of_lt a4] at b1
    have := Nat.two_pow_pos k
    omega
  exact ⟨b1, Nat.le_trans (Nat.le_max_left _ _) b2, Nat.lt_of_le_of_ne (Nat.le_trans (Nat.le_max_right _ _) b2) hne, b3⟩
/-- The answer's digits. -/
theorem rO_dg {V n k r : Nat} (h1 : rR V n k ≤ r) (h2 : r < rE V n k) : dg (rO V n k) (rW V n k) (r - rR V n k) = yr V n r / 2 ^ k % 10 := by
  unfold dg rO rW
  rw [show rE V n k - rR V n k - 1 - (r - rR V n k) = rE V n k - 1 - r by omega, Nat.div_div_eq_div_mul]
  have e : 10 * 2 ^ k * 10 ^ (rE V n k - 1 - r) = 10 ^ (rE V n k - r) * 2 ^ k := by
    rw [show rE V n k - r = (rE V n k - 1 - r) + 1 by omega, Nat.pow_succ]; simp only [Nat.mul_assoc, Nat.mul_comm, Nat.mul_left_comm]
  rw [e, ← Nat.div_div_eq_div_mul, yr_back (by omega)]
theorem rO_size {V n k : Nat} (hV : 1 ≤ V) (hn : V < 10 ^ n) : rO V n k < 10 ^ rW V n k ∧ 10 ^ (rW V n k - 1) ≤ rO V n k ∧ 1 ≤ rW V n k := by
  obtain ⟨a1, a2, a3, a4⟩ := rR_spec (k := k) hV hn
  obtain ⟨b1, b2, b3, b4⟩ := rE_spec (k := k) hV hn
  have hb := yr_back (V := V) (n := n) (Nat.le_of_lt b3)
  unfold rO rW
  generalize rE V n k = E at *
  generalize rR V n k = R at *
  have hp : 0 < (10 : Nat) ^ (E - R) := Nat.pow_pos (by decide)
  have h2 : 0 < (2 : Nat) ^ k := Nat.two_pow_pos k
  have hd := Nat.div_add_mod (yr V n E) (10 ^ (E - R))
  have hm := Nat.mod_lt (yr V n E) hp
  rw [hb] at hd
  refine ⟨?_, ?_, by omega⟩
  · rw [Nat.div_lt_iff_lt_mul (by omega)]
    have h5 : 10 ^ (E - R) * (yr V n R + 1) ≤ 10 ^ (E - R) * (10 * 2 ^ k) := Nat.mul_le_mul_left _ a4
    rw [Nat.mul_add] at h5
    omega
  · rw [Nat.le_div_iff_mul_le (by omega)]
    have h5 : 10 ^ (E - R) * 2 ^ k ≤ 10 ^ (E - R) * yr V n R := Nat.mul_le_mul_left _ a1
    have e : 10 ^ (E - R - 1) * (10 * 2 ^ k) = 10 ^ (E - R) * 2 ^ k := by
      rw [← Nat.mul_assoc, ← Nat.pow_succ]; congr 2; omega
    omega
theorem rsh_nrm {k : Nat} {s : DS} (h : Nrm s) : Nrm (rsh k s) ∧ (rsh k s).dp = s.dp - ((rR s.V s.n k : Int) - 1) := by
  obtain ⟨c1, c2, c3⟩ := rO_size (k := k) h.pos h.hi
  unfold rsh
  exact trim_nrm (by unfold cutN; have := cK_eq; omega) (cutN_le _) (cut_hi c1) (cut_lo c2 c3)
/-- What is in hand at r, and the next. -/
def mr (V n k r : Nat) : Nat := yr V n r % (10 * 2 ^ k)
theorem mr_lt (V n k r : Nat) : mr V n k r < 10 * 2 ^ k := Nat.mod_lt _ (by have := Nat.two_pow_pos k; omega)
theorem mr_dig (V n k r : Nat) : mr V n k r / 2 ^ k = yr V n r / 2 ^ k % 10 := by
  unfold mr
  rw [Nat.mul_comm, Nat.mod_mul_right_div_self]
theorem mr_step (V n k r : Nat) : mr V n k r % 2 ^ k * 10 + dgz V n r = mr V n k (r + 1) := by
  unfold mr
  have h2 : 0 < (2 : Nat) ^ k := Nat.two_pow_pos k
  rw [yr_step, Nat.mod_mul_left_mod]
  have e1 := Nat.div_add_mod (yr V n r) (2 ^ k)
  have e2 := Nat.mod_lt (yr V n r) h2
  have e3 := dgz_lt V n r
  generalize yr V n r / 2 ^ k = q at *
  generalize yr V n r % 2 ^ k = m at *
  generalize (2 : Nat) ^ k = p at *
  generalize dgz V n r = d at *
  rw [← e1]
  have e4 : (p * q + m) * 10 + d = (m * 10 + d) + (10 * p) * q := by
    rw [Nat.add_mul]
    have : p * q * 10 = 10 * p * q := by rw [Nat.mul_comm (p * q) 10, Nat.mul_assoc]
    omega
  rw [e4, Nat.add_mul_mod_self_left, Nat.mod_eq_of_lt (by omega)]
theorem mr_start {V n k : Nat} (hV : 1 ≤ V) (hn : V < 10 ^ n) : mr V n k (rR V n k) = yr V n (rR V n k) := Nat.mod_eq_of_lt (rR_spec hV hn).2.2.2
/-- Was something dropped, behind w digits? -/
def drq (O W w : Nat) : Bool := decide (lw (tp O W w) (w - cK) ≠ 0)
theorem drq_zero (O W w : Nat) (h : w ≤ cK) : drq O W w = false := by unfold drq lw; rw [show w - cK = 0 by omega]; simp [Nat.mod_one]
theorem drq_all (O W : Nat) : drq O W W = decide (lw O (W - cK) ≠ 0) := by unfold drq; rw [tp_all]
theorem drq_step {O W w : Nat} (hw : w < W) (h : cK ≤ w) : drq O W (w + 1) = (drq O W w || decide (dg O W w ≠ 0)) := by
  unfold drq lw
  rw [tp_step hw, show w + 1 - cK = (w - cK) + 1 by omega, Nat.pow_succ, Nat.mul_comm (10 ^ (w - cK)) 10, Nat.mod_mul]
  have h1 := dg_lt O W w
  rw [show (tp O W w * 10 + dg O W w) % 10 = dg O W w by omega, show (tp O W w * 10 + dg O W w) / 10 = tp O W w by omega]
  generalize tp O W w % 10 ^ (w - cK) = z
  generalize dg O W w = d
  rw [Bool.eq_iff_iff, Bool.or_eq_true, decide_eq_true_eq, decide_eq_true_eq, decide_eq_true_eq]
  omega
end
section
open Go Go.ChangeShapes Go.WideShapes Go.RowKit
set_option linter.unusedVariables false
set_option linter.unusedSimpArgs false
/-- While digits are put down: up to r. -/
structure RSx (wr : World) (w : World) (b : Nat) (V n O W R : Nat) (dp : Int) (ng tr : Bool) (r : Nat) : Prop where
  ex : ∃ g, DB wr b g n dp ng (tr || drq O W (r - R)) ∧ (∀ i, r ≤ i → i < n → g i = 48 + dg V n i) ∧ (∀ i, i < r - R → i < 800 → g i = 48 + dg O W i)
  x : Below b w wr
theorem RSx.step_in {wr w : World} {b V n O W R : Nat} {dp : Int} {ng tr : Bool} {r d : Nat} (h : RSx wr w b V n O W R dp ng tr r) (hR : R ≤ r) (hR1 : 1 ≤ R) (h8 : r - R < 800) (hd : d = dg O W (r - R)) :
    RSx (wr.setCell ⟨b, r - R, none⟩ (.int .u8 ((d + 48 : Nat) : Int))) w b V n O W R dp ng tr (r + 1) := by
  obtain ⟨g, h1, h2, h3⟩ := h.ex
  have hdl := dg_lt O W (r - R)
  have hK := cK_eq
  refine ⟨⟨updG g (r - R) (d + 48), ?_, fun i hi hin => ?_, fun i hi hi8 => ?_⟩, h.x.setCell (Nat.le_refl _) _⟩
  · rw [drq_zero _ _ _ (by omega)]
    rw [drq_zero _ _ _ (by omega)] at h1
    exact h1.setD h8 (by omega)
  · unfold updG
    rw [if_neg (by omega)]
    exact h2 i (by omega) hin
  · unfold updG
    by_cases he : i = r - R
    · rw [if_pos he, he, hd]; omega
    · rw [if_neg he]
      exact h3 i (by omega) hi8
theorem RSx.step_out {wr w : World} {b V n O W R : Nat} {dp : Int} {ng tr : Bool} {r d : Nat} (h : RSx wr w b V n O W R dp ng tr r) (hR : R ≤ r) (hW : r - R < W) (h8 : ¬ r - R < 800) (hd : d = dg O W (r - R)) :
    (d ≠ 0 → RSx (wr.setCell ⟨b, 803, none⟩ (.bool true)) w b V n O W R dp ng tr (r + 1)) ∧ (d = 0 → RSx wr w b V n O W R dp ng tr (r + 1)) := by
  obtain ⟨g, h1, h2, h3⟩ := h.ex
  have hK := cK_eq
  have hdr := drq_step (O := O) hW (by omega)
  have e : r + 1 - R = r - R + 1 := by omega
  constructor
  · intro h0
    refine ⟨⟨g, ?_, fun i hi hin => h2 i (by omega) hin, fun i hi hi8 => h3 i (by omega) hi8⟩, h.x.setCell (Nat.le_refl _) _⟩
    rw [e, hdr, show decide (dg O W (r - R) ≠ 0) = true by rw [← hd]; simpa using h0]
    simp only [Bool.or_true]
    exact h1.setT true
  · intro h0
    refine ⟨⟨g, ?_, fun i hi hin => h2 i (by omega) hin, fun i hi hi8 => h3 i (by omega) hi8⟩, h.x⟩
    rw [e, hdr, show decide (dg O W (r - R) ≠ 0) = false by rw [← hd, h0]; rfl, Bool.or_false]
    exact h1
theorem and_mask (m k : Nat) (hm : m < 18446744073709551616) (hk : k ≤ 60) : bits .and .u64 (m : Int) ((2 ^ k - 1 : Nat) : Int) = ((m % 2 ^ k : Nat) : Int) := by
  have hp : (2 : Nat) ^ k ≤ 2 ^ 60 := Nat.pow_le_pow_right (by decide) hk
  have hp2 : (2 : Nat) ^ 60 = 1152921504606846976 := by rfl
  have h := u64_and_nat m (2 ^ k - 1) hm (by omega)
  rw [Nat.and_two_pow_sub_one_eq_mod] at h
  exact h
set_option maxRecDepth 100000 in
set_option maxHeartbeats 8000000 in
theorem right_any (b k : Nat) (s : DS) (ng : Bool) (w : World) (hN : Nrm s) (h1 : 1 ≤ k) (h2 : k ≤ 60) (hdp : -100000 ≤ s.dp ∧ s.dp ≤ 100000) (hM : DM w b s ng) :
    Calls Tryz.prog 217 #[.pointer (some ⟨b, 0, none⟩), .int .u64 (k : Int)] w fun e w' => e = .returned (.tuple #[]) ∧ DM w' b (rsh k s) ng ∧ Below b w w' := by
  obtain ⟨V, n, dp, tr⟩ := s
  obtain ⟨g, hD, hg⟩ := hM.ex
  have hV := hN.pos
  have hhi := hN.hi
  have hn8 := hN.n8
  have hn1 := hN.n1
  simp only at hV hhi hn8 hn1 hdp hD hg
  obtain ⟨R, hR⟩ : ∃ R, rR V n k = R := ⟨_, rfl⟩
  obtain ⟨E, hE⟩ : ∃ E, rE V n k = E := ⟨_, rfl⟩
  obtain ⟨O, hO⟩ : ∃ O, rO V n k = O := ⟨_, rfl⟩
  obtain ⟨W, hW⟩ : ∃ W, rW V n k = W := ⟨_, rfl⟩
  have hRs := rR_spec (k := k) hV hhi
  have hEs := rE_spec (k := k) hV hhi
  have hOd := fun r => @rO_dg V n k r
  have hms := mr_start (k := k) hV hhi
  have hRd : fr V n k (n + k + 1) 0 = R := hR
  have hEd : fe V n k (n + k + 2) (max n R) = E := by rw [← hE, ← hR]; rfl
  have hWe : W = E - R := by rw [← hW, ← hE, ← hR]; rfl
  rw [hR] at hRs hms hEs hOd
  rw [hE] at hEs hOd
  rw [hO, hW] at hOd
  have HE := Lib.hid (show rsh k ⟨V, n, dp, tr⟩ = trimS ⟨cutV O W, cutN W, dp - ((R : Int) - 1), tr || decide (lw O (W - cK) ≠ 0)⟩ by unfold rsh; simp only [hR, hO, hW])
  obtain ⟨S, hSS⟩ : ∃ S, rsh k ⟨V, n, dp, tr⟩ = S := ⟨_, rfl⟩
  rw [hSS] at HE ⊢
  have hp60 : (2 : Nat) ^ k ≤ 1152921504606846976 := by
    have : (2 : Nat) ^ k ≤ 2 ^ 60 := Nat.pow_le_pow_right (by decide) (by omega)
    exact this
  have hp0 : 0 < (2 : Nat) ^ k := Nat.two_pow_pos k
  have HRs := Lib.hid hRs
  have HEs := Lib.hid hEs
  have HOd := Lib.hid hOd
  have HMS := Lib.hid hms
  have HRd := Lib.hid hRd
  have HEd := Lib.hid hEd
  have HWe := Lib.hid hWe
  have HP := Lib.hid hp60
  have HP0 := Lib.hid hp0
  have HD := Lib.hid hD
  have HG := Lib.hid hg
  have hnI : (n : Int) ≤ 800 := by omega
  have hkI : (k : Int) ≤ 60 := by omega
  have hRI : (R : Int) ≤ 860 := by omega
  have hRI1 : (1 : Int) ≤ (R : Int) := by omega
  have HY0 := Lib.hid (yr_zero hhi)
  have HV := Lib.hid hV
  have HN1 := Lib.hid hn1
  have HDP := Lib.hid (show IntKind.i64.wrap (dp - ((R : Int) - 1)) = dp - ((R : Int) - 1) from IntWalk.i64_in _ (by omega))
  clear hN hM hhi hn8 hR hE hO hW hRs hEs hOd hms hRd hEd hWe hSS hp60 hp0 hD hg hV hn1 h1
  go_enter Tryz.func217, Tryz.ntmps217
  go_wp2_with fail
  go_loopw [4, 6, 7] (fun s4 s6 s7 wr => ∃ r f : Nat, s4 = .int .i64 (r : Int) ∧ s6 = .int .u64 ((yr V n r : Nat) : Int) ∧ fr V n k f r = R ∧ n + k + 1 ≤ f + r ∧ r ≤ n ∧ w = wr) (fun s4 s6 s7 wr => (900 - RowKit.intOf s4).toNat)
  case atStart => exact ⟨0, n + k + 1, rfl, by rw [HY0.out]; rfl, HRd.out, by omega, by omega, rfl⟩
  case round =>
    obtain ⟨r, f, rfl, rfl, hf, hfr, hrn, rfl⟩ := hrel
    have HF := Lib.hid hf
    clear hf
    obtain ⟨Y, hY⟩ : ∃ Y, yr V n r = Y := ⟨_, rfl⟩
    obtain ⟨Z, hZ⟩ : ∃ Z, Y / 2 ^ k = Z := ⟨_, rfl⟩
    have hZI : (Y : Int) / 2 ^ k = (Z : Int) := by rw [← hZ]; push_cast; rfl
    have hrI : (r : Int) ≤ 800 := by omega
    rw [hY]
    by_cases hz : 2 ^ k ≤ Y
    · have hZ0 : ¬ (Z : Int) = 0 := by
        have h := Nat.div_pos hz HP0.out
        omega
      have hrR : r = R := by rw [← HF.out]; exact (fr_stop (by rw [hY]; exact hz)).symm
      subst hrR
      have hm0 : Y = mr V n k r := by rw [HMS.out, hY]
      rw [hm0] at hZI ⊢
      have HSX := Lib.hid (show RSx (w.setCell ⟨b, 801, none⟩ (.int .i64 (dp - ((r : Int) - 1)))) w b V n O W r (dp - ((r : Int) - 1)) ng tr r from ⟨⟨g, by rw [Nat.sub_self, drq_zero _ _ _ (by omega), Bool.or_false]; exact HD.out.setP _, fun i _ hi => HG.out i hi, fun i hi => absurd hi (by omega)⟩, by exact (Below.refl b w).setCell (Nat.le_refl _) _⟩)
      clear hz hY hZ hm0 HF hfr hrn
      have cd := HD.out.cd
      have fd := HD.out.f 801 (by omega)
      have hdpw := HDP.out
      obtain ⟨Mk, hMk⟩ : ∃ Mk, 2 ^ k - 1 = Mk := ⟨_, rfl⟩
      have HAM := Lib.hid (fun m hm => and_mask m k hm h2)
      rw [hMk] at HAM
      have HMK := Lib.hid (show IntKind.u64.wrap (IntKind.u64.wrap ((2 : Int) ^ k) - 1) = (Mk : Int) by
        have e1 : (2 : Int) ^ k = ((2 ^ k : Nat) : Int) := by push_cast; rfl
        have e2 := HP.out
        have e3 := HP0.out
        have e4 := hMk
        obtain ⟨P, hP⟩ : ∃ P, 2 ^ k = P := ⟨_, rfl⟩
        rw [hP] at e1 e2 e3 e4
        rw [e1, IntWalk.u64_in ((P : Nat) : Int) (by omega), IntWalk.u64_in _ (by omega)]; omega)
      clear hMk
      go_upto_region 14 with fail
      have hmk := HMK.out
      go_upto_region 15 with fail
      obtain ⟨Wd, hWd⟩ : ∃ Wd, w.setCell ⟨b, 801, none⟩ (.int .i64 (dp - ((r : Int) - 1))) = Wd := ⟨_, rfl⟩
      rw [hWd] at HSX
      rw [hWd]
      clear hmk hWd cd fd hdpw hZI hZ0
      go_loopw [4, 5, 6, 9, 10] (fun s4 s5 s6 s9 s10 wr => ∃ q : Nat, s4 = .int .i64 (q : Int) ∧ s5 = .int .i64 ((q : Int) - (r : Int)) ∧ s6 = .int .u64 ((mr V n k q : Nat) : Int) ∧ r ≤ q ∧ q ≤ max n r ∧ RSx wr w b V n O W r (dp - ((r : Int) - 1)) ng tr q) (fun s4 s5 s6 s9 s10 wr => (900 - RowKit.intOf s4).toNat)
      case atStart => exact ⟨r, rfl, by simp, rfl, Nat.le_refl _, Nat.le_max_right _ _, HSX.out⟩
      case round =>
        obtain ⟨q, rfl, rfl, rfl, hRq, hqn, hS2⟩ := hrel
        have HS2 := Lib.hid hS2
        clear hS2
        by_cases hlt : q < n
        · have hltI : (q : Int) < (n : Int) := by omega
          have hqE : q < E := by have := HEs.out.2.1; omega
          have hqW : q - r < W := by rw [HWe.out]; omega
          obtain ⟨g2, k1, k2, k3⟩ := HS2.out.ex
          have cn := k1.cn
          have cq := k1.c q (by omega)
          have hgq := k2 q (Nat.le_refl _) hlt
          have hd10 := dg_lt V n q
          have hst := mr_step V n k q
          rw [show dgz V n q = dg V n q by unfold dgz; rw [if_pos hlt]] at hst
          have hdd := mr_dig V n k q
          rw [← HOd.out q hRq hqE] at hdd
          have hml := mr_lt V n k q
          have hm2l := Nat.mod_lt (mr V n k q) HP0.out
          have hp6 := HP.out
          obtain ⟨m, hm⟩ : ∃ m, mr V n k q = m := ⟨_, rfl⟩
          rw [hm] at hst hdd hml hm2l
          obtain ⟨m2, hm2⟩ : ∃ m2, m % 2 ^ k = m2 := ⟨_, rfl⟩
          rw [hm2] at hst hm2l
          have hand := HAM.out m (by omega)
          rw [hm2] at hand
          obtain ⟨dd, hddE⟩ : ∃ dd, m / 2 ^ k = dd := ⟨_, rfl⟩
          rw [hddE] at hdd
          have hsh : (m : Int) / 2 ^ k = (dd : Int) := by rw [← hddE]; push_cast; rfl
          have hdd9 : (dd : Int) ≤ 9 := by have := dg_lt O W (q - r); omega
          obtain ⟨x, hx⟩ : ∃ x, g2 q = x := ⟨_, rfl⟩
          rw [hx] at cq hgq
          obtain ⟨mn, hmn⟩ : ∃ mn, mr V n k (q + 1) = mn := ⟨_, rfl⟩
          rw [hmn] at hst
          have hx8 : (x : Int) ≤ 57 := by omega
          have hx9 : (48 : Int) ≤ (x : Int) := by omega
          have hm2I : (m2 : Int) ≤ 1152921504606846976 := by omega
          have HMW := Lib.hid (show IntKind.u64.wrap ((m2 : Int) * 10 + (x : Int) - 48) = (mn : Int) by rw [IntWalk.u64_in _ (by omega)]; omega)
          have HMN := Lib.hid hmn
          obtain ⟨om, hom⟩ : ∃ om, q - r = om := ⟨_, rfl⟩
          have homI : (q : Int) - (r : Int) = (om : Int) := by omega
          have hom8 : (om : Int) < 800 := by omega
          have HOM := Lib.hid (show ((q + 1 : Nat) : Int) - (r : Int) = (om : Int) + 1 by omega)
          rw [hom] at hdd
          have cc := k1.c om (by omega)
          have cf := k1.f om (by omega)
          have HN2 := Lib.hid (HS2.out.step_in (d := dd) hRq (by omega) (by omega) (by rw [hom]; exact hdd))
          rw [hom] at HN2
          rw [show ((dd + 48 : Nat) : Int) = (dd : Int) + 48 by omega] at HN2
          rw [hm, homI]
          have hq9 : (q : Int) ≤ 800 := by omega
          clear k1 k2 k3 hgq hd10 hst hdd hml hm2l hp6 hm hm2 hddE hx hmn hom homI
          go_upto_region 22 with fail
          clear cn cq cc cf hsh hand hdd9
          have hmw := HMW.out
          go_wp2_with fail
          exact ⟨⟨q + 1, by congr 1, by rw [HOM.out], by rw [HMN.out], by omega, by omega, HN2.out⟩, by simp only [RowKit.intOf]; omega⟩
        · have hltI : ¬ (q : Int) < (n : Int) := by omega
          obtain ⟨g2, k1, k2, k3⟩ := HS2.out.ex
          have cn := k1.cn
          have hqm : q = max n r := by omega
          have HEd2 := Lib.hid (show fe V n k (n + k + 2) q = E by rw [hqm]; exact HEd.out)
          clear k1 k2 k3 hqm
          go_wp2_with fail
          clear cn
          go_loopg [5, 6, 11] (n + k + 2 - q) (fun gk s5 s6 s11 wr => ∃ z f : Nat, gk = n + k + 2 - z ∧ s5 = .int .i64 ((min (z - r) 800 : Nat) : Int) ∧ s6 = .int .u64 ((mr V n k z : Nat) : Int) ∧ fe V n k f z = E ∧ n + k + 2 ≤ f + z ∧ n ≤ z ∧ r ≤ z ∧ z ≤ E ∧ RSx wr w b V n O W r (dp - ((r : Int) - 1)) ng tr z)
          case atStart => exact ⟨q, n + k + 2, rfl, by congr 1; omega, rfl, HEd2.out, by omega, by omega, by omega, by have h1 := HEs.out.2.1; have h2 := HEs.out.2.2.1; omega, HS2.out⟩
          case round =>
            clear HS2
            obtain ⟨z, f, hgk, rfl, rfl, hfe, hfz, hNz, hRz, hzE, hS2⟩ := hrel
            have HS2 := Lib.hid hS2
            have HFE := Lib.hid hfe
            have HGK := Lib.hid hgk
            clear hS2 hfe hgk
            have hE4 := HEs.out.2.2.2
            by_cases hm0 : mr V n k z = 0
            · have hzEE : z = E := by rw [← HFE.out]; exact (fe_stop hm0).symm
              subst hzEE
              obtain ⟨g3, k1, k2, k3⟩ := HS2.out.ex
              rw [show z - r = W from HWe.out.symm, drq_all] at k1
              rw [show z - r = W from HWe.out.symm] at k3
              have hcN : min (z - r) 800 = cutN W := by unfold cutN; have := cK_eq; rw [HWe.out]; omega
              rw [hm0, hcN]
              have HK := Lib.hid k1
              have c800 := k1.cn
              have f800 := k1.f 800 (by omega)
              have hG3 : Dgs g3 (cutV O W) (cutN W) := fun x hx => by
                rw [cut_dg hx]
                have h1 : x < W := by unfold cutN at hx; omega
                have h2 : x < 800 := by have := cutN_le W; omega
                exact k3 x h1 h2
              have HG3 := Lib.hid hG3
              have HX2 := Lib.hid HS2.out.x
              have hcNI : ((cutN W : Nat) : Int) ≤ 800 := by have := cutN_le W; omega
              have HTR := Lib.hid (fun W' (hW : DB W' b g3 (cutN W) (dp - ((r : Int) - 1)) ng (tr || decide (lw O (W - cK) ≠ 0))) => trim_any b (cutV O W) (cutN W) (dp - ((r : Int) - 1)) ng (tr || decide (lw O (W - cK) ≠ 0)) g3 W' (cutN_le W) hW HG3.out)
              have HD5 := Lib.hid (HK.out.setN (cutN W))
              clear k1 k2 k3 hG3 hm0 hcN
              go_wp2_with fail
              refine (HTR.out _ HD5.out).mono ?_
              rintro e w9 ⟨rfl, hDM, hb9⟩
              go_wp2_with fail
              refine ⟨rfl, .tuple #[], by simp [results, Tryz.results217, go_sem], rfl, ?_, ?_⟩
              · rw [HE.out]; exact hDM
              · exact (HX2.out.setCell (Nat.le_refl _) _).trans hb9
            · have hzlt : z < E := by
                refine Nat.lt_of_le_of_ne hzE fun hc => hm0 ?_
                subst hc
                exact HEs.out.1
              obtain ⟨f, rfl⟩ : ∃ f', f = f' + 1 := ⟨f - 1, by omega⟩
              have HF2 := Lib.hid (show fe V n k f (z + 1) = E by rw [← HFE.out]; exact (fe_go hm0).symm)
              have hzW : z - r < W := by rw [HWe.out]; omega
              have hst := mr_step V n k z
              rw [show dgz V n z = 0 by unfold dgz; rw [if_neg (by omega)]] at hst
              have hdd := mr_dig V n k z
              rw [← HOd.out z hRz hzlt] at hdd
              have hml := mr_lt V n k z
              have hm2l := Nat.mod_lt (mr V n k z) HP0.out
              have hp6 := HP.out
              obtain ⟨m, hm⟩ : ∃ m, mr V n k z = m := ⟨_, rfl⟩
              rw [hm] at hst hdd hml hm2l hm0
              obtain ⟨m2, hm2⟩ : ∃ m2, m % 2 ^ k = m2 := ⟨_, rfl⟩
              rw [hm2] at hst hm2l
              have hand := HAM.out m (by omega)
              rw [hm2] at hand
              obtain ⟨dd, hddE⟩ : ∃ dd, m / 2 ^ k = dd := ⟨_, rfl⟩
              rw [hddE] at hdd
              have hsh : (m : Int) / 2 ^ k = (dd : Int) := by rw [← hddE]; push_cast; rfl
              have hdd9 : (dd : Int) ≤ 9 := by have := dg_lt O W (z - r); omega
              obtain ⟨mn, hmn⟩ : ∃ mn, mr V n k (z + 1) = mn := ⟨_, rfl⟩
              rw [hmn] at hst
              have hm2I : (m2 : Int) ≤ 1152921504606846976 := by omega
              have hmw : (m2 : Int) * 10 = (mn : Int) := by omega
              have hm0I : (0 : Int) < (m : Int) := by omega
              have HMN := Lib.hid hmn
              have HMW := Lib.hid hmw
              obtain ⟨om, hom⟩ : ∃ om, z - r = om := ⟨_, rfl⟩
              rw [hom] at hdd hzW
              rw [hm]
              by_cases h8 : om < 800
              · have hmin : min (z - r) 800 = om := by omega
                have h8I : (om : Int) < 800 := by omega
                have HOM := Lib.hid (show ((min (z + 1 - r) 800 : Nat) : Int) = (om : Int) + 1 by omega)
                obtain ⟨g2, k1, k2, k3⟩ := HS2.out.ex
                have cc := k1.c om (by omega)
                have cf := k1.f om (by omega)
                have HN2 := Lib.hid (HS2.out.step_in (d := dd) hRz (by omega) (by omega) (by rw [hom]; exact hdd))
                rw [hom] at HN2
                rw [show ((dd + 48 : Nat) : Int) = (dd : Int) + 48 by omega] at HN2
                rw [hmin]
                clear k1 k2 k3 hst hdd hml hm2l hp6 hm hm2 hddE hmn hom hmin hm0 hmw
                go_upto_region 31 with fail
                have hmw := HMW.out
                clear cc cf hsh hand hdd9 hm0I
                go_wp2_with fail
                go_roundg (n + k + 2 - (z + 1))
                case measure => rw [HGK.out]; omega
                case rel => exact ⟨z + 1, f, rfl, by first | (rw [HOM.out]; done) | (rw [HOM.out]; rfl), by rw [HMN.out], HF2.out, by omega, by omega, by omega, by omega, HN2.out⟩
              · have hmin : min (z - r) 800 = 800 := by omega
                have HOM := Lib.hid (show ((min (z + 1 - r) 800 : Nat) : Int) = 800 by omega)
                obtain ⟨g2, k1, k2, k3⟩ := HS2.out.ex
                have ct := k1.ct
                have cf := k1.f 803 (by omega)
                have HN2 := Lib.hid (HS2.out.step_out (d := dd) hRz (by rw [hom]; exact hzW) (by omega) (by rw [hom]; exact hdd))
                rw [hmin]
                clear k1 k2 k3 hst hdd hml hm2l hp6 hm hm2 hddE hmn hom hmin hm0 hmw
                by_cases hd0 : dd = 0
                · have HN3 := Lib.hid (HN2.out.2 hd0)
                  subst hd0
                  clear HN2
                  go_upto_region 31 with fail
                  have hmw := HMW.out
                  clear ct cf hsh hand hdd9 hm0I
                  go_wp2_with fail
                  go_roundg (n + k + 2 - (z + 1))
                  case measure => rw [HGK.out]; omega
                  case rel => exact ⟨z + 1, f, rfl, by first | (rw [HOM.out]; done) | (rw [HOM.out]; rfl), by rw [HMN.out], HF2.out, by omega, by omega, by omega, by omega, HN3.out⟩
                · have HN3 := Lib.hid (HN2.out.1 hd0)
                  have hd0I : (0 : Int) < (dd : Int) := by omega
                  clear HN2 hd0
                  go_upto_region 31 with fail
                  have hmw := HMW.out
                  clear ct cf hsh hand hdd9 hm0I
                  go_wp2_with fail
                  go_roundg (n + k + 2 - (z + 1))
                  case measure => rw [HGK.out]; omega
                  case rel => exact ⟨z + 1, f, rfl, by first | (rw [HOM.out]; done) | (rw [HOM.out]; rfl), by rw [HMN.out], HF2.out, by omega, by omega, by omega, by omega, HN3.out⟩
    · have hZ0 : (Z : Int) = 0 := by
        have h := Nat.div_eq_of_lt (Nat.lt_of_not_le hz)
        omega
      have hYl : (Y : Int) ≤ 1152921504606846976 := by have := HP.out; omega
      obtain ⟨f, rfl⟩ : ∃ f', f = f' + 1 := ⟨f - 1, by omega⟩
      have HF2 := Lib.hid (show fr V n k f (r + 1) = R by rw [← HF.out]; exact (fr_go (by rw [hY]; exact hz)).symm)
      by_cases hlt : r < n
      · have hltI : (r : Int) < (n : Int) := by omega
        have cn := HD.out.cn
        have cr := HD.out.c r (by omega)
        have hgr := HG.out r hlt
        have hd10 := dg_lt V n r
        have hys := yr_step V n r
        rw [show dgz V n r = dg V n r by unfold dgz; rw [if_pos hlt], hY] at hys
        obtain ⟨x, hx⟩ : ∃ x, g r = x := ⟨_, rfl⟩
        rw [hx] at hgr cr
        have hx8 : (x : Int) ≤ 57 := by omega
        have hx9 : (48 : Int) ≤ (x : Int) := by omega
        obtain ⟨Y2, hY2⟩ : ∃ Y2, yr V n (r + 1) = Y2 := ⟨_, rfl⟩
        rw [hY2] at hys
        have HYw := Lib.hid (show IntKind.u64.wrap ((Y : Int) * 10 + (x : Int) - 48) = (Y2 : Int) by rw [IntWalk.u64_in _ (by omega)]; omega)
        have HY2 := Lib.hid hY2
        clear hz hY hZ hys hY2 hgr hx hd10 HF
        go_upto_region 12 with fail
        have hYw := HYw.out
        go_wp2_with fail
        exact ⟨⟨r + 1, f, by congr 1, by rw [HY2.out], HF2.out, by omega, by omega, trivial⟩, by simp only [RowKit.intOf]; omega⟩
      · have hrE : r = n := by omega
        subst hrE
        have cn := HD.out.cn
        have hYV : Y = V := by rw [← hY, yr_far (Nat.le_refl _), Nat.sub_self]; simp
        have hY0 : ¬ (Y : Int) = 0 := by have := HV.out; omega
        have HF3 := Lib.hid (show fr V r k (f + 1) r = R from HF.out)
        have HYY := Lib.hid hY
        clear hz hY hZ hYV hlt HF HF2
        go_upto_region 8 with fail
        go_loopw [4, 6] (fun s4 s6 wr => ∃ i f : Nat, s4 = .int .i64 (i : Int) ∧ s6 = .int .u64 ((yr V r i : Nat) : Int) ∧ fr V r k f i = R ∧ r + k + 1 ≤ f + i ∧ r ≤ i ∧ i ≤ 900 ∧ w = wr) (fun s4 s6 wr => (900 - RowKit.intOf s4).toNat)
        case atStart => exact ⟨r, f + 1, rfl, by rw [HYY.out], HF3.out, by omega, by omega, by omega, rfl⟩
        case round =>
          clear hZI hZ0 hYl hY0 HYY HF3 cn
          obtain ⟨i, f2, rfl, rfl, hf, hfr2, hri, hi9, rfl⟩ := hrel
          have HF := Lib.hid hf
          clear hf
          obtain ⟨Y, hY⟩ : ∃ Y, yr V r i = Y := ⟨_, rfl⟩
          obtain ⟨Z, hZ⟩ : ∃ Z, Y / 2 ^ k = Z := ⟨_, rfl⟩
          have hZI : (Y : Int) / 2 ^ k = (Z : Int) := by rw [← hZ]; push_cast; rfl
          have hiI : (i : Int) ≤ 900 := by omega
          rw [hY]
          by_cases hz : 2 ^ k ≤ Y
          · have hZ0 : ¬ (Z : Int) = 0 := by
              have h := Nat.div_pos hz HP0.out
              omega
            have hrR : i = R := by rw [← HF.out]; exact (fr_stop (by rw [hY]; exact hz)).symm
            subst hrR
            have hm0 : Y = mr V r k i := by rw [HMS.out, hY]
            rw [hm0] at hZI ⊢
            have HSX := Lib.hid (show RSx (w.setCell ⟨b, 801, none⟩ (.int .i64 (dp - ((i : Int) - 1)))) w b V r O W i (dp - ((i : Int) - 1)) ng tr i from ⟨⟨g, by rw [Nat.sub_self, drq_zero _ _ _ (by omega), Bool.or_false]; exact HD.out.setP _, fun j _ hj => HG.out j hj, fun j hj => absurd hj (by omega)⟩, by exact (Below.refl b w).setCell (Nat.le_refl _) _⟩)
            clear hz hY hZ hm0 HF hfr hrn hfr2
            have cd := HD.out.cd
            have fd := HD.out.f 801 (by omega)
            have hdpw := HDP.out
            obtain ⟨Mk, hMk⟩ : ∃ Mk, 2 ^ k - 1 = Mk := ⟨_, rfl⟩
            have HAM := Lib.hid (fun m hm => and_mask m k hm h2)
            rw [hMk] at HAM
            have HMK := Lib.hid (show IntKind.u64.wrap (IntKind.u64.wrap ((2 : Int) ^ k) - 1) = (Mk : Int) by
              have e1 : (2 : Int) ^ k = ((2 ^ k : Nat) : Int) := by push_cast; rfl
              have e2 := HP.out
              have e3 := HP0.out
              have e4 := hMk
              obtain ⟨P, hP⟩ : ∃ P, 2 ^ k = P := ⟨_, rfl⟩
              rw [hP] at e1 e2 e3 e4
              rw [e1, IntWalk.u64_in ((P : Nat) : Int) (by omega), IntWalk.u64_in _ (by omega)]; omega)
            clear hMk
            go_upto_region 14 with fail
            have hmk := HMK.out
            go_upto_region 15 with fail
            obtain ⟨Wd, hWd⟩ : ∃ Wd, w.setCell ⟨b, 801, none⟩ (.int .i64 (dp - ((i : Int) - 1))) = Wd := ⟨_, rfl⟩
            rw [hWd] at HSX
            rw [hWd]
            clear hmk hWd cd fd hdpw hZI hZ0
            go_loopw [4, 5, 6, 9, 10] (fun s4 s5 s6 s9 s10 wr => ∃ q : Nat, s4 = .int .i64 (q : Int) ∧ s5 = .int .i64 ((q : Int) - (i : Int)) ∧ s6 = .int .u64 ((mr V r k q : Nat) : Int) ∧ i ≤ q ∧ q ≤ max r i ∧ RSx wr w b V r O W i (dp - ((i : Int) - 1)) ng tr q) (fun s4 s5 s6 s9 s10 wr => (900 - RowKit.intOf s4).toNat)
            case atStart => exact ⟨i, rfl, by simp, rfl, Nat.le_refl _, Nat.le_max_right _ _, HSX.out⟩
            case round =>
              obtain ⟨q, rfl, rfl, rfl, hRq, hqn, hS2⟩ := hrel
              have HS2 := Lib.hid hS2
              clear hS2
              by_cases hlt : q < r
              · exfalso
                omega
              · have hltI : ¬ (q : Int) < (r : Int) := by omega
                obtain ⟨g2, k1, k2, k3⟩ := HS2.out.ex
                have cn := k1.cn
                have hqm : q = max r i := by omega
                have HEd2 := Lib.hid (show fe V r k (r + k + 2) q = E by rw [hqm]; exact HEd.out)
                clear k1 k2 k3 hqm
                go_wp2_with fail
                clear cn
                go_loopg [5, 6, 11] (r + k + 2 - q) (fun gk s5 s6 s11 wr => ∃ z f : Nat, gk = r + k + 2 - z ∧ s5 = .int .i64 ((min (z - i) 800 : Nat) : Int) ∧ s6 = .int .u64 ((mr V r k z : Nat) : Int) ∧ fe V r k f z = E ∧ r + k + 2 ≤ f + z ∧ r ≤ z ∧ i ≤ z ∧ z ≤ E ∧ RSx wr w b V r O W i (dp - ((i : Int) - 1)) ng tr z)
                case atStart => exact ⟨q, r + k + 2, rfl, by congr 1; omega, rfl, HEd2.out, by omega, by omega, by omega, by have h1 := HEs.out.2.1; have h2 := HEs.out.2.2.1; omega, HS2.out⟩
                case round =>
                  clear HS2
                  obtain ⟨z, f, hgk, rfl, rfl, hfe, hfz, hNz, hRz, hzE, hS2⟩ := hrel
                  have HS2 := Lib.hid hS2
                  have HFE := Lib.hid hfe
                  have HGK := Lib.hid hgk
                  clear hS2 hfe hgk
                  have hE4 := HEs.out.2.2.2
                  by_cases hm0 : mr V r k z = 0
                  · have hzEE : z = E := by rw [← HFE.out]; exact (fe_stop hm0).symm
                    subst hzEE
                    obtain ⟨g3, k1, k2, k3⟩ := HS2.out.ex
                    rw [show z - i = W from HWe.out.symm, drq_all] at k1
                    rw [show z - i = W from HWe.out.symm] at k3
                    have hcN : min (z - i) 800 = cutN W := by unfold cutN; have := cK_eq; rw [HWe.out]; omega
                    rw [hm0, hcN]
                    have HK := Lib.hid k1
                    have c800 := k1.cn
                    have f800 := k1.f 800 (by omega)
                    have hG3 : Dgs g3 (cutV O W) (cutN W) := fun x hx => by
                      rw [cut_dg hx]
                      have h1 : x < W := by unfold cutN at hx; omega
                      have h2 : x < 800 := by have := cutN_le W; omega
                      exact k3 x h1 h2
                    have HG3 := Lib.hid hG3
                    have HX2 := Lib.hid HS2.out.x
                    have hcNI : ((cutN W : Nat) : Int) ≤ 800 := by have := cutN_le W; omega
                    have HTR := Lib.hid (fun W' (hW : DB W' b g3 (cutN W) (dp - ((i : Int) - 1)) ng (tr || decide (lw O (W - cK) ≠ 0))) => trim_any b (cutV O W) (cutN W) (dp - ((i : Int) - 1)) ng (tr || decide (lw O (W - cK) ≠ 0)) g3 W' (cutN_le W) hW HG3.out)
                    have HD5 := Lib.hid (HK.out.setN (cutN W))
                    clear k1 k2 k3 hG3 hm0 hcN
                    go_wp2_with fail
                    refine (HTR.out _ HD5.out).mono ?_
                    rintro e w9 ⟨rfl, hDM, hb9⟩
                    go_wp2_with fail
                    refine ⟨rfl, .tuple #[], by simp [results, Tryz.results217, go_sem], rfl, ?_, ?_⟩
                    · rw [HE.out]; exact hDM
                    · exact (HX2.out.setCell (Nat.le_refl _) _).trans hb9
                  · have hzlt : z < E := by
                      refine Nat.lt_of_le_of_ne hzE fun hc => hm0 ?_
                      subst hc
                      exact HEs.out.1
                    obtain ⟨f, rfl⟩ : ∃ f', f = f' + 1 := ⟨f - 1, by omega⟩
                    have HF2 := Lib.hid (show fe V r k f (z + 1) = E by rw [← HFE.out]; exact (fe_go hm0).symm)
                    have hzW : z - i < W := by rw [HWe.out]; omega
                    have hst := mr_step V r k z
                    rw [show dgz V r z = 0 by unfold dgz; rw [if_neg (by omega)]] at hst
                    have hdd := mr_dig V r k z
                    rw [← HOd.out z hRz hzlt] at hdd
                    have hml := mr_lt V r k z
                    have hm2l := Nat.mod_lt (mr V r k z) HP0.out
                    have hp6 := HP.out
                    obtain ⟨m, hm⟩ : ∃ m, mr V r k z = m := ⟨_, rfl⟩
                    rw [hm] at hst hdd hml hm2l hm0
                    obtain ⟨m2, hm2⟩ : ∃ m2, m % 2 ^ k = m2 := ⟨_, rfl⟩
                    rw [hm2] at hst hm2l
                    have hand := HAM.out m (by omega)
                    rw [hm2] at hand
                    obtain ⟨dd, hddE⟩ : ∃ dd, m / 2 ^ k = dd := ⟨_, rfl⟩
                    rw [hddE] at hdd
                    have hsh : (m : Int) / 2 ^ k = (dd : Int) := by rw [← hddE]; push_cast; rfl
                    have hdd9 : (dd : Int) ≤ 9 := by have := dg_lt O W (z - i); omega
                    obtain ⟨mn, hmn⟩ : ∃ mn, mr V r k (z + 1) = mn := ⟨_, rfl⟩
                    rw [hmn] at hst
                    have hm2I : (m2 : Int) ≤ 1152921504606846976 := by omega
                    have hmw : (m2 : Int) * 10 = (mn : Int) := by omega
                    have hm0I : (0 : Int) < (m : Int) := by omega
                    have HMN := Lib.hid hmn
                    have HMW := Lib.hid hmw
                    obtain ⟨om, hom⟩ : ∃ om, z - i = om := ⟨_, rfl⟩
                    rw [hom] at hdd hzW
                    rw [hm]
                    by_cases h8 : om < 800
                    · have hmin : min (z - i) 800 = om := by omega
                      have h8I : (om : Int) < 800 := by omega
                      have HOM := Lib.hid (show ((min (z + 1 - i) 800 : Nat) : Int) = (om : Int) + 1 by omega)
                      obtain ⟨g2, k1, k2, k3⟩ := HS2.out.ex
                      have cc := k1.c om (by omega)
                      have cf := k1.f om (by omega)
                      have HN2 := Lib.hid (HS2.out.step_in (d := dd) hRz (by omega) (by omega) (by rw [hom]; exact hdd))
                      rw [hom] at HN2
                      rw [show ((dd + 48 : Nat) : Int) = (dd : Int) + 48 by omega] at HN2
                      rw [hmin]
                      clear k1 k2 k3 hst hdd hml hm2l hp6 hm hm2 hddE hmn hom hmin hm0 hmw
                      go_upto_region 31 with fail
                      have hmw := HMW.out
                      clear cc cf hsh hand hdd9 hm0I
                      go_wp2_with fail
                      go_roundg (r + k + 2 - (z + 1))
                      case measure => rw [HGK.out]; omega
                      case rel => exact ⟨z + 1, f, rfl, by first | (rw [HOM.out]; done) | (rw [HOM.out]; rfl), by rw [HMN.out], HF2.out, by omega, by omega, by omega, by omega, HN2.out⟩
                    · have hmin : min (z - i) 800 = 800 := by omega
                      have HOM := Lib.hid (show ((min (z + 1 - i) 800 : Nat) : Int) = 800 by omega)
                      obtain ⟨g2, k1, k2, k3⟩ := HS2.out.ex
                      have ct := k1.ct
                      have cf := k1.f 803 (by omega)
                      have HN2 := Lib.hid (HS2.out.step_out (d := dd) hRz (by rw [hom]; exact hzW) (by omega) (by rw [hom]; exact hdd))
                      rw [hmin]
                      clear k1 k2 k3 hst hdd hml hm2l hp6 hm hm2 hddE hmn hom hmin hm0 hmw
                      by_cases hd0 : dd = 0
                      · have HN3 := Lib.hid (HN2.out.2 hd0)
                        subst hd0
                        clear HN2
                        go_upto_region 31 with fail
                        have hmw := HMW.out
                        clear ct cf hsh hand hdd9 hm0I
                        go_wp2_with fail
                        go_roundg (r + k + 2 - (z + 1))
                        case measure => rw [HGK.out]; omega
                        case rel => exact ⟨z + 1, f, rfl, by first | (rw [HOM.out]; done) | (rw [HOM.out]; rfl), by rw [HMN.out], HF2.out, by omega, by omega, by omega, by omega, HN3.out⟩
                      · have HN3 := Lib.hid (HN2.out.1 hd0)
                        have hd0I : (0 : Int) < (dd : Int) := by omega
                        clear HN2 hd0
                        go_upto_region 31 with fail
                        have hmw := HMW.out
                        clear ct cf hsh hand hdd9 hm0I
                        go_wp2_with fail
                        go_roundg (r + k + 2 - (z + 1))
                        case measure => rw [HGK.out]; omega
                        case rel => exact ⟨z + 1, f, rfl, by first | (rw [HOM.out]; done) | (rw [HOM.out]; rfl), by rw [HMN.out], HF2.out, by omega, by omega, by omega, by omega, HN3.out⟩
          · have hZ0 : (Z : Int) = 0 := by
              have h := Nat.div_eq_of_lt (Nat.lt_of_not_le hz)
              omega
            have hYl : (Y : Int) ≤ 1152921504606846976 := by have := HP.out; omega
            obtain ⟨f2, rfl⟩ : ∃ f', f2 = f' + 1 := by
              refine ⟨f2 - 1, ?_⟩
              have : f2 ≠ 0 := fun hc => by
                subst hc
                have h1 : fr V r k 0 i = i := rfl
                rw [h1] at HF
                have h2 := HRs.out.1
                rw [← HF.out, hY] at h2
                exact hz h2
              omega
            have HF2 := Lib.hid (show fr V r k f2 (i + 1) = R by rw [← HF.out]; exact (fr_go (by rw [hY]; exact hz)).symm)
            have hys := yr_step V r i
            rw [show dgz V r i = 0 by unfold dgz; rw [if_neg (by omega)], hY] at hys
            obtain ⟨Y2, hY2⟩ : ∃ Y2, yr V r (i + 1) = Y2 := ⟨_, rfl⟩
            rw [hY2] at hys
            have hYw : (Y : Int) * 10 = (Y2 : Int) := by omega
            have HY2 := Lib.hid hY2
            have hi8 : i < 900 := by
              have h3 := HRs.out.2.2.1
              have h4 : i ≠ 900 := fun hc => by
                subst hc
                have h5 := yr_big (V := V) (n := r) (k := k) HV.out
                have h6 : yr V r (r + k) ≤ yr V r 900 := by
                  have h7 := yr_back (V := V) (n := r) (r := r + k) (E := 900) (by omega)
                  rw [← h7]; exact Nat.div_le_self _ _
                rw [hY] at h6
                omega
              omega
            clear hz hY hZ hys hY2 HF
            go_wp2_with fail
            exact ⟨⟨i + 1, f2, by congr 1, by rw [HY2.out], HF2.out, by omega, by omega, by omega, trivial⟩, by simp only [RowKit.intOf]; omega⟩
end
section
open Go Go.ChangeShapes Go.WideShapes Go.RowKit
set_option linter.unusedVariables false
set_option linter.unusedSimpArgs false
/-- Shifted to the left, 60 at a time. -/
def shL : Nat → Nat → DS → DS
  | 0, k, s => lsh k s
  | f + 1, k, s => if 60 < k then shL f (k - 60) (lsh 60 s) else lsh k s
theorem shL_stop {f k : Nat} {s : DS} (h : ¬ 60 < k) : shL f k s = lsh k s := by cases f <;> simp [shL, h]
theorem shL_go {f k : Nat} {s : DS} (h : 60 < k) : shL (f + 1) k s = shL f (k - 60) (lsh 60 s) := by simp [shL, h]
def shR : Nat → Nat → DS → DS
  | 0, k, s => rsh k s
  | f + 1, k, s => if 60 < k then shR f (k - 60) (rsh 60 s) else rsh k s
theorem shR_stop {f k : Nat} {s : DS} (h : ¬ 60 < k) : shR f k s = rsh k s := by cases f <;> simp [shR, h]
theorem shR_go {f k : Nat} {s : DS} (h : 60 < k) : shR (f + 1) k s = shR f (k - 60) (rsh 60 s) := by simp [shR, h]
theorem rsh_dp {k : Nat} {s : DS} (h : Nrm s) (hk : k ≤ 60) : (rsh k s).dp ≤ s.dp ∧ s.dp - 860 ≤ (rsh k s).dp := by
  have h1 := (rsh_nrm (k := k) h).2
  have h2 := rR_spec (k := k) h.pos h.hi
  have h3 := h.n8
  omega
theorem lsh_dp {k : Nat} {s : DS} (h : Nrm s) (h1 : 1 ≤ k) (hk : k ≤ 60) : s.dp ≤ (lsh k s).dp ∧ (lsh k s).dp ≤ s.dp + 19 := by
  have h2 := (lsh_nrm h h1 hk).2
  have h3 := nu_le (V := s.V) (n := s.n) h1 hk
  omega
set_option maxRecDepth 100000 in
set_option maxHeartbeats 4000000 in
theorem shift_left (b k : Nat) (s : DS) (ng : Bool) (w : World) (hN : Nrm s) (h1 : 1 ≤ k) (h2 : k ≤ 2000) (hdp : -50000 ≤ s.dp ∧ s.dp ≤ 50000) (hM : DM w b s ng) (hC : LC w b) :
    Calls Tryz.prog 189 #[.pointer (some ⟨b, 0, none⟩), .int .i64 (k : Int)] w fun e w' => e = .returned (.tuple #[]) ∧ DM w' b (shL 40 k s) ng ∧ Below b w w' := by
  obtain ⟨S, hS⟩ : ∃ S, shL 40 k s = S := ⟨_, rfl⟩
  rw [hS]
  have HS := Lib.hid hS
  have HN := Lib.hid hN
  have HM := Lib.hid hM
  have HC := Lib.hid hC
  obtain ⟨g, hD, _⟩ := hM.ex
  have c0 := hD.cn
  have hn1 := hN.n1
  have hn1I : ¬ ((s.n : Nat) : Int) = 0 := by omega
  have hkI : (k : Int) ≤ 2000 := by omega
  have hkI1 : (0 : Int) < (k : Int) := by omega
  have hkN : 0 < k := by omega
  have hb0 : (((s.n : Nat) : Int) == 0) = false := by simpa using hn1I
  have hb1 : decide (0 < k) = true := by simpa using hkN
  clear hS hN hM hC hD hn1
  go_enter Tryz.func189, Tryz.ntmps189
  go_wp2_with fail
  go_loopw [1] (fun s1 wr => ∃ (f i : Nat) (t : DS), s1 = .int .i64 (i : Int) ∧ shL f i t = S ∧ i ≤ 60 * (f + 1) ∧ 1 ≤ i ∧ i ≤ 2000 ∧ Nrm t ∧ DM wr b t ng ∧ Below b w wr ∧ -50000 ≤ t.dp ∧ t.dp + 19 * (f : Int) ≤ 60000) (fun s1 wr => (RowKit.intOf s1).toNat)
  case atStart => exact ⟨40, k, s, rfl, HS.out, by omega, by omega, h2, HN.out, HM.out, Below.refl _ _, by omega, by omega⟩
  case round =>
    obtain ⟨f, i, t, rfl, hf, hif, hi1, hi2, hNt, hMt, hX, hd1, hd2⟩ := hrel
    have HF := Lib.hid hf
    have HNt := Lib.hid hNt
    have HMt := Lib.hid hMt
    have HX := Lib.hid hX
    clear hf hNt hMt hX c0 hn1I hkI hkI1 hkN hb0 hb1
    have hiI : (i : Int) ≤ 2000 := by omega
    by_cases h60 : 60 < i
    · have h60I : (60 : Int) < (i : Int) := by omega
      obtain ⟨f, rfl⟩ : ∃ f', f = f' + 1 := ⟨f - 1, by omega⟩
      have HL := Lib.hid (fun W (hW : DM W b t ng) (hC : LC W b) => left_any b 60 t ng W HNt.out (by omega) (by omega) (by omega) hW hC)
      have HF2 := Lib.hid (show shL f (i - 60) (lsh 60 t) = S by rw [← HF.out]; exact (shL_go h60).symm)
      have HN2 := Lib.hid (lsh_nrm (k := 60) HNt.out (by omega) (by omega)).1
      have hdd := lsh_dp (k := 60) HNt.out (by omega) (by omega)
      obtain ⟨t2, ht2⟩ : ∃ t2, lsh 60 t = t2 := ⟨_, rfl⟩
      rw [ht2] at HL HF2 HN2 hdd
      go_upto_region 3 with fail
      have HCr := Lib.hid (HC.out.keep HX.out)
      go_wp2_with fail
      refine (HL.out _ HMt.out HCr.out).mono ?_
      rintro e w9 ⟨rfl, hDM, hb9⟩
      have HD9 := Lib.hid hDM
      have HX9 := Lib.hid (HX.out.trans hb9)
      clear hDM hb9
      go_wp2_with fail
      exact ⟨⟨f, i - 60, t2, by congr 1; omega, HF2.out, by omega, by omega, by omega, HN2.out, HD9.out, HX9.out, by omega, by push_cast at hd2; omega⟩, by simp only [RowKit.intOf]; omega⟩
    · have h60I : ¬ (60 : Int) < (i : Int) := by omega
      have HL := Lib.hid (fun W (hW : DM W b t ng) (hC : LC W b) => left_any b i t ng W HNt.out (by omega) (by omega) (by omega) hW hC)
      rw [show lsh i t = S by rw [← HF.out]; exact (shL_stop h60).symm] at HL
      have HCr := Lib.hid (HC.out.keep HX.out)
      go_wp2_with fail
      refine (HL.out _ HMt.out HCr.out).mono ?_
      rintro e w9 ⟨rfl, hDM, hb9⟩
      have HD9 := Lib.hid hDM
      have HX9 := Lib.hid (HX.out.trans hb9)
      clear hDM hb9
      go_wp2_with fail
      exact ⟨rfl, .tuple #[], by simp [results, Tryz.results189, go_sem], rfl, HD9.out, HX9.out⟩
set_option maxRecDepth 100000 in
set_option maxHeartbeats 4000000 in
theorem shift_right (b k : Nat) (s : DS) (ng : Bool) (w : World) (hN : Nrm s) (h1 : 1 ≤ k) (h2 : k ≤ 2000) (hdp : -50000 ≤ s.dp ∧ s.dp ≤ 50000) (hM : DM w b s ng) :
    Calls Tryz.prog 189 #[.pointer (some ⟨b, 0, none⟩), .int .i64 (-(k : Int))] w fun e w' => e = .returned (.tuple #[]) ∧ DM w' b (shR 40 k s) ng ∧ Below b w w' := by
  obtain ⟨S, hS⟩ : ∃ S, shR 40 k s = S := ⟨_, rfl⟩
  rw [hS]
  have HS := Lib.hid hS
  have HN := Lib.hid hN
  have HM := Lib.hid hM
  obtain ⟨g, hD, _⟩ := hM.ex
  have c0 := hD.cn
  have hn1 := hN.n1
  have hn1I : ¬ ((s.n : Nat) : Int) = 0 := by omega
  have hkI : (k : Int) ≤ 2000 := by omega
  have hkI1 : (0 : Int) < (k : Int) := by omega
  have hkN : 0 < k := by omega
  have hb0 : (((s.n : Nat) : Int) == 0) = false := by simpa using hn1I
  have hb1 : decide (0 < k) = true := by simpa using hkN
  clear hS hN hM hD hn1
  go_enter Tryz.func189, Tryz.ntmps189
  go_wp2_with fail
  go_loopw [1] (fun s1 wr => ∃ (f i : Nat) (t : DS), s1 = .int .i64 (-(i : Int)) ∧ shR f i t = S ∧ i ≤ 60 * (f + 1) ∧ 1 ≤ i ∧ i ≤ 2000 ∧ Nrm t ∧ DM wr b t ng ∧ Below b w wr ∧ -90000 ≤ t.dp - 860 * (f : Int) ∧ t.dp ≤ 50000) (fun s1 wr => (-(RowKit.intOf s1)).toNat)
  case atStart => exact ⟨40, k, s, rfl, HS.out, by omega, by omega, h2, HN.out, HM.out, Below.refl _ _, by omega, by omega⟩
  case round =>
    obtain ⟨f, i, t, rfl, hf, hif, hi1, hi2, hNt, hMt, hX, hd1, hd2⟩ := hrel
    have HF := Lib.hid hf
    have HNt := Lib.hid hNt
    have HMt := Lib.hid hMt
    have HX := Lib.hid hX
    clear hf hNt hMt hX c0 hn1I hkI hkI1 hkN hb0 hb1
    have hiI : (i : Int) ≤ 2000 := by omega
    by_cases h60 : 60 < i
    · have h60I : (60 : Int) < (i : Int) := by omega
      obtain ⟨f, rfl⟩ : ∃ f', f = f' + 1 := ⟨f - 1, by omega⟩
      have HL := Lib.hid (fun W (hW : DM W b t ng) => right_any b 60 t ng W HNt.out (by omega) (by omega) (by push_cast at hd1; omega) hW)
      have HF2 := Lib.hid (show shR f (i - 60) (rsh 60 t) = S by rw [← HF.out]; exact (shR_go h60).symm)
      have HN2 := Lib.hid (rsh_nrm (k := 60) HNt.out).1
      have hdd := rsh_dp (k := 60) HNt.out (by omega)
      obtain ⟨t2, ht2⟩ : ∃ t2, rsh 60 t = t2 := ⟨_, rfl⟩
      rw [ht2] at HL HF2 HN2 hdd
      go_wp2_with fail
      refine (HL.out _ HMt.out).mono ?_
      rintro e w9 ⟨rfl, hDM, hb9⟩
      have HD9 := Lib.hid hDM
      have HX9 := Lib.hid (HX.out.trans hb9)
      clear hDM hb9
      go_wp2_with fail
      exact ⟨⟨f, i - 60, t2, by congr 1; omega, HF2.out, by omega, by omega, by omega, HN2.out, HD9.out, HX9.out, by push_cast at hd1; omega, by omega⟩, by simp only [RowKit.intOf]; omega⟩
    · have h60I : ¬ (60 : Int) < (i : Int) := by omega
      have HL := Lib.hid (fun W (hW : DM W b t ng) => right_any b i t ng W HNt.out (by omega) (by omega) (by omega) hW)
      rw [show rsh i t = S by rw [← HF.out]; exact (shR_stop h60).symm] at HL
      go_wp2_with fail
      refine (HL.out _ HMt.out).mono ?_
      rintro e w9 ⟨rfl, hDM, hb9⟩
      have HD9 := Lib.hid hDM
      have HX9 := Lib.hid (HX.out.trans hb9)
      clear hDM hb9
      go_wp2_with fail
      exact ⟨rfl, .tuple #[], by simp [results, Tryz.results189, go_sem], rfl, HD9.out, HX9.out⟩
end
end Go.Proofs.YtpebnofjcodikaaGreatDoor
