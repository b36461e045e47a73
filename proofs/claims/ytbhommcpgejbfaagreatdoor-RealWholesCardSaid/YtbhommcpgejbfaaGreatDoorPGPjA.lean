/- Numerals behind a minus sign, as strconv reads them, plainly; special. strconv's decimal: set at a minus sign and a numeral. -/
import Derived.Test.YtbhommcpgejbfaaGreatDoorPGPiC
namespace Go.Proofs.YtbhommcpgejbfaaGreatDoor
section
open Go Go.ChangeShapes Go.WideShapes Go.RowKit Go.PlainAid
set_option linter.unusedVariables false
set_option linter.unusedSimpArgs false
/-- A minus sign and a numeral: places as in Nml. -/
structure Nm1 (s : ByteArray) (a p q : Nat) : Prop where
  sg : bt s 0 = 45
  a1 : 2 ≤ a
  ap : a ≤ p
  pz : p ≤ s.size
  sz : s.size ≤ 1000
  d1 : ∀ i, 1 ≤ i → i < a → 48 ≤ bt s i ∧ bt s i ≤ 57
  pt : a < p → bt s a = 46 ∧ a + 1 < p
  d2 : ∀ i, a < i → i < p → 48 ≤ bt s i ∧ bt s i ≤ 57
  ex : p < s.size → bt s p = 101 ∧ q < s.size ∧ ((q = p + 1 ∧ bt s (p + 1) ≠ 43 ∧ bt s (p + 1) ≠ 45) ∨ (q = p + 2 ∧ (bt s (p + 1) = 43 ∨ bt s (p + 1) = 45)))
  d3 : ∀ i, p < s.size → q ≤ i → i < s.size → 48 ≤ bt s i ∧ bt s i ≤ 57
/-- The sign changes nothing. -/
def qfT (c : Int) (x : QF) : QF := if c = 45 then x else qfS c x
def qfM (s : ByteArray) : Nat → QF
  | 0 => ⟨0, 0, 0, 0, false, false⟩
  | i + 1 => qfT (bt s i) (qfM s i)
theorem qfT_ne {c : Int} (x : QF) (h : c ≠ 45) : qfT c x = qfS c x := by unfold qfT; rw [if_neg h]
theorem qfM_one {s : ByteArray} {a p q : Nat} (h : Nm1 s a p q) : qfM s 1 = ⟨0, 0, 0, 0, false, false⟩ := by
  show qfT (bt s 0) ⟨0, 0, 0, 0, false, false⟩ = _
  unfold qfT; rw [if_pos h.sg]
theorem Nm1.byte {s : ByteArray} {a p q : Nat} (h : Nm1 s a p q) {i : Nat} (h1 : 1 ≤ i) (hi : i < p) : bt s i = 46 ∨ (48 ≤ bt s i ∧ bt s i ≤ 57) := by
  by_cases h2 : i < a
  · exact .inr (h.d1 i h1 h2)
  · by_cases h3 : i = a
    · subst h3; exact .inl (h.pt hi).1
    · exact .inr (h.d2 i (by omega) hi)
theorem qm_step {s : ByteArray} {a p q : Nat} (h : Nm1 s a p q) {i : Nat} (h1 : 1 ≤ i) (hi : i < p) : qfM s (i + 1) = qfS (bt s i) (qfM s i) :=
  qfT_ne _ (by rcases h.byte h1 hi with h2 | h2 <;> omega)
theorem qm_ok {s : ByteArray} {a p q : Nat} (h : Nm1 s a p q) : ∀ i, i ≤ p → QOk (qfM s i) i := by
  intro i
  induction i with
  | zero => intro _; exact QOk.start s
  | succ i ih =>
    intro hi
    by_cases h0 : i = 0
    · subst h0
      rw [show (0 : Nat) + 1 = 1 by rfl, qfM_one h]
      exact ⟨(show 0 ≤ 1 by decide), (show 0 ≤ 19 by decide), Nat.le_refl _, (show 0 < 10 ^ 0 by decide), (show -((1 : Nat) : Int) ≤ 0 ∧ (0 : Int) ≤ ((1 : Nat) : Int) by decide)⟩
    · rw [qm_step h (by omega) (by omega)]
      exact (ih (by omega)).step (h.byte (by omega) (by omega))
theorem qm_dot {s : ByteArray} {a p q : Nat} (h : Nm1 s a p q) : ∀ i, 1 ≤ i → i ≤ p → (qfM s i).dot = decide (a < i) := by
  intro i
  induction i with
  | zero => intro h1; omega
  | succ i ih =>
    intro _ hi
    by_cases h0 : i = 0
    · subst h0
      rw [show (0 : Nat) + 1 = 1 by rfl, qfM_one h]
      exact (decide_eq_false (by have := h.a1; omega)).symm
    · have h1 : 1 ≤ i := by omega
      rw [qm_step h h1 (by omega)]
      unfold qfS
      by_cases c1 : bt s i = 46
      · rw [if_pos c1]
        have hia : i = a := by
          by_cases h1' : i < a
          · have := h.d1 i h1 h1'; omega
          · by_cases h2 : i = a
            · exact h2
            · have := h.d2 i (by omega) (by omega); omega
        simp only
        rw [eq_comm, decide_eq_true_eq]; omega
      · rw [if_neg c1]
        have hia : i ≠ a := by
          intro hc; subst hc; exact c1 (h.pt (by omega)).1
        have e2 : decide (a < i + 1) = decide (a < i) := by rw [decide_eq_decide]; omega
        rw [e2, ← ih h1 (by omega)]
        by_cases c2 : bt s i = 48 ∧ (qfM s i).nd = 0
        · rw [if_pos c2]
        · rw [if_neg c2]
          by_cases c3 : (qfM s i).nm < 19
          · rw [if_pos c3]
          · rw [if_neg c3]
def dpM (s : ByteArray) (p q : Nat) : Int := (if (qfM s p).dot = true then (qfM s p).dp else ((qfM s p).nd : Int)) + exZ s p q
def expM (s : ByteArray) (p q : Nat) : Int := if (qfM s p).m = 0 then 0 else dpM s p q - ((qfM s p).nm : Int)
set_option maxRecDepth 100000 in
theorem cpl_no (t : ByteArray) (c : Int) (h : 0 < t.size) (hb0 : ((t[0]'h).toNat : Int) = c) (hc : 48 ≤ c ∧ c ≤ 57) (w : World) :
    Calls Tryz.prog 146 #[.string t, .string ⟨#[105, 110, 102, 105, 110, 105, 116, 121]⟩] w fun e w' => e = .returned (.int .i64 0) ∧ w = w' := by
  obtain ⟨h1, h2⟩ := hc
  have h65 : ¬ (65 : Int) ≤ c := by omega
  have hp0 : (((⟨#[105, 110, 102, 105, 110, 105, 116, 121]⟩ : ByteArray)[0]'(by decide)).toNat : Int) = 105 := by rfl
  have h105 : (c == 105) = false := beq_eq_false_iff_ne.2 (by omega)
  have h106 : (c != 105) = true := bne_iff_ne.2 (by omega)
  obtain ⟨M, hM⟩ : ∃ M : Int, min 8 (t.size : Int) = M := ⟨_, rfl⟩
  have hM0 : (0 : Int) < M := by omega
  go_enter Tryz.func146, Tryz.ntmps146
  go_wp2_with fail
  go_loopw [6] (fun s6 wr => s6 = .int .i64 0 ∧ wr = w) (fun s6 wr => 0)
  case atStart => exact ⟨rfl, rfl⟩
  case round =>
    obtain ⟨rfl, rfl⟩ := hrel
    go_wp2_with fail
    go_ret
    exact ⟨rfl, rfl⟩
set_option maxRecDepth 100000 in
theorem special_m (s : ByteArray) (a p q : Nat) (h : Nm1 s a p q) (w : World) :
    Calls Tryz.prog 104 #[.string s] w fun e w' => e = .returned (.tuple #[.float .f64 0, .int .i64 0, .bool false]) ∧ w = w' := by
  have hb := get_bt s
  have h0 := h.d1 1 (by omega) (by have := h.a1; omega)
  have hz1 : 1 < s.size := by have := h.a1; have := h.ap; have := h.pz; omega
  have hz : 0 < s.size := by omega
  have hzI : ¬ ((s.size : Nat) : Int) = 0 := by omega
  have hz2 : (s.size == 0) = false := beq_eq_false_iff_ne.2 (by omega)
  have hb0 : ((s[0]'hz).toNat : Int) = 45 := by rw [hb 0 hz]; exact h.sg
  have hzJ : (1 : Int) ≤ ((s.size : Nat) : Int) := by omega
  obtain ⟨t, ht⟩ : ∃ t, s.extract 1 s.size = t := ⟨_, rfl⟩
  have hts : t.size = s.size - 1 := by rw [← ht]; simp
  have hbt : ∀ (hh : 0 < t.size), ((t[0]'hh).toNat : Int) = bt s 1 := by
    intro hh
    have e : t[0]'hh = s[1]'hz1 := by subst ht; simp [ByteArray.getElem_extract]
    rw [e]; exact hb 1 hz1
  have HP := Lib.hid (fun W => cpl_no t (bt s 1) (by omega) (hbt _) h0 W)
  clear hbt h0 hb h hts
  go_enter Tryz.func104, Tryz.ntmps104
  go_wp2_with (first
    | (go_at_call 146; (with_reducible refine (HP.out _).mono ?_); rintro e w9 ⟨rfl, rfl⟩)
    | fail)
  go_ret3
  exact ⟨rfl, rfl⟩
end
section
open Go Go.ChangeShapes Go.WideShapes Go.RowKit Go.PlainAid
set_option linter.unusedVariables false
set_option linter.unusedSimpArgs false
def sfT (c : Int) (x : DS) : DS := if c = 45 then x else sfS c x
def sfM (s : ByteArray) : Nat → DS
  | 0 => ⟨0, 0, 0, false⟩
  | i + 1 => sfT (bt s i) (sfM s i)
theorem sfM_one {s : ByteArray} {a p q : Nat} (h : Nm1 s a p q) : sfM s 1 = ⟨0, 0, 0, false⟩ := by
  show sfT (bt s 0) ⟨0, 0, 0, false⟩ = _
  unfold sfT; rw [if_pos h.sg]
theorem sm_step {s : ByteArray} {a p q : Nat} (h : Nm1 s a p q) {i : Nat} (h1 : 1 ≤ i) (hi : i < p) : sfM s (i + 1) = sfS (bt s i) (sfM s i) := by
  show sfT (bt s i) (sfM s i) = _
  unfold sfT; rw [if_neg (by rcases h.byte h1 hi with h2 | h2 <;> omega)]
theorem sm_ok {s : ByteArray} {a p q : Nat} (h : Nm1 s a p q) : ∀ i, i ≤ p → SOk (sfM s i) i := by
  intro i
  induction i with
  | zero => intro _; exact SOk.start s
  | succ i ih =>
    intro hi
    by_cases h0 : i = 0
    · subst h0
      rw [show (0 : Nat) + 1 = 1 by rfl, sfM_one h]
      exact ⟨(show 0 ≤ 800 by decide), (show 0 ≤ 1 by decide), (show 0 < 10 ^ 0 by decide), fun h => absurd h (show ¬ 1 ≤ 0 by decide), (show -((1 : Nat) : Int) ≤ 0 ∧ (0 : Int) ≤ ((1 : Nat) : Int) by decide)⟩
    · rw [sm_step h (by omega) (by omega)]
      exact (ih (by omega)).step (h.byte (by omega) (by omega))
/-- The decimal of a numeral. -/
def smZ (s : ByteArray) (a p q : Nat) : DS := { sfM s p with dp := (if a < p then (sfM s p).dp else ((sfM s p).n : Int)) + exZ s p q }
theorem smZ_nrm {s : ByteArray} {a p q : Nat} (h : Nm1 s a p q) : (smZ s a p q).n = 0 ∨ Nrm (smZ s a p q) := by
  have hk := sm_ok h p (Nat.le_refl _)
  by_cases h0 : (sfM s p).n = 0
  · exact .inl h0
  · exact .inr ⟨(show 1 ≤ (sfM s p).n by omega), hk.n8, hk.hi, hk.lo (by omega)⟩
end
end Go.Proofs.YtbhommcpgejbfaaGreatDoor
