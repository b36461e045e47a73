/- Numerals as strconv reads them, plainly; special, lower. strconv.readFloat at a numeral. -/
import Derived.Test.YtbhommcpgejbfaaGreatDoorPGPfY
import Derived.PlainAid
import Derived.Deep.CutBlock
import Derived.Handy
namespace Go.Proofs.YtbhommcpgejbfaaGreatDoor
section
open Go Go.ChangeShapes Go.WideShapes Go.RowKit Go.PlainAid
set_option linter.unusedVariables false
set_option linter.unusedSimpArgs false
/-- A numeral: digits as far as a; from there as far as p a point and digits, or nothing; from p on the letter e, a sign or none, digits from q on, or nothing. -/
structure Nml (s : ByteArray) (a p q : Nat) : Prop where
  a1 : 1 ≤ a
  ap : a ≤ p
  pz : p ≤ s.size
  sz : s.size ≤ 1000
  d1 : ∀ i, i < a → 48 ≤ bt s i ∧ bt s i ≤ 57
  pt : a < p → bt s a = 46 ∧ a + 1 < p
  d2 : ∀ i, a < i → i < p → 48 ≤ bt s i ∧ bt s i ≤ 57
  ex : p < s.size → bt s p = 101 ∧ q < s.size ∧ ((q = p + 1 ∧ bt s (p + 1) ≠ 43 ∧ bt s (p + 1) ≠ 45) ∨ (q = p + 2 ∧ (bt s (p + 1) = 43 ∨ bt s (p + 1) = 45)))
  d3 : ∀ i, p < s.size → q ≤ i → i < s.size → 48 ≤ bt s i ∧ bt s i ≤ 57
/-- What is read so far: the first 19 digits, how many digits, how many kept, the point's place, was there a point, was a digit dropped. -/
structure QF where
  m : Nat
  nd : Nat
  nm : Nat
  dp : Int
  dot : Bool
  tr : Bool
def qfS (c : Int) (x : QF) : QF :=
  if c = 46 then { x with dot := true, dp := (x.nd : Int) }
  else if c = 48 ∧ x.nd = 0 then { x with dp := x.dp - 1 }
  else if x.nm < 19 then { x with m := x.m * 10 + (c - 48).toNat, nd := x.nd + 1, nm := x.nm + 1 }
  else { x with nd := x.nd + 1, tr := x.tr || decide (c ≠ 48) }
def qfN (s : ByteArray) : Nat → QF
  | 0 => ⟨0, 0, 0, 0, false, false⟩
  | i + 1 => qfS (bt s i) (qfN s i)
/-- What holds of it. -/
structure QOk (x : QF) (i : Nat) : Prop where
  nd : x.nd ≤ i
  nm : x.nm ≤ 19
  mn : x.nm ≤ x.nd
  m : x.m < 10 ^ x.nm
  d : -(i : Int) ≤ x.dp ∧ x.dp ≤ (i : Int)
theorem QOk.start (s : ByteArray) : QOk (qfN s 0) 0 := ⟨Nat.le_refl _, (show 0 ≤ 19 by decide), Nat.le_refl _, (show 0 < 10 ^ 0 by decide), (show -((0 : Nat) : Int) ≤ 0 ∧ (0 : Int) ≤ ((0 : Nat) : Int) by decide)⟩
theorem QOk.step {c : Int} {x : QF} {i : Nat} (h : QOk x i) (hc : c = 46 ∨ (48 ≤ c ∧ c ≤ 57)) : QOk (qfS c x) (i + 1) := by
  obtain ⟨h1, h2, h3, h4, h5⟩ := h
  unfold qfS
  by_cases c1 : c = 46
  · rw [if_pos c1]; exact ⟨by simp only; omega, h2, h3, h4, by simp only; omega⟩
  · rw [if_neg c1]
    by_cases c2 : c = 48 ∧ x.nd = 0
    · rw [if_pos c2]; exact ⟨by simp only; omega, h2, h3, h4, by simp only; omega⟩
    · rw [if_neg c2]
      by_cases c3 : x.nm < 19
      · rw [if_pos c3]
        refine ⟨by simp only; omega, by simp only; omega, by simp only; omega, ?_, by simp only; omega⟩
        simp only [Nat.pow_succ]
        omega
      · rw [if_neg c3]; exact ⟨by simp only; omega, h2, by simp only; omega, h4, by simp only; omega⟩
theorem Nml.byte {s : ByteArray} {a p q : Nat} (h : Nml s a p q) {i : Nat} (hi : i < p) : bt s i = 46 ∨ (48 ≤ bt s i ∧ bt s i ≤ 57) := by
  by_cases h1 : i < a
  · exact .inr (h.d1 i h1)
  · by_cases h2 : i = a
    · subst h2; exact .inl (h.pt hi).1
    · exact .inr (h.d2 i (by omega) hi)
theorem qf_ok {s : ByteArray} {a p q : Nat} (h : Nml s a p q) : ∀ i, i ≤ p → QOk (qfN s i) i := by
  intro i
  induction i with
  | zero => intro _; exact QOk.start s
  | succ i ih => intro hi; exact (ih (by omega)).step (h.byte (by omega))
/-- Was there a point? -/
theorem qf_dot {s : ByteArray} {a p q : Nat} (h : Nml s a p q) : ∀ i, i ≤ p → (qfN s i).dot = decide (a < i) := by
  intro i
  induction i with
  | zero => intro _; rfl
  | succ i ih =>
    intro hi
    have e : qfN s (i + 1) = qfS (bt s i) (qfN s i) := rfl
    rw [e]
    unfold qfS
    by_cases c1 : bt s i = 46
    · rw [if_pos c1]
      have hia : i = a := by
        by_cases h1 : i < a
        · have := h.d1 i h1; omega
        · by_cases h2 : i = a
          · exact h2
          · have := h.d2 i (by omega) (by omega); omega
      simp only
      rw [eq_comm, decide_eq_true_eq]; omega
    · rw [if_neg c1]
      have hia : i ≠ a := by
        intro hc; subst hc; exact c1 (h.pt (by omega)).1
      have e2 : decide (a < i + 1) = decide (a < i) := by rw [decide_eq_decide]; omega
      rw [e2, ← ih (by omega)]
      by_cases c2 : bt s i = 48 ∧ (qfN s i).nd = 0
      · rw [if_pos c2]
      · rw [if_neg c2]
        by_cases c3 : (qfN s i).nm < 19
        · rw [if_pos c3]
        · rw [if_neg c3]
/-- The exponent, of the digits from q on; no digit counts once it is 10000. -/
def exN (s : ByteArray) (q : Nat) : Nat → Nat
  | 0 => 0
  | k + 1 => if exN s q k < 10000 then exN s q k * 10 + (bt s (q + k) - 48).toNat else exN s q k
theorem ex_lt {s : ByteArray} {q : Nat} : ∀ k, (∀ i, i < k → 48 ≤ bt s (q + i) ∧ bt s (q + i) ≤ 57) → exN s q k < 100000 := by
  intro k
  induction k with
  | zero => intro _; exact (show 0 < 100000 by decide)
  | succ k ih =>
    intro h
    have h1 := ih (fun i hi => h i (by omega))
    have h2 := h k (by omega)
    unfold exN
    split <;> omega
/-- The exponent with its sign. -/
def exZ (s : ByteArray) (p q : Nat) : Int :=
  if p < s.size then (if bt s (p + 1) = 45 then -((exN s q (s.size - q) : Nat) : Int) else ((exN s q (s.size - q) : Nat) : Int)) else 0
/-- Where the point stands at last. -/
def dpZ (s : ByteArray) (p q : Nat) : Int := (if (qfN s p).dot = true then (qfN s p).dp else ((qfN s p).nd : Int)) + exZ s p q
/-- The exponent of the kept digits. -/
def expZ (s : ByteArray) (p q : Nat) : Int := if (qfN s p).m = 0 then 0 else dpZ s p q - ((qfN s p).nm : Int)
set_option maxRecDepth 100000 in
theorem special_any (s : ByteArray) (a p q : Nat) (h : Nml s a p q) (w : World) :
    Calls Tryz.prog 104 #[.string s] w fun e w' => e = .returned (.tuple #[.float .f64 0, .int .i64 0, .bool false]) ∧ w = w' := by
  have hb := get_bt s
  have h0 := h.d1 0 (by have := h.a1; omega)
  have hz : 0 < s.size := by have := h.a1; have := h.ap; have := h.pz; omega
  have hzI : ¬ ((s.size : Nat) : Int) = 0 := by omega
  have hz2 : (s.size == 0) = false := beq_eq_false_iff_ne.2 (by omega)
  obtain ⟨c, hc⟩ : ∃ c, bt s 0 = c := ⟨_, rfl⟩
  rw [hc] at h0
  have HC := Lib.hid hc
  have hb0 : ((s[0]'hz).toNat : Int) = c := by rw [hb 0 hz]; exact hc
  have n1 : ¬ c = 43 := by omega
  have n2 : ¬ c = 45 := by omega
  have n3 : ¬ c = 105 := by omega
  have n4 : ¬ c = 73 := by omega
  have n5 : ¬ c = 110 := by omega
  have n6 : ¬ c = 78 := by omega
  clear hc hb h
  go_enter Tryz.func104, Tryz.ntmps104
  go_wp2_with fail
  go_ret3
  exact ⟨rfl, rfl⟩
end
section
open Go Go.ChangeShapes Go.WideShapes Go.RowKit Go.PlainAid
set_option linter.unusedVariables false
set_option linter.unusedSimpArgs false
theorem low_c {c : Int} (h : c = 46 ∨ c = 101 ∨ (48 ≤ c ∧ c ≤ 57)) : bits .or .u8 c 32 = c := by
  have : c = 46 ∨ c = 101 ∨ c = 48 ∨ c = 49 ∨ c = 50 ∨ c = 51 ∨ c = 52 ∨ c = 53 ∨ c = 54 ∨ c = 55 ∨ c = 56 ∨ c = 57 := by omega
  rcases this with rfl | rfl | rfl | rfl | rfl | rfl | rfl | rfl | rfl | rfl | rfl | rfl <;> rfl
theorem lower_any (c : Int) (h : c = 46 ∨ c = 101 ∨ (48 ≤ c ∧ c ≤ 57)) (w : World) :
    Calls Tryz.prog 149 #[.int .u8 c] w fun e w' => e = .returned (.int .u8 c) ∧ w = w' := by
  have hl := low_c h
  have h0 : (0 : Int) ≤ c := by omega
  have h1 : c ≤ 101 := by omega
  clear h
  go_enter Tryz.func149, Tryz.ntmps149
  go_wp2_with fail
  go_ret
  exact ⟨rfl, rfl⟩
theorem Nml.low {s : ByteArray} {a p q : Nat} (h : Nml s a p q) {i : Nat} (hi : i ≤ p) (hz : i < s.size) : bt s i = 46 ∨ bt s i = 101 ∨ (48 ≤ bt s i ∧ bt s i ≤ 57) := by
  by_cases h1 : i = p
  · subst h1; exact .inr (.inl (h.ex hz).1)
  · rcases h.byte (i := i) (by omega) with h2 | h2
    · exact .inl h2
    · exact .inr (.inr h2)
end
end Go.Proofs.YtbhommcpgejbfaaGreatDoor
