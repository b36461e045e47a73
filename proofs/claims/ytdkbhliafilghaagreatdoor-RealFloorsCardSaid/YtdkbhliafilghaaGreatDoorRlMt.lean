/- Sums and quotients that are no NaN; Floor's and Mod's answers, plainly. -/
import Derived.Test.YtdkbhliafilghaaGreatDoorRlMp
import Derived.Test.YtdkbhliafilghaaGreatDoorRlF
namespace Go.Proofs.YtdkbhliafilghaaGreatDoor
open Go Ieee
set_option linter.unusedVariables false
set_option linter.unusedSimpArgs false
theorem word_le (s : Bool) (r : Nat) (h : r ≤ fIN) : double.word s r % fSG = r ∧ negB (double.word s r) = s ∧ double.word s r < 18446744073709551616 ∧ nanB (double.word s r) = false := by
  rcases Nat.lt_or_eq_of_le h with h | h
  · exact word_d s r h
  · subst h
    cases s <;> decide +kernel
/-- A pattern of a number or an infinity. -/
def NN (z : Nat) : Prop := nanB z = false ∧ z < 18446744073709551616
theorem near_nn (s : Bool) (m : Nat) (p : Int) : NN (double.nearest s m p) := by
  unfold Format.nearest
  by_cases h : m = 0
  · rw [if_pos h]
    have := word_le s 0 (by decide)
    exact ⟨this.2.2.2, this.2.2.1⟩
  · rw [if_neg h]
    simp only
    rw [in_d]
    have := word_le s _ (Nat.min_le_right ((max (p + (m.log2 : Int) - ((double.fractionBits : Nat) : Int)) double.leastPlace - double.leastPlace).toNat * double.binade + Toward.even.cut s (m <<< (p - max (p + (m.log2 : Int) - ((double.fractionBits : Nat) : Int)) double.leastPlace).toNat) (max (p + (m.log2 : Int) - ((double.fractionBits : Nat) : Int)) double.leastPlace - p).toNat) fIN)
    exact ⟨this.2.2.2, this.2.2.1⟩
theorem inf_nn (s : Bool) : NN (double.word s double.infRung) := by
  rw [in_d]
  have := word_le s fIN (Nat.le_refl _)
  exact ⟨this.2.2.2, this.2.2.1⟩
/-- What a pattern that is no NaN stands for. -/
theorem read_nn {x : Nat} (h : nanB x = false) : (infB x = true ∧ double.read x = .infinity (negB x)) ∨ (infB x = false ∧ ∃ m p, double.read x = .number (negB x) m p ∧ (zeroB x = false → m ≠ 0)) := by
  rcases read_d x with ⟨h1, _⟩ | ⟨_, h1, h2⟩ | ⟨_, h1, m, e, h2, h3⟩
  · rw [h] at h1; cases h1
  · exact .inl ⟨by unfold infB; simpa using h1, h2⟩
  · refine .inr ⟨by unfold infB; simp; omega, m, _, h2, ?_⟩
    intro hz hm
    unfold zeroB at hz
    rw [decide_eq_false_iff_not] at hz
    rw [hm, Nat.zero_mul] at h3
    have := mag_pos (y := x % fSG) (by omega)
    omega
theorem sum_nn (x y : Datum) (hx : (∃ s, x = .infinity s) ∨ ∃ s m p, x = .number s m p) (hy : (∃ s, y = .infinity s) ∨ ∃ s m p, y = .number s m p) (hf : (∃ s m p, x = .number s m p) ∨ ∃ s m p, y = .number s m p) :
    ∃ z, (x.sum y).map double.write = some z ∧ NN z := by
  rcases hx with ⟨s, rfl⟩ | ⟨s, m, p, rfl⟩
  · rcases hy with ⟨t, rfl⟩ | ⟨t, n, q, rfl⟩
    · rcases hf with ⟨_, _, _, h⟩ | ⟨_, _, _, h⟩ <;> cases h
    · exact ⟨_, rfl, inf_nn s⟩
  · rcases hy with ⟨t, rfl⟩ | ⟨t, n, q, rfl⟩
    · exact ⟨_, rfl, inf_nn t⟩
    · exact ⟨_, rfl, near_nn _ _ _⟩
theorem form_nn {x : Nat} (h : nanB x = false) : (∃ s, double.read x = .infinity s) ∨ ∃ s m p, double.read x = .number s m p := by
  rcases read_nn h with ⟨_, h⟩ | ⟨_, m, p, h, _⟩
  · exact .inl ⟨_, h⟩
  · exact .inr ⟨_, _, _, h⟩
theorem fin_nn {x : Nat} (h : nanB x = false) (hi : infB x = false) : ∃ s m p, double.read x = .number s m p := by
  rcases read_nn h with ⟨h1, _⟩ | ⟨_, m, p, h, _⟩
  · rw [hi] at h1; cases h1
  · exact ⟨_, _, _, h⟩
theorem add_nn {x y : Nat} (hx : nanB x = false) (hy : nanB y = false) (hf : infB x = false ∨ infB y = false) : ∃ z, double.add x y = some z ∧ NN z :=
  sum_nn _ _ (form_nn hx) (form_nn hy) (hf.imp (fin_nn hx) (fin_nn hy))
theorem sub_nn {x y : Nat} (hx : nanB x = false) (hy : nanB y = false) (hf : infB x = false ∨ infB y = false) : ∃ z, double.sub x y = some z ∧ NN z := by
  refine sum_nn _ _ (form_nn hx) ?_ (hf.imp (fin_nn hx) ?_)
  · rcases form_nn hy with ⟨s, h⟩ | ⟨s, m, p, h⟩
    · exact .inl ⟨!s, by rw [h]; rfl⟩
    · exact .inr ⟨!s, m, p, by rw [h]; rfl⟩
  · intro h
    obtain ⟨s, m, p, h⟩ := fin_nn hy h
    exact ⟨!s, m, p, by rw [h]; rfl⟩
theorem div_nn {x y : Nat} (hx : nanB x = false) (hy : nanB y = false) (hz : zeroB y = false) (hf : infB x = false ∨ infB y = false) : ∃ z, double.div x y = some z ∧ NN z := by
  unfold Format.div
  rcases read_nn hx with ⟨h1, h⟩ | ⟨h1, m, p, h, _⟩
  · rcases read_nn hy with ⟨k1, k⟩ | ⟨k1, n, q, k, _⟩
    · rcases hf with hf | hf
      · rw [hf] at h1; cases h1
      · rw [hf] at k1; cases k1
    · rw [h, k]
      exact ⟨_, rfl, inf_nn _⟩
  · rcases read_nn hy with ⟨k1, k⟩ | ⟨k1, n, q, k, hn⟩
    · rw [h, k]
      exact ⟨_, rfl, near_nn _ _ _⟩
    · rw [h, k]
      unfold Datum.quotient
      simp only [if_neg (hn hz)]
      exact ⟨_, rfl, near_nn _ _ _⟩
/-- A number rounded down. -/
def flB (x : Nat) : Nat := double.write ((double.read x).integral .down)
theorem fl_nn {x : Nat} (h : nanB x = false) : NN (flB x) := by
  unfold flB
  rcases read_nn h with ⟨_, h⟩ | ⟨_, m, p, h, _⟩
  · rw [h]; exact inf_nn _
  · rw [h]; exact near_nn _ _ _
theorem fl_inf {x : Nat} (hx : x < 18446744073709551616) (h : infB x = true) : flB x = x := by
  have h0 : x % fSG = fIN := by unfold infB at h; simpa using h
  have hn : nanB x = false := by unfold nanB; rw [h0]; simp
  have e1 : fSG = 9223372036854775808 := rfl
  have e2 : fIN = 9218868437227405312 := rfl
  have hx2 : x = 9218868437227405312 ∨ x = 18442240474082181120 := by rw [e1, e2] at h0; omega
  rcases hx2 with rfl | rfl <;> decide +kernel
theorem fl_fin {x : Nat} (h : nanB x = false) (hi : infB x = false) : infB (flB x) = false ∨ infB (flB x) = true := by cases infB (flB x) <;> simp
def oneF : Nat := 4607182418800017408
def halfF : Nat := 4602678819172646912
/-- The steps of a quotient rounded down, of a rest rr. -/
structure DV (a b rr s d0 m1 d1 f : Nat) : Prop where
  hs : double.sub a (double.word (negB a) rr) = some s
  ns : NN s
  hd : double.div s b = some d0
  nd : NN d0
  c0 : rr = 0 → m1 = double.word (negB b) 0 ∧ d1 = d0
  c1 : rr ≠ 0 → negB a = negB b → m1 = double.word (negB a) rr ∧ d1 = d0
  c2 : rr ≠ 0 → negB a ≠ negB b → double.add (double.word (negB a) rr) b = some m1 ∧ double.sub d0 oneF = some d1
  nm : NN m1
  nd1 : NN d1
  f0 : zeroB d1 = true → f = double.word (negB a ^^ negB b) 0
  f1 : infB d1 = true → f = d1
  f2 : zeroB d1 = false → infB d1 = false → ∃ q, double.sub d1 (flB d1) = some q ∧ NN q ∧ ((double.order q halfF == some .gt) = true → double.add (flB d1) oneF = some f) ∧ ((double.order q halfF == some .gt) = false → f = flB d1)
  nf : NN f
theorem one_nn : nanB oneF = false ∧ infB oneF = false := by decide +kernel
theorem dv_ex (a b rr : Nat) (hb : b < 18446744073709551616) (hna : nanB a = false) (hia : infB a = false) (hnb : nanB b = false) (hzb : zeroB b = false) (hrr : rr < fIN) (hinf : infB b = true → rr = a % fSG) (ha : a < 18446744073709551616) : ∃ s d0 m1 d1 f, DV a b rr s d0 m1 d1 f := by
  obtain ⟨w1, w2, w3, w4⟩ := word_d (negB a) rr hrr
  have w5 : infB (double.word (negB a) rr) = false := by unfold infB; rw [w1, decide_eq_false_iff_not]; omega
  obtain ⟨s, hs, ns⟩ := sub_nn hna w4 (.inl hia)
  have hsb : infB s = false ∨ infB b = false := by
    cases hb2 : infB b
    · exact .inr rfl
    · left
      have e1 := hinf hb2
      have e2 : double.word (negB a) rr = a := by
        rw [e1]
        have e3 : fSG = 9223372036854775808 := rfl
        unfold Format.word
        rw [sw_d]
        cases hn : negB a
        · unfold negB at hn; rw [e3] at hn ⊢; simp at hn ⊢; omega
        · unfold negB at hn; rw [e3] at hn ⊢; simp at hn ⊢; omega
      rw [e2] at hs
      have e4 := sub_self hna
      unfold subB at e4
      rw [hs] at e4
      have e5 : a % fSG ≠ fIN := by unfold infB at hia; simpa using hia
      rw [if_neg e5] at e4
      have e6 : s = 0 := by
        have : outB (some s) = patB s := rfl
        rw [this] at e4
        unfold patB at e4
        rw [ns.1, if_neg (by simp)] at e4
        exact e4
      rw [e6]; rfl
  obtain ⟨d0, hd, nd⟩ := div_nn ns.1 hnb hzb hsb
  have key : ∃ m1 d1, (rr = 0 → m1 = double.word (negB b) 0 ∧ d1 = d0) ∧ (rr ≠ 0 → negB a = negB b → m1 = double.word (negB a) rr ∧ d1 = d0) ∧
      (rr ≠ 0 → negB a ≠ negB b → double.add (double.word (negB a) rr) b = some m1 ∧ double.sub d0 oneF = some d1) ∧ NN m1 ∧ NN d1 := by
    by_cases h0 : rr = 0
    · refine ⟨_, d0, fun _ => ⟨rfl, rfl⟩, fun h => absurd h0 h, fun h => absurd h0 h, ?_, nd⟩
      have := word_le (negB b) 0 (by decide)
      exact ⟨this.2.2.2, this.2.2.1⟩
    · by_cases hs2 : negB a = negB b
      · exact ⟨_, d0, fun h => absurd h h0, fun _ _ => ⟨rfl, rfl⟩, fun _ h => absurd hs2 h, ⟨w4, w3⟩, nd⟩
      · obtain ⟨m1, k1, k2⟩ := add_nn w4 hnb (.inl w5)
        obtain ⟨d1, k3, k4⟩ := sub_nn nd.1 one_nn.1 (.inr one_nn.2)
        exact ⟨m1, d1, fun h => absurd h h0, fun _ h => absurd h hs2, fun _ _ => ⟨k1, k3⟩, k2, k4⟩
  obtain ⟨m1, d1, a1, a2, a3, a4, a5⟩ := key
  cases hz : zeroB d1 with
  | true =>
    refine ⟨s, d0, m1, d1, double.word (negB a ^^ negB b) 0, hs, ns, hd, nd, a1, a2, a3, a4, a5, fun _ => rfl, fun h => ?_, fun h => ?_, ?_⟩
    · exfalso
      unfold zeroB at hz; unfold infB at h
      simp at hz h
      rw [hz] at h
      exact absurd h (by decide)
    · rw [hz] at h; cases h
    · have := word_le (negB a ^^ negB b) 0 (by decide)
      exact ⟨this.2.2.2, this.2.2.1⟩
  | false =>
    cases hi : infB d1 with
    | true => exact ⟨s, d0, m1, d1, d1, hs, ns, hd, nd, a1, a2, a3, a4, a5, fun h => absurd (hz.symm.trans h) (by simp), fun _ => rfl, fun _ h => absurd (hi.symm.trans h) (by simp), a5⟩
    | false =>
      obtain ⟨q, q1, q2⟩ := sub_nn a5.1 (fl_nn a5.1).1 (.inl hi)
      cases hg : (double.order q halfF == some .gt) with
      | true =>
        obtain ⟨f, f1, f2⟩ := add_nn (fl_nn a5.1).1 one_nn.1 (.inr one_nn.2)
        exact ⟨s, d0, m1, d1, f, hs, ns, hd, nd, a1, a2, a3, a4, a5, fun h => absurd (hz.symm.trans h) (by simp), fun h => absurd (hi.symm.trans h) (by simp), fun _ _ => ⟨q, q1, q2, fun _ => f1, fun h => absurd (hg.symm.trans h) (by simp)⟩, f2⟩
      | false =>
        exact ⟨s, d0, m1, d1, flB d1, hs, ns, hd, nd, a1, a2, a3, a4, a5, fun h => absurd (hz.symm.trans h) (by simp), fun h => absurd (hi.symm.trans h) (by simp), fun _ _ => ⟨q, q1, q2, fun h => absurd (hg.symm.trans h) (by simp), fun _ => rfl⟩, fl_nn a5.1⟩
end Go.Proofs.YtdkbhliafilghaaGreatDoor
