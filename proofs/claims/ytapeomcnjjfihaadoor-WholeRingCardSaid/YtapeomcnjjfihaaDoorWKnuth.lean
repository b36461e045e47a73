/- Layer 2: the plain mathematics of a division of two words by one, in halves. -/
import Derived.Test.YtapeomcnjjfihaaDoorWordPure
namespace Go.Proofs.YtapeomcnjjfihaaDoor
set_option linter.unusedVariables false
set_option linter.unusedSimpArgs false
/-- A guess q at h * 2^32 + d by y = y1 * 2^32 + y0, with its rest r over the upper half. -/
structure DInv (y1 y0 h d q r : Int) : Prop where
  sum : q * y1 + r = h
  r0 : 0 ≤ r
  r1 : r < 4294967296
  q0 : 0 ≤ q
  q1 : q ≤ 4294967297
  up : h * 4294967296 + d < (q + 1) * (y1 * 4294967296 + y0)
structure DArg (y1 y0 h d : Int) : Prop where
  a1 : 2147483648 ≤ y1
  b1 : y1 < 4294967296
  a0 : 0 ≤ y0
  b0 : y0 < 4294967296
  h0 : 0 ≤ h
  h1 : h < y1 * 4294967296 + y0
  d0 : 0 ≤ d
  d1 : d < 4294967296
/-- What a guess that is right says. -/
structure DOut (y h d q : Int) : Prop where
  q0 : 0 ≤ q
  lo : q * y ≤ h * 4294967296 + d
  hi : h * 4294967296 + d < (q + 1) * y
theorem mul_le_mul_nn {a b c : Int} (h : a ≤ b) (hc : 0 ≤ c) : a * c ≤ b * c := Int.mul_le_mul_of_nonneg_right h hc
theorem DInv.start {y1 y0 h d : Int} (A : DArg y1 y0 h d) : DInv y1 y0 h d (h / y1) (h - h / y1 * y1) := by
  obtain ⟨a1, b1, a0, b0, h0, h1, d0, d1⟩ := A
  have e1 := Int.mul_ediv_add_emod h y1
  have e2 := Int.emod_nonneg h (show y1 ≠ 0 by omega)
  have e3 := Int.emod_lt_of_pos h (show 0 < y1 by omega)
  have e4 := Int.ediv_nonneg h0 (show 0 ≤ y1 by omega)
  rw [Int.mul_comm] at e1
  generalize h % y1 = r at *
  generalize hq : h / y1 = q at *
  have hq1 : q ≤ 4294967297 := by
    by_cases hh : q ≤ 4294967297
    · exact hh
    · have := mul_le_mul_nn (show (4294967298 : Int) ≤ q by omega) (show 0 ≤ y1 by omega)
      omega
  refine ⟨by omega, by omega, by omega, e4, hq1, ?_⟩
  have e5 : (q + 1) * (y1 * 4294967296 + y0) = (q * y1 + y1) * 4294967296 + (q + 1) * y0 := by
    rw [Int.mul_add, ← Int.mul_assoc, Int.add_mul q 1 y1, Int.one_mul]
  have e6 : 0 ≤ (q + 1) * y0 := Int.mul_nonneg (by omega) a0
  rw [e5]
  omega
theorem DInv.exit {y1 y0 h d q r : Int} (A : DArg y1 y0 h d) (I : DInv y1 y0 h d q r) (hq : q < 4294967296) (ht : q * y0 ≤ 4294967296 * r + d) : DOut (y1 * 4294967296 + y0) h d q := by
  obtain ⟨s, r0, r1, q0, q1, up⟩ := I
  refine ⟨q0, ?_, up⟩
  have e5 : q * (y1 * 4294967296 + y0) = (q * y1) * 4294967296 + q * y0 := by rw [Int.mul_add, ← Int.mul_assoc]
  rw [e5]
  omega
theorem DInv.next {y1 y0 h d q r : Int} (A : DArg y1 y0 h d) (I : DInv y1 y0 h d q r) (ht : 4294967296 ≤ q ∨ 4294967296 * r + d < q * y0) :
    1 ≤ q ∧ (q - 1) * y1 + (r + y1) = h ∧ h * 4294967296 + d < ((q - 1) + 1) * (y1 * 4294967296 + y0) := by
  obtain ⟨s, r0, r1, q0, q1, up⟩ := I
  obtain ⟨a1, b1, a0, b0, h0, h1, d0, d1⟩ := A
  have hq : 1 ≤ q := by
    rcases ht with ht | ht
    · omega
    · by_cases hz : q = 0
      · subst hz; simp at ht; omega
      · omega
  refine ⟨hq, by rw [Int.sub_mul]; omega, ?_⟩
  have e5 : (q - 1 + 1) * (y1 * 4294967296 + y0) = (q * y1) * 4294967296 + q * y0 := by
    rw [show q - 1 + 1 = q by omega, Int.mul_add, ← Int.mul_assoc]
  rcases ht with ht | ht
  · have := mul_le_mul_nn ht (show 0 ≤ y1 * 4294967296 + y0 by omega)
    have e6 : q * (y1 * 4294967296 + y0) = (q * y1) * 4294967296 + q * y0 := by rw [Int.mul_add, ← Int.mul_assoc]
    rw [e5, ← e6]
    omega
  · rw [e5]; omega
theorem DInv.step {y1 y0 h d q r : Int} (A : DArg y1 y0 h d) (I : DInv y1 y0 h d q r) (ht : 4294967296 ≤ q ∨ 4294967296 * r + d < q * y0) (hr : r + y1 < 4294967296) : DInv y1 y0 h d (q - 1) (r + y1) := by
  have hn := I.next A ht
  have := I.r0; have := I.q1; have := A.a1
  exact ⟨hn.2.1, by omega, hr, by omega, by omega, hn.2.2⟩
theorem DInv.leave {y1 y0 h d q r : Int} (A : DArg y1 y0 h d) (I : DInv y1 y0 h d q r) (ht : 4294967296 ≤ q ∨ 4294967296 * r + d < q * y0) (hr : 4294967296 ≤ r + y1) : DOut (y1 * 4294967296 + y0) h d (q - 1) := by
  have hn := I.next A ht
  have h1 := I.q1
  refine ⟨by omega, ?_, hn.2.2⟩
  have e5 : (q - 1) * (y1 * 4294967296 + y0) = ((q - 1) * y1) * 4294967296 + (q - 1) * y0 := by rw [Int.mul_add, ← Int.mul_assoc]
  have e6 := mul_le_mul_nn (show q - 1 ≤ 4294967296 by omega) A.a0
  have := A.b0; have := A.d0
  rw [e5]
  omega
theorem DOut.lt {y h d q : Int} (O : DOut y h d q) (hy : 0 < y) (hh : h < y) (hd : d < 4294967296) : q < 4294967296 := by
  by_cases hq : q < 4294967296
  · exact hq
  · have := mul_le_mul_nn (show 4294967296 ≤ q by omega) (show 0 ≤ y by omega)
    have := O.lo
    omega
theorem DOut.rest {y h d q : Int} (O : DOut y h d q) : 0 ≤ h * 4294967296 + d - q * y ∧ h * 4294967296 + d - q * y < y := by
  have h1 := O.lo; have h2 := O.hi
  rw [Int.add_mul, Int.one_mul] at h2
  omega
/-- The two halves together. -/
theorem DOut.both {y h d1 d0 q1 q0 : Int} (O1 : DOut y h d1 q1) (O0 : DOut y (h * 4294967296 + d1 - q1 * y) d0 q0) :
    (h * 4294967296 + d1) * 4294967296 + d0 = (q1 * 4294967296 + q0) * y + ((h * 4294967296 + d1 - q1 * y) * 4294967296 + d0 - q0 * y) := by
  have e : (q1 * 4294967296 + q0) * y = (q1 * y) * 4294967296 + q0 * y := by
    rw [Int.add_mul, Int.mul_right_comm]
  rw [e]
  omega
/-- Scaled by 16, the rest is 16 times the rest. -/
theorem knuth16 {n q y r : Int} (e : 16 * n = q * (16 * y) + r) (h0 : 0 ≤ r) (h1 : r < 16 * y) : n = q * y + r / 16 ∧ 0 ≤ r / 16 ∧ r / 16 < y := by
  have e2 : q * (16 * y) = 16 * (q * y) := by rw [Int.mul_left_comm]
  rw [e2] at e
  omega
end Go.Proofs.YtapeomcnjjfihaaDoor
