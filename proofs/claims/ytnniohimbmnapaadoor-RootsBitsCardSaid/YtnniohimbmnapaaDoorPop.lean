/- Counting the bits of a word of 64 bits by sums in fields: plain mathematics. -/
import Derived.Laws.BitsAllLaws
namespace Go.Proofs.YtnniohimbmnapaaDoor
open Go
set_option linter.unusedVariables false
set_option linter.unusedSimpArgs false
/-- Bytes, the lowest first. -/
def val8 : List Nat → Nat
  | [] => 0
  | a :: l => a + 256 * val8 l
def rep8 (c : Nat) : Nat → Nat
  | 0 => 0
  | k + 1 => c + 256 * rep8 c k
theorem and_cons {a c : Nat} (y m : Nat) (ha : a < 256) (hc : c < 256) : (a + 256 * y) &&& (c + 256 * m) = (a &&& c) + 256 * (y &&& m) := by
  have hac : a &&& c < 256 := Nat.lt_of_le_of_lt Nat.and_le_left ha
  apply Nat.eq_of_testBit_eq
  intro j
  rw [Nat.testBit_and, show a + 256 * y = 2 ^ 8 * y + a by omega, show c + 256 * m = 2 ^ 8 * m + c by omega, show (a &&& c) + 256 * (y &&& m) = 2 ^ 8 * (y &&& m) + (a &&& c) by omega,
    Nat.testBit_two_pow_mul_add _ (by simpa using ha), Nat.testBit_two_pow_mul_add _ (by simpa using hc), Nat.testBit_two_pow_mul_add _ (by simpa using hac)]
  split
  · rw [Nat.testBit_and]
  · rw [Nat.testBit_and]
def s1 (a : Nat) : Nat := (a / 2 &&& 85) + (a &&& 85)
def s2 (a : Nat) : Nat := (a / 4 &&& 51) + (a &&& 51)
def s3 (a : Nat) : Nat := (a / 16 + a) % 16
theorem s1_low : ∀ a, a < 256 → ∀ t, t < 2 → (a / 2 + 128 * t) &&& 85 = a / 2 &&& 85 := by decide +kernel
theorem s2_low : ∀ a, a < 256 → ∀ t, t < 4 → (a / 4 + 64 * t) &&& 51 = a / 4 &&& 51 := by decide +kernel
theorem s1_lt : ∀ a, a < 256 → s1 a < 256 := by decide +kernel
theorem s2_nib : ∀ a, a < 256 → s2 (s1 a) % 16 ≤ 4 ∧ s2 (s1 a) / 16 ≤ 4 := by decide +kernel
theorem s3_pop : ∀ a, a < 256 → s3 (s2 (s1 a)) = (List.range 8).countP fun j => a.testBit j := by decide +kernel
theorem stage1 : ∀ (bs : List Nat), (∀ b ∈ bs, b < 256) → (val8 bs / 2 &&& rep8 85 bs.length) + (val8 bs &&& rep8 85 bs.length) = val8 (bs.map s1)
  | [], _ => rfl
  | a :: bs, h => by
    have ih := stage1 bs (fun b hb => h b (by simp [hb]))
    have ha := h a (by simp)
    show ((a + 256 * val8 bs) / 2 &&& (85 + 256 * rep8 85 bs.length)) + ((a + 256 * val8 bs) &&& (85 + 256 * rep8 85 bs.length)) = s1 a + 256 * val8 (bs.map s1)
    have e : (a + 256 * val8 bs) / 2 = (a / 2 + 128 * (val8 bs % 2)) + 256 * (val8 bs / 2) := by omega
    rw [e, and_cons _ _ (by omega) (by decide), and_cons _ _ ha (by decide), s1_low a ha _ (Nat.mod_lt _ (by decide)), ← ih]
    unfold s1
    omega
theorem stage2 : ∀ (bs : List Nat), (∀ b ∈ bs, b < 256) → (val8 bs / 4 &&& rep8 51 bs.length) + (val8 bs &&& rep8 51 bs.length) = val8 (bs.map s2)
  | [], _ => rfl
  | a :: bs, h => by
    have ih := stage2 bs (fun b hb => h b (by simp [hb]))
    have ha := h a (by simp)
    show ((a + 256 * val8 bs) / 4 &&& (51 + 256 * rep8 51 bs.length)) + ((a + 256 * val8 bs) &&& (51 + 256 * rep8 51 bs.length)) = s2 a + 256 * val8 (bs.map s2)
    have e : (a + 256 * val8 bs) / 4 = (a / 4 + 64 * (val8 bs % 4)) + 256 * (val8 bs / 4) := by omega
    rw [e, and_cons _ _ (by omega) (by decide), and_cons _ _ ha (by decide), s2_low a ha _ (Nat.mod_lt _ (by decide)), ← ih]
    unfold s2
    omega
theorem nib_head {bs : List Nat} (h : ∀ b ∈ bs, b % 16 ≤ 4 ∧ b / 16 ≤ 4) : val8 bs % 16 ≤ 4 := by
  cases bs with
  | nil => simp [val8]
  | cons a bs =>
    have := h a (by simp)
    show (a + 256 * val8 bs) % 16 ≤ 4
    omega
theorem stage3 : ∀ (bs : List Nat), (∀ b ∈ bs, b % 16 ≤ 4 ∧ b / 16 ≤ 4) → ((val8 bs / 16 + val8 bs) &&& rep8 15 bs.length) = val8 (bs.map s3)
  | [], _ => rfl
  | a :: bs, h => by
    have ih := stage3 bs (fun b hb => h b (by simp [hb]))
    have ha := h a (by simp)
    have hn := nib_head (fun b hb => h b (by simp [hb]) : ∀ b ∈ bs, b % 16 ≤ 4 ∧ b / 16 ≤ 4)
    show (((a + 256 * val8 bs) / 16 + (a + 256 * val8 bs)) &&& (15 + 256 * rep8 15 bs.length)) = s3 a + 256 * val8 (bs.map s3)
    have e : (a + 256 * val8 bs) / 16 + (a + 256 * val8 bs) = (a / 16 + 16 * (val8 bs % 16) + a) + 256 * (val8 bs / 16 + val8 bs) := by omega
    have e15 : (a / 16 + 16 * (val8 bs % 16) + a) &&& 15 = s3 a := by
      rw [show (15 : Nat) = 2 ^ 4 - 1 from rfl, Nat.and_two_pow_sub_one_eq_mod]
      unfold s3
      omega
    rw [e, and_cons _ _ (by omega) (by decide), ih, e15]
/-- The bits of a number, of so many bytes. -/
theorem pop_bytes : ∀ (bs : List Nat), (∀ b ∈ bs, b < 256) → ((List.range (8 * bs.length)).countP fun j => (val8 bs).testBit j) = (bs.map fun b => (List.range 8).countP fun j => b.testBit j).sum
  | [], _ => by simp
  | a :: bs, h => by
    have ih := pop_bytes bs (fun b hb => h b (by simp [hb]))
    have ha := h a (by simp)
    have hb : ∀ j, (val8 (a :: bs)).testBit j = if j < 8 then a.testBit j else (val8 bs).testBit (j - 8) := fun j => by
      show (a + 256 * val8 bs).testBit j = _
      rw [show a + 256 * val8 bs = 2 ^ 8 * val8 bs + a by omega, Nat.testBit_two_pow_mul_add _ (by simpa using ha)]
    rw [List.length_cons, show 8 * (bs.length + 1) = 8 + 8 * bs.length by omega, List.range_add, List.countP_append, List.countP_map]
    simp only [List.map_cons, List.sum_cons]
    rw [← ih]
    congr 1
    · refine List.countP_congr fun j hj => ?_
      have := List.mem_range.1 hj
      rw [hb j, if_pos this]
    · refine List.countP_congr fun j hj => ?_
      simp only [Function.comp]
      rw [hb, if_neg (by omega), show 8 + j - 8 = j by omega]
def byteL (x : Nat) : List Nat := [x % 256, x / 256 % 256, x / 65536 % 256, x / 16777216 % 256, x / 4294967296 % 256, x / 1099511627776 % 256, x / 281474976710656 % 256, x / 72057594037927936]
theorem byteL_val (x : Nat) : val8 (byteL x) = x := by
  unfold byteL val8 val8 val8 val8 val8 val8 val8 val8 val8
  omega
theorem byteL_lt {x : Nat} (hx : x < 18446744073709551616) : ∀ b ∈ byteL x, b < 256 := by
  unfold byteL
  intro b hb
  simp only [List.mem_cons, List.not_mem_nil, or_false] at hb
  rcases hb with rfl | rfl | rfl | rfl | rfl | rfl | rfl | rfl <;> omega
/-- How many bits are set. -/
def popW (x : Nat) : Nat := (List.range 64).countP fun j => x.testBit j
def pA (x : Nat) : Nat := (x / 2 &&& 6148914691236517205) + (x &&& 6148914691236517205)
def pB (x : Nat) : Nat := (x / 4 &&& 3689348814741910323) + (x &&& 3689348814741910323)
def pC (x : Nat) : Nat := (x / 16 + x) &&& 1085102592571150095
theorem rep_m0 : rep8 85 8 = 6148914691236517205 := by decide
theorem rep_m1 : rep8 51 8 = 3689348814741910323 := by decide
theorem rep_m2 : rep8 15 8 = 1085102592571150095 := by decide
theorem pABC {x : Nat} (hx : x < 18446744073709551616) : pC (pB (pA x)) = val8 ((byteL x).map fun b => (List.range 8).countP fun j => b.testBit j) := by
  have hb := byteL_lt hx
  have h1 := stage1 (byteL x) hb
  rw [byteL_val, show (byteL x).length = 8 from rfl, rep_m0] at h1
  have h2 := stage2 ((byteL x).map s1) (fun b hb' => by obtain ⟨a, ha, rfl⟩ := List.mem_map.1 hb'; exact s1_lt a (hb a ha))
  rw [← h1, show ((byteL x).map s1).length = 8 from rfl, rep_m1] at h2
  have h3 := stage3 (((byteL x).map s1).map s2) (fun b hb' => by
    obtain ⟨a1, ha1, rfl⟩ := List.mem_map.1 hb'
    obtain ⟨a2, ha2, rfl⟩ := List.mem_map.1 ha1
    exact s2_nib a2 (hb a2 ha2))
  rw [← h2, show (((byteL x).map s1).map s2).length = 8 from rfl, rep_m2] at h3
  show pC (pB (pA x)) = _
  unfold pC pB pA
  rw [h3, List.map_map, List.map_map]
  congr 1
  exact List.map_congr_left fun b hb' => by simp only [Function.comp]; exact s3_pop b (hb b hb')
theorem pop8_le (b : Nat) : ((List.range 8).countP fun j => b.testBit j) ≤ 8 := by
  have := List.countP_le_length (p := fun j => b.testBit j) (l := List.range 8)
  simpa using this
theorem dv (A B M : Nat) (h : A < M) : (A + M * B) / M = B := by
  rw [Nat.add_mul_div_left _ _ (by omega), Nat.div_eq_of_lt h, Nat.zero_add]
theorem fold3 {p0 X x3 : Nat} (h0 : p0 ≤ 8) (e3 : x3 = p0 + 256 * X) : x3 / 256 = X := by
  rw [e3]; exact dv _ _ _ (by omega)
theorem fold4 {p0 p1 p2 p3 p4 p5 p6 p7 x4 : Nat} (h0 : p0 ≤ 8) (h1 : p1 ≤ 8) (h2 : p2 ≤ 8)
   (h4' : x4 = p0 + 256 * (p1 + 256 * (p2 + 256 * (p3 + 256 * (p4 + 256 * (p5 + 256 * (p6 + 256 * p7)))))) + (p1 + 256 * (p2 + 256 * (p3 + 256 * (p4 + 256 * (p5 + 256 * (p6 + 256 * p7))))))) :
    x4 / 65536 = (p2 + p3) + 256 * ((p3 + p4) + 256 * ((p4 + p5) + 256 * ((p5 + p6) + 256 * ((p6 + p7) + 256 * p7)))) := by
  have e4 : x4 = ((p0 + p1) + 256 * (p1 + p2)) + 65536 * ((p2 + p3) + 256 * ((p3 + p4) + 256 * ((p4 + p5) + 256 * ((p5 + p6) + 256 * ((p6 + p7) + 256 * p7))))) := by
    clear h0 h1 h2
    omega
  rw [e4]
  exact dv _ _ _ (by omega)
theorem fold5 {p0 p1 p2 p3 p4 p5 p6 p7 x4 x5 : Nat} (h0 : p0 ≤ 8) (h1 : p1 ≤ 8) (h2 : p2 ≤ 8) (h3 : p3 ≤ 8) (h4 : p4 ≤ 8) (h5 : p5 ≤ 8) (h6 : p6 ≤ 8)
   (h4' : x4 = p0 + 256 * (p1 + 256 * (p2 + 256 * (p3 + 256 * (p4 + 256 * (p5 + 256 * (p6 + 256 * p7)))))) + (p1 + 256 * (p2 + 256 * (p3 + 256 * (p4 + 256 * (p5 + 256 * (p6 + 256 * p7)))))))
   (h5' : x5 = x4 + ((p2 + p3) + 256 * ((p3 + p4) + 256 * ((p4 + p5) + 256 * ((p5 + p6) + 256 * ((p6 + p7) + 256 * p7)))))) :
    x5 / 4294967296 = (p4 + p5 + p6 + p7) + 256 * ((p5 + p6 + p7) + 256 * ((p6 + p7) + 256 * p7)) := by
  have e5 : x5 = ((p0 + p1 + p2 + p3) + 256 * ((p1 + p2 + p3 + p4) + 256 * ((p2 + p3 + p4 + p5) + 256 * (p3 + p4 + p5 + p6)))) + 4294967296 * ((p4 + p5 + p6 + p7) + 256 * ((p5 + p6 + p7) + 256 * ((p6 + p7) + 256 * p7))) := by
    clear h0 h1 h2 h3 h4 h5 h6
    omega
  rw [e5]
  exact dv _ _ _ (by omega)
theorem fold6 {p0 p1 p2 p3 p4 p5 p6 p7 x4 x5 x6 : Nat} (h0 : p0 ≤ 8) (h1 : p1 ≤ 8) (h2 : p2 ≤ 8) (h3 : p3 ≤ 8) (h4 : p4 ≤ 8) (h5 : p5 ≤ 8) (h6 : p6 ≤ 8) (h7 : p7 ≤ 8)
   (h4' : x4 = p0 + 256 * (p1 + 256 * (p2 + 256 * (p3 + 256 * (p4 + 256 * (p5 + 256 * (p6 + 256 * p7)))))) + (p1 + 256 * (p2 + 256 * (p3 + 256 * (p4 + 256 * (p5 + 256 * (p6 + 256 * p7)))))))
   (h5' : x5 = x4 + ((p2 + p3) + 256 * ((p3 + p4) + 256 * ((p4 + p5) + 256 * ((p5 + p6) + 256 * ((p6 + p7) + 256 * p7))))))
   (h6' : x6 = x5 + ((p4 + p5 + p6 + p7) + 256 * ((p5 + p6 + p7) + 256 * ((p6 + p7) + 256 * p7)))) :
    x6 < 9223372036854775808 ∧ x6 % 128 = p0 + p1 + p2 + p3 + p4 + p5 + p6 + p7 := by
  have e6 : x6 = (p0 + p1 + p2 + p3 + p4 + p5 + p6 + p7) + 128 * (2 * ((p1 + p2 + p3 + p4 + p5 + p6 + p7) + 256 * ((p2 + p3 + p4 + p5 + p6 + p7) + 256 * ((p3 + p4 + p5 + p6 + p7) + 256 * ((p4 + p5 + p6 + p7) + 256 * ((p5 + p6 + p7) + 256 * ((p6 + p7) + 256 * p7))))))) := by
    clear h0 h1 h2 h3 h4 h5 h6 h7
    omega
  clear h4' h5' h6'
  refine ⟨by omega, ?_⟩
  rw [e6, Nat.add_mul_mod_self_left, Nat.mod_eq_of_lt (by omega)]
theorem fold_bytes {p0 p1 p2 p3 p4 p5 p6 p7 x3 : Nat} (h0 : p0 ≤ 8) (h1 : p1 ≤ 8) (h2 : p2 ≤ 8) (h3 : p3 ≤ 8) (h4 : p4 ≤ 8) (h5 : p5 ≤ 8) (h6 : p6 ≤ 8) (h7 : p7 ≤ 8) (hx : x3 = val8 [p0, p1, p2, p3, p4, p5, p6, p7])
    {x4 x5 x6 : Nat} (h4' : x4 = x3 + x3 / 256) (h5' : x5 = x4 + x4 / 65536) (h6' : x6 = x5 + x5 / 4294967296) : x3 < 1152921504606846976 ∧ x6 < 9223372036854775808 ∧ x6 % 128 = p0 + p1 + p2 + p3 + p4 + p5 + p6 + p7 := by
  have e3 : x3 = p0 + 256 * (p1 + 256 * (p2 + 256 * (p3 + 256 * (p4 + 256 * (p5 + 256 * (p6 + 256 * p7)))))) := by rw [hx]; rfl
  clear hx
  rw [fold3 h0 e3, e3] at h4'
  rw [fold4 h0 h1 h2 h4'] at h5'
  rw [fold5 h0 h1 h2 h3 h4 h5 h6 h4' h5'] at h6'
  have h := fold6 h0 h1 h2 h3 h4 h5 h6 h7 h4' h5' h6'
  clear h4' h5' h6'
  exact ⟨by omega, h⟩
/-- The sums in fields give the number of bits. -/
theorem pop_all {x : Nat} (hx : x < 18446744073709551616) {x4 x5 x6 : Nat} (h4 : x4 = pC (pB (pA x)) + pC (pB (pA x)) / 256) (h5 : x5 = x4 + x4 / 65536) (h6 : x6 = x5 + x5 / 4294967296) :
    pC (pB (pA x)) < 1152921504606846976 ∧ x6 < 9223372036854775808 ∧ x6 % 128 = popW x := by
  have h := pABC hx
  have hb := pop_bytes (byteL x) (byteL_lt hx)
  rw [byteL_val, show (byteL x).length = 8 from rfl] at hb
  obtain ⟨f1, f2, f3⟩ := fold_bytes (pop8_le (x % 256)) (pop8_le (x / 256 % 256)) (pop8_le (x / 65536 % 256)) (pop8_le (x / 16777216 % 256)) (pop8_le (x / 4294967296 % 256)) (pop8_le (x / 1099511627776 % 256)) (pop8_le (x / 281474976710656 % 256)) (pop8_le (x / 72057594037927936)) h h4 h5 h6
  refine ⟨f1, f2, f3.trans ?_⟩
  clear h h4 h5 h6 f1 f2 f3
  show _ = (List.range 64).countP fun j => x.testBit j
  rw [show (64 : Nat) = 8 * 8 from rfl, hb]
  simp only [byteL, List.map_cons, List.map_nil, List.sum_cons, List.sum_nil, Nat.add_zero, Nat.add_assoc]
end Go.Proofs.YtnniohimbmnapaaDoor
