/- Layer 2: whole.mulAdd: a limb times a limb, with two more. -/
import Derived.Test.YtapeomcnjjfihaaDoorWDivBase
import Derived.Test.YtapeomcnjjfihaaDoorWDivLimb
import Derived.Test.YtapeomcnjjfihaaDoorWMulMath
namespace Go.Proofs.YtapeomcnjjfihaaDoor
open Go.ChangeShapes Go.WideShapes Go.ChangeAt Go.RowKit
set_option linter.unusedVariables false
set_option linter.unusedSimpArgs false
theorem div64_none (lo y : Int) (hl : 0 ≤ lo ∧ lo ≤ 18446744073709551615) (hy : 0 < y ∧ y ≤ 18446744073709551615) (w : World) :
    Calls Tryd.prog 99 #[.int .u64 0, .int .u64 lo, .int .u64 y] w (D64Q w 0 lo y) := by
  have h0 : (y == 0) = false := by simp; omega
  have h0' : ¬ y = 0 := by omega
  have h1 : ¬ y ≤ 0 := by omega
  go_enter Tryd.func99, Tryd.ntmps99
  go_wp2
  go_region
  go_wp2
  go_ret2
  exact ⟨lo / y, lo % y, rfl, by rw [Int.mul_comm (lo / y)]; have := Int.mul_ediv_add_emod lo y; omega, Int.ediv_nonneg hl.1 (by omega), Int.emod_nonneg _ h0', Int.emod_lt_of_pos _ hy.1, 1, rfl⟩
theorem div64_b18 (hi lo : Int) (hh : 0 ≤ hi ∧ hi < 1000000000000000000) (hl : 0 ≤ lo ∧ lo ≤ 18446744073709551615) (w : World) :
    Calls Tryd.prog 99 #[.int .u64 hi, .int .u64 lo, .int .u64 1000000000000000000] w (D64Q w hi lo 1000000000000000000) := by
  by_cases h : hi = 0
  · subst h; exact div64_none lo _ hl (by omega) w
  · exact div64_base hi lo (by omega) hl w
theorem mul64_any (x y : Int) (hx : 0 ≤ x ∧ x ≤ 18446744073709551615) (hy : 0 ≤ y ∧ y ≤ 18446744073709551615) (w : World) :
    Calls Tryd.prog 97 #[.int .u64 x, .int .u64 y] w fun e w' => (∃ hi lo : Int, e = .returned (.tuple #[.int .u64 hi, .int .u64 lo]) ∧ hi * 18446744073709551616 + lo = x * y ∧ 0 ≤ hi ∧ 0 ≤ lo ∧ lo ≤ 18446744073709551615) ∧ w = w' := by
  obtain ⟨x, rfl⟩ := Int.eq_ofNat_of_zero_le hx.1
  obtain ⟨y, rfl⟩ := Int.eq_ofNat_of_zero_le hy.1
  refine (Tryd.bits_Mul64 x y (by omega) (by omega) w).mono ?_
  rintro e w' ⟨rfl, rfl⟩
  refine ⟨⟨_, _, rfl, ?_, by omega, by omega, by omega⟩, rfl⟩
  rw [← Int.natCast_mul]
  generalize x * y = z
  omega
/-- mulAdd's answer. -/
def MulAddQ (W : World) (p q r s : Int) (e : Ending) (w' : World) : Prop :=
  ∃ l c : Int, e = .returned (.tuple #[.int .u64 l, .int .u64 c]) ∧ p * q + r + s = c * B18 + l ∧ (0 ≤ l ∧ l < B18) ∧ (0 ≤ c ∧ c < B18) ∧ ∃ n, w' = W.drewN n
set_option maxRecDepth 100000 in
set_option maxHeartbeats 4000000 in
theorem mulAdd_any (p q r s : Int) (hp : 0 ≤ p ∧ p < B18) (hq : 0 ≤ q ∧ q < B18) (hr : 0 ≤ r ∧ r < B18) (hs : 0 ≤ s ∧ s < B18) (w : World) :
    Calls Tryd.prog 79 #[.int .u64 p, .int .u64 q, .int .u64 r, .int .u64 s] w (MulAddQ w p q r s) := by
  have HB := Lib.hid (mul_bound hp hq hr hs)
  have HP := Lib.hid hp
  have HQ := Lib.hid hq
  have hr2 : 0 ≤ r ∧ r ≤ 18446744073709551615 := by rw [B18] at hr; omega
  have hs2 : 0 ≤ s ∧ s ≤ 18446744073709551615 := by rw [B18] at hs; omega
  have hp2 : 0 ≤ p ∧ p ≤ 18446744073709551615 := by rw [B18] at hp; omega
  have hq2 : 0 ≤ q ∧ q ≤ 18446744073709551615 := by rw [B18] at hq; omega
  have HR := Lib.hid hr
  have HS := Lib.hid hs
  clear hp hq hr hs
  go_enter Tryd.func79, Tryd.ntmps79
  go_wp2_with (go_at_call 97; (with_reducible refine (mul64_any p q hp2 hq2 _).mono ?_); rintro e w2 ⟨⟨hi, lo, rfl, hm, hi0, lo0, lo1⟩, rfl⟩; have HM := Lib.hid hm; clear hm)
  obtain ⟨lo2, c, hadd, hac, hl0, hl1, hq0, hq1⟩ := add64_at lo r ⟨lo0, lo1⟩ hr2 w
  rw [hadd]
  have hm := HM.out
  have hb := HB.out
  simp only [B18] at hb
  generalize p * q = z at hm hb
  have hhi : hi + c + 1 ≤ 1000000000000000000 := by omega
  have hwr : IntKind.u64.wrap (hi + c) = hi + c := by rw [IntKind.wrap_u64]; omega
  have HAC := Lib.hid hac
  clear hadd hm hb hac
  go_wp2_with fail
  obtain ⟨lo3, d, hadd, had, hl2, hl3, hd0, hd1⟩ := add64_at lo2 s ⟨hl0, hl1⟩ hs2 w
  rw [hadd]
  have hm := HM.out
  have hb := HB.out
  have hac := HAC.out
  simp only [B18] at hb
  generalize hz : p * q = z at hm hb
  have hhi2 : 0 ≤ hi + c + d ∧ hi + c + d < 1000000000000000000 := by omega
  have hwr2 : IntKind.u64.wrap (hi + c + d) = hi + c + d := by rw [IntKind.wrap_u64]; omega
  have HE := Lib.hid (show (hi + c + d) * 18446744073709551616 + lo3 = p * q + r + s by rw [hz]; omega)
  clear hadd hm hb hac had hz
  go_wp2_with (go_at_call 99; (with_reducible refine (div64_b18 _ _ hhi2 ⟨hl2, hl3⟩ _).mono ?_); rintro e w3 ⟨k, l, rfl, hkl, hk0, hl0', hl1', n, rfl⟩; have HK := Lib.hid hkl; clear hkl)
  go_ret2
  have he := HE.out
  have hk := HK.out
  have hb := HB.out
  rw [he] at hk
  simp only [B18] at hb
  have hkb : k < 1000000000000000000 := by omega
  exact ⟨l, k, rfl, hk, ⟨hl0', hl1'⟩, ⟨hk0, hkb⟩, n, rfl⟩
end Go.Proofs.YtapeomcnjjfihaaDoor
