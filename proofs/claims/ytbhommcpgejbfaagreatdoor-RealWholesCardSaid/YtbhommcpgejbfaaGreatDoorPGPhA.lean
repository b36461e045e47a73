/- strconv's parseFloat64: its small parts. strconv's parseFloat64: rounding, packing. strconv's parseFloat64: pack64. strconv's parseFloat64: pack64 beyond the range; log2Pow10. -/
import Derived.Test.YtbhommcpgejbfaaGreatDoorPGPgB
namespace Go.Proofs.YtbhommcpgejbfaaGreatDoor
section
open Go Go.ChangeShapes Go.WideShapes Go.RowKit
set_option linter.unusedVariables false
set_option linter.unusedSimpArgs false
theorem bool2u_any (t : Bool) (w : World) : Calls Tryz.prog 113 #[.bool t] w fun e w' => e = .returned (.int .u64 (if t = true then 1 else 0)) ∧ w = w' := by
  cases t
  all_goals
    go_enter Tryz.func113, Tryz.ntmps113
    go_wp2_with fail
    go_ret
    exact ⟨rfl, rfl⟩
theorem bool2i_any (t : Bool) (w : World) : Calls Tryz.prog 120 #[.bool t] w fun e w' => e = .returned (.int .i64 (if t = true then 1 else 0)) ∧ w = w' := by
  cases t
  all_goals
    go_enter Tryz.func120, Tryz.ntmps120
    go_wp2_with fail
    go_ret
    exact ⟨rfl, rfl⟩
theorem bool2r_any (t : Bool) (w : World) : Calls Tryz.prog 182 #[.bool t] w fun e w' => e = .returned (.int .u64 (if t = true then 1 else 0)) ∧ w = w' := by
  cases t
  all_goals
    go_enter Tryz.func182, Tryz.ntmps182
    go_wp2_with fail
    go_ret
    exact ⟨rfl, rfl⟩
theorem unmin53 (w : World) : Calls Tryz.prog 154 #[.int .u64 9007199254740992] w fun e w' => e = .returned (.int .u64 36028797018963966) ∧ w = w' := by
  go_enter Tryz.func154, Tryz.ntmps154
  go_wp2_with fail
  go_ret
  exact ⟨rfl, rfl⟩
end
section
open Go Go.ChangeShapes Go.WideShapes Go.RowKit
set_option linter.unusedVariables false
set_option linter.unusedSimpArgs false
theorem and_one (x : Nat) (hx : x < 18446744073709551616) : bits .and .u64 (x : Int) 1 = ((x % 2 : Nat) : Int) := by
  have h := u64_and_nat x 1 hx (by omega)
  rw [Nat.and_one_is_mod] at h
  exact h
theorem round_any (u : Nat) (hu : u < 72057594037927936) (w : World) : Calls Tryz.prog 156 #[.int .u64 (u : Int)] w fun e w' => e = .returned (.int .u64 (((u + 1 + u / 4 % 2) / 4 : Nat) : Int)) ∧ w = w' := by
  have h1 : bits .and .u64 ((u : Int) / 4) 1 = ((u / 4 % 2 : Nat) : Int) := and_one (u / 4) (by omega)
  have h2 : IntKind.u64.wrap ((u : Int) + 1) = ((u + 1 : Nat) : Int) := by rw [IntWalk.u64_in _ (by omega)]; omega
  have h3 : IntKind.u64.wrap (((u + 1 : Nat) : Int) + ((u / 4 % 2 : Nat) : Int)) = ((u + 1 + u / 4 % 2 : Nat) : Int) := by rw [IntWalk.u64_in _ (by omega)]; omega
  obtain ⟨y, hy⟩ : ∃ y, u / 4 % 2 = y := ⟨_, rfl⟩
  obtain ⟨z, hz⟩ : ∃ z, u + 1 = z := ⟨_, rfl⟩
  obtain ⟨v, hv⟩ : ∃ v, z + y = v := ⟨_, rfl⟩
  rw [hy] at h1
  rw [hz, hy] at h3
  rw [hz] at h2
  rw [hv] at h3
  have HR := Lib.hid (show ((v / 4 : Nat) : Int) = (((u + 1 + u / 4 % 2) / 4 : Nat) : Int) by rw [hy, hz, hv])
  clear hy hz hv
  go_enter Tryz.func156, Tryz.ntmps156
  go_wp2_with fail
  go_ret
  exact ⟨by rw [← HR.out]; rfl, rfl⟩
end
section
open Go Go.ChangeShapes Go.WideShapes Go.RowKit
set_option linter.unusedVariables false
set_option linter.unusedSimpArgs false
@[go_sem] theorem run_sfrombits (b : Nat) (w : World) : (callFunc 114 #[.int .u64 (b : Int)]).run Tryz.prog w = .ok (.value (.float .f64 b)) w := by
  rw [run_callFunc_extern Tryz.func114 (by kernel_rfl) (by kernel_rfl) (by kernel_rfl) (e := Extern.MathFloatBits.float64frombits) (by kernel_rfl)]
  rfl
/-- Packed: the pattern where the mantissa has no highest bit. -/
theorem pack_low (m : Nat) (e : Int) (hm : m ≤ 9007199254740992) (h0 : m / 4503599627370496 % 2 = 0) (w : World) :
    Calls Tryz.prog 158 #[.int .u64 (m : Int), .int .i64 e] w fun r w' => r = .returned (.tuple #[.float .f64 m, .nilIface]) ∧ w = w' := by
  have hq := and_u52 m (by omega)
  rw [if_pos h0] at hq
  have hf := run_sfrombits m w
  clear h0
  go_enter Tryz.func158, Tryz.ntmps158
  go_wp2_with fail
  go_ret2
  exact ⟨rfl, rfl⟩
theorem andNot_top {f : Nat} (hf : f < 4503599627370496) : bits .andNot .u64 ((4503599627370496 + f : Nat) : Int) 4503599627370496 = (f : Int) := by
  have h := u64_andNot_nat (4503599627370496 + f) 4503599627370496 (by omega) (by omega)
  refine h.trans (congrArg _ ?_)
  have e2 : ((4503599627370496 + f) &&& (18446744073709551615 - 4503599627370496)) % 2 ^ 52 = f := by
    rw [Nat.and_mod_two_pow, show ((18446744073709551615 - 4503599627370496) % 2 ^ 52 : Nat) = 2 ^ 52 - 1 from rfl, Nat.and_two_pow_sub_one_eq_mod, Nat.mod_mod]
    omega
  have e3 : ((4503599627370496 + f) &&& (18446744073709551615 - 4503599627370496)) / 2 ^ 52 = 0 := by
    rw [Nat.and_div_two_pow, show ((18446744073709551615 - 4503599627370496) / 2 ^ 52 : Nat) = 4094 from rfl, show (4503599627370496 + f) / 2 ^ 52 = 1 by omega]
    rfl
  omega
/-- Packed, with its exponent. -/
theorem pack_high (f E : Nat) (hf : f < 4503599627370496) (h1 : 1 ≤ E) (h2 : E < 2047) (w : World) :
    Calls Tryz.prog 158 #[.int .u64 ((4503599627370496 + f : Nat) : Int), .int .i64 ((E : Int) - 1075)] w fun r w' => r = .returned (.tuple #[.float .f64 (E * 4503599627370496 + f), .nilIface]) ∧ w = w' := by
  have hq := and_u52 (4503599627370496 + f) (by omega)
  rw [if_neg (by omega)] at hq
  have ha := andNot_top hf
  obtain ⟨m, hm⟩ : ∃ m, 4503599627370496 + f = m := ⟨_, rfl⟩
  rw [hm] at hq ha ⊢
  obtain ⟨e, he⟩ : ∃ e : Int, (E : Int) - 1075 = e := ⟨_, rfl⟩
  rw [he]
  have he9 : ¬ 972 ≤ e := by omega
  have hx : IntKind.i64.wrap (1075 + e) = (E : Int) := by rw [IntWalk.i64_in _ (by omega)]; omega
  have ho : bits .or .u64 (f : Int) ((E : Int) * 4503599627370496) = ((E * 4503599627370496 + f : Nat) : Int) := by
    rw [show ((E : Int) * 4503599627370496) = ((E * 4503599627370496 : Nat) : Int) by rw [Int.natCast_mul]; rfl]
    exact or_exp hf h2
  have hr := run_sfrombits (E * 4503599627370496 + f) w
  obtain ⟨Z, hZ⟩ : ∃ Z, E * 4503599627370496 + f = Z := ⟨_, rfl⟩
  rw [hZ] at ho hr ⊢
  have hEI : (E : Int) ≤ 2046 := by omega
  have hEI1 : (1 : Int) ≤ (E : Int) := by omega
  clear hm he hZ
  go_enter Tryz.func158, Tryz.ntmps158
  go_wp2_with fail
  go_ret2
  exact ⟨rfl, rfl⟩
end
section
open Go Go.ChangeShapes Go.WideShapes Go.RowKit
set_option linter.unusedVariables false
set_option linter.unusedSimpArgs false
theorem and_63 {m : Nat} (h : m < 9223372036854775808) : bits .and .u64 (m : Int) 9223372036854775808 = 0 := by
  have hh := u64_and_nat m 9223372036854775808 (by omega) (by omega)
  refine hh.trans ?_
  have e1 : (m &&& 9223372036854775808) % 2 ^ 63 = 0 := by rw [Nat.and_mod_two_pow]; simp
  have e2 : (m &&& 9223372036854775808) / 2 ^ 63 = (m / 2 ^ 63) &&& 1 := by rw [Nat.and_div_two_pow]
  rw [Nat.div_eq_of_lt (show m < 2 ^ 63 from h), Nat.zero_and] at e2
  rw [show m &&& 9223372036854775808 = 0 by omega]
  rfl
/-- Too large: the infinity, and the error that says so. -/
theorem pack_over (f : Nat) (e : Int) (hf : f < 4503599627370496) (he : 972 ≤ e) (w : World) :
    Calls Tryz.prog 158 #[.int .u64 ((4503599627370496 + f : Nat) : Int), .int .i64 e] w fun r w' => (∃ v, r = .returned (.tuple #[.float .f64 fIN, v]) ∧ v = .iface 96 (.int .i64 1)) ∧ w = w' := by
  have hq := and_u52 (4503599627370496 + f) (by omega)
  rw [if_neg (by omega)] at hq
  have ha := and_63 (m := 4503599627370496 + f) (by omega)
  have ho : bits .or .u64 0 9218868437227405312 = 9218868437227405312 := by rfl
  obtain ⟨m, hm⟩ : ∃ m, 4503599627370496 + f = m := ⟨_, rfl⟩
  rw [hm] at hq ha ⊢
  have hr : (callFunc 114 #[.int .u64 9218868437227405312]).run Tryz.prog w = .ok (.value (.float .f64 9218868437227405312)) w := run_sfrombits 9218868437227405312 w
  clear hm
  go_enter Tryz.func158, Tryz.ntmps158
  go_wp2_with fail
  go_ret2
  exact ⟨⟨_, rfl, rfl⟩, rfl⟩
theorem l2p_any (p : Int) (h : -400 ≤ p ∧ p ≤ 400) (w : World) : Calls Tryz.prog 151 #[.int .i64 p] w fun r w' => r = .returned (.int .i64 (p * 108853 / 32768)) ∧ w = w' := by
  obtain ⟨h1, h2⟩ := h
  have hx : IntKind.i64.wrap (p * 108853) = p * 108853 := IntWalk.i64_in _ (by omega)
  go_enter Tryz.func151, Tryz.ntmps151
  go_wp2_with fail
  go_ret
  exact ⟨rfl, rfl⟩
end
end Go.Proofs.YtbhommcpgejbfaaGreatDoor
