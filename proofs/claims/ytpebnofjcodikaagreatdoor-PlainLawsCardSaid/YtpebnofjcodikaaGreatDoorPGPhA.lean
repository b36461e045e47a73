/- strconv's parseFloat64: its small parts. strconv's parseFloat64: rounding, packing. strconv's parseFloat64: pack64. strconv's parseFloat64: pack64 beyond the range; log2Pow10. strconv's parseFloat64: uscale. strconv's parseFloat64: prescale. strconv's parseFloat64, plainly; and packing whole. strconv's parseFloat64. -/
import Derived.Test.YtpebnofjcodikaaGreatDoorPGPgB
import Derived.BigQuiet
import Derived.Test.YtpebnofjcodikaaGreatDoorShelfR
import Derived.Lib.ItoaNum
namespace Go.Proofs.YtpebnofjcodikaaGreatDoor
section
open Go Go.ChangeShapes Go.WideShapes Go.RowKit
set_option linter.unusedVariables false
set_option linter.unusedSimpArgs false
theorem bool2u_any (t : Bool) (w : World) : Calls Tryz.prog 232 #[.bool t] w fun e w' => e = .returned (.int .u64 (if t = true then 1 else 0)) ∧ w = w' := by
  cases t
  all_goals
    go_enter Tryz.func232, Tryz.ntmps232
    go_wp2_with fail
    go_ret
    exact ⟨rfl, rfl⟩
theorem bool2i_any (t : Bool) (w : World) : Calls Tryz.prog 177 #[.bool t] w fun e w' => e = .returned (.int .i64 (if t = true then 1 else 0)) ∧ w = w' := by
  cases t
  all_goals
    go_enter Tryz.func177, Tryz.ntmps177
    go_wp2_with fail
    go_ret
    exact ⟨rfl, rfl⟩
theorem unmin53 (w : World) : Calls Tryz.prog 213 #[.int .u64 9007199254740992] w fun e w' => e = .returned (.int .u64 36028797018963966) ∧ w = w' := by
  go_enter Tryz.func213, Tryz.ntmps213
  go_wp2_with fail
  go_ret
  exact ⟨rfl, rfl⟩
end
section
open Go Go.ChangeShapes Go.WideShapes Go.RowKit
set_option linter.unusedVariables false
set_option linter.unusedSimpArgs false
theorem and_one (x : Nat) (hx : x < 18446744073709551616) : bits .and .u64 (x : Int) 1 = ((x % 2 : Nat) : Int) := by
  have h := u64_and_nat x 1 hx (by omega)
  rw [Nat.and_one_is_mod] at h
  exact h
theorem round_any (u : Nat) (hu : u < 72057594037927936) (w : World) : Calls Tryz.prog 212 #[.int .u64 (u : Int)] w fun e w' => e = .returned (.int .u64 (((u + 1 + u / 4 % 2) / 4 : Nat) : Int)) ∧ w = w' := by
  have h1 : bits .and .u64 ((u : Int) / 4) 1 = ((u / 4 % 2 : Nat) : Int) := and_one (u / 4) (by omega)
  have h2 : IntKind.u64.wrap ((u : Int) + 1) = ((u + 1 : Nat) : Int) := by rw [IntWalk.u64_in _ (by omega)]; omega
  have h3 : IntKind.u64.wrap (((u + 1 : Nat) : Int) + ((u / 4 % 2 : Nat) : Int)) = ((u + 1 + u / 4 % 2 : Nat) : Int) := by rw [IntWalk.u64_in _ (by omega)]; omega
  obtain ⟨y, hy⟩ : ∃ y, u / 4 % 2 = y := ⟨_, rfl⟩
  obtain ⟨z, hz⟩ : ∃ z, u + 1 = z := ⟨_, rfl⟩
  obtain ⟨v, hv⟩ : ∃ v, z + y = v := ⟨_, rfl⟩
  rw [hy] at h1
  rw [hz, hy] at h3
  rw [hz] at h2
  rw [hv] at h3
  have HR := Lib.hid (show ((v / 4 : Nat) : Int) = (((u + 1 + u / 4 % 2) / 4 : Nat) : Int) by rw [hy, hz, hv])
  clear hy hz hv
  go_enter Tryz.func212, Tryz.ntmps212
  go_wp2_with fail
  go_ret
  exact ⟨by rw [← HR.out]; rfl, rfl⟩
end
section
open Go Go.ChangeShapes Go.WideShapes Go.RowKit
set_option linter.unusedVariables false
set_option linter.unusedSimpArgs false
@[go_sem] theorem run_sfrombits (b : Nat) (w : World) : (callFunc 233 #[.int .u64 (b : Int)]).run Tryz.prog w = .ok (.value (.float .f64 b)) w := by
  rw [run_callFunc_extern Tryz.func233 (by kernel_rfl) (by kernel_rfl) (by kernel_rfl) (e := Extern.MathFloatBits.float64frombits) (by kernel_rfl)]
  rfl
/-- Packed: the pattern where the mantissa has no highest bit. -/
theorem pack_low (m : Nat) (e : Int) (hm : m ≤ 9007199254740992) (h0 : m / 4503599627370496 % 2 = 0) (w : World) :
    Calls Tryz.prog 245 #[.int .u64 (m : Int), .int .i64 e] w fun r w' => r = .returned (.tuple #[.float .f64 m, .nilIface]) ∧ w = w' := by
  have hq := and_u52 m (by omega)
  rw [if_pos h0] at hq
  have hf := run_sfrombits m w
  clear h0
  go_enter Tryz.func245, Tryz.ntmps245
  go_wp2_with fail
  go_ret2
  exact ⟨rfl, rfl⟩
theorem andNot_top {f : Nat} (hf : f < 4503599627370496) : bits .andNot .u64 ((4503599627370496 + f : Nat) : Int) 4503599627370496 = (f : Int) := by
  have h := u64_andNot_nat (4503599627370496 + f) 4503599627370496 (by omega) (by omega)
  refine h.trans (congrArg _ ?_)
  have e2 : ((4503599627370496 + f) &&& (18446744073709551615 - 4503599627370496)) % 2 ^ 52 = f := by
    rw [Nat.and_mod_two_pow, show ((18446744073709551615 - 4503599627370496) % 2 ^ 52 : Nat) = 2 ^ 52 - 1 from rfl, Nat.and_two_pow_sub_one_eq_mod, Nat.mod_mod]
    omega
  have e3 : ((4503599627370496 + f) &&& (18446744073709551615 - 4503599627370496)) / 2 ^ 52 = 0 := by
    rw [Nat.and_div_two_pow, show ((18446744073709551615 - 4503599627370496) / 2 ^ 52 : Nat) = 4094 from rfl, show (4503599627370496 + f) / 2 ^ 52 = 1 by omega]
    rfl
  omega
/-- Packed, with its exponent. -/
theorem pack_high (f E : Nat) (hf : f < 4503599627370496) (h1 : 1 ≤ E) (h2 : E < 2047) (w : World) :
    Calls Tryz.prog 245 #[.int .u64 ((4503599627370496 + f : Nat) : Int), .int .i64 ((E : Int) - 1075)] w fun r w' => r = .returned (.tuple #[.float .f64 (E * 4503599627370496 + f), .nilIface]) ∧ w = w' := by
  have hq := and_u52 (4503599627370496 + f) (by omega)
  rw [if_neg (by omega)] at hq
  have ha := andNot_top hf
  obtain ⟨m, hm⟩ : ∃ m, 4503599627370496 + f = m := ⟨_, rfl⟩
  rw [hm] at hq ha ⊢
  obtain ⟨e, he⟩ : ∃ e : Int, (E : Int) - 1075 = e := ⟨_, rfl⟩
  rw [he]
  have he9 : ¬ 972 ≤ e := by omega
  have hx : IntKind.i64.wrap (1075 + e) = (E : Int) := by rw [IntWalk.i64_in _ (by omega)]; omega
  have ho : bits .or .u64 (f : Int) ((E : Int) * 4503599627370496) = ((E * 4503599627370496 + f : Nat) : Int) := by
    rw [show ((E : Int) * 4503599627370496) = ((E * 4503599627370496 : Nat) : Int) by rw [Int.natCast_mul]; rfl]
    exact or_exp hf h2
  have hr := run_sfrombits (E * 4503599627370496 + f) w
  obtain ⟨Z, hZ⟩ : ∃ Z, E * 4503599627370496 + f = Z := ⟨_, rfl⟩
  rw [hZ] at ho hr ⊢
  have hEI : (E : Int) ≤ 2046 := by omega
  have hEI1 : (1 : Int) ≤ (E : Int) := by omega
  clear hm he hZ
  go_enter Tryz.func245, Tryz.ntmps245
  go_wp2_with fail
  go_ret2
  exact ⟨rfl, rfl⟩
end
section
open Go Go.ChangeShapes Go.WideShapes Go.RowKit
set_option linter.unusedVariables false
set_option linter.unusedSimpArgs false
theorem and_63 {m : Nat} (h : m < 9223372036854775808) : bits .and .u64 (m : Int) 9223372036854775808 = 0 := by
  have hh := u64_and_nat m 9223372036854775808 (by omega) (by omega)
  refine hh.trans ?_
  have e1 : (m &&& 9223372036854775808) % 2 ^ 63 = 0 := by rw [Nat.and_mod_two_pow]; simp
  have e2 : (m &&& 9223372036854775808) / 2 ^ 63 = (m / 2 ^ 63) &&& 1 := by rw [Nat.and_div_two_pow]
  rw [Nat.div_eq_of_lt (show m < 2 ^ 63 from h), Nat.zero_and] at e2
  rw [show m &&& 9223372036854775808 = 0 by omega]
  rfl
/-- Too large: the infinity, and the error that says so. -/
theorem pack_over (f : Nat) (e : Int) (hf : f < 4503599627370496) (he : 972 ≤ e) (w : World) :
    Calls Tryz.prog 245 #[.int .u64 ((4503599627370496 + f : Nat) : Int), .int .i64 e] w fun r w' => (∃ v, r = .returned (.tuple #[.float .f64 fIN, v]) ∧ v = .iface 153 (.int .i64 1)) ∧ w = w' := by
  have hq := and_u52 (4503599627370496 + f) (by omega)
  rw [if_neg (by omega)] at hq
  have ha := and_63 (m := 4503599627370496 + f) (by omega)
  have ho : bits .or .u64 0 9218868437227405312 = 9218868437227405312 := by rfl
  obtain ⟨m, hm⟩ : ∃ m, 4503599627370496 + f = m := ⟨_, rfl⟩
  rw [hm] at hq ha ⊢
  have hr : (callFunc 233 #[.int .u64 9218868437227405312]).run Tryz.prog w = .ok (.value (.float .f64 9218868437227405312)) w := run_sfrombits 9218868437227405312 w
  clear hm
  go_enter Tryz.func245, Tryz.ntmps245
  go_wp2_with fail
  go_ret2
  exact ⟨⟨_, rfl, rfl⟩, rfl⟩
theorem l2p_any (p : Int) (h : -400 ≤ p ∧ p ≤ 400) (w : World) : Calls Tryz.prog 207 #[.int .i64 p] w fun r w' => r = .returned (.int .i64 (p * 108853 / 32768)) ∧ w = w' := by
  obtain ⟨h1, h2⟩ := h
  have hx : IntKind.i64.wrap (p * 108853) = p * 108853 := IntWalk.i64_in _ (by omega)
  go_enter Tryz.func207, Tryz.ntmps207
  go_wp2_with fail
  go_ret
  exact ⟨rfl, rfl⟩
end
section
open Go Go.ChangeShapes Go.WideShapes Go.RowKit
set_option linter.unusedVariables false
set_option linter.unusedSimpArgs false
/-- A scaler in memory. -/
structure SC (w : World) (c hi lo s : Nat) : Prop where
  h : w.cell? ⟨c, 0, none⟩ = some (.int .u64 (hi : Int))
  l : w.cell? ⟨c, 1, none⟩ = some (.int .u64 (lo : Int))
  s : w.cell? ⟨c, 2, none⟩ = some (.int .i64 (s : Int))
theorem and_63i {s : Nat} (h : s < 64) : bits .and .i64 (s : Int) 63 = (s : Int) := by
  have h1 : (s &&& 63 : Nat) = s := by
    have := Nat.and_two_pow_sub_one_eq_mod s 6
    rw [show (2 ^ 6 - 1 : Nat) = 63 from rfl] at this
    rw [this, Nat.mod_eq_of_lt h]
  have : ∀ s : Nat, s < 64 → bits .and .i64 (s : Int) 63 = (s : Int) := by decide +kernel
  exact this s h
theorem cast_shr (H s : Nat) : (((H / 2 ^ s : Nat)) : Int) = (H : Int) / 2 ^ s := by rw [Int.natCast_ediv, Int.natCast_pow]; rfl
/-- What uscale answers, of the product's two words and the second product's upper word. -/
def usH (H M M2 s : Nat) : Nat :=
  if H / 2 ^ s * 2 ^ s = H then ((H + 18446744073709551616 - (if M < M2 then 1 else 0)) % 18446744073709551616 / 2 ^ s ||| (if 1 < (M + 18446744073709551616 - M2) % 18446744073709551616 then 1 else 0))
  else (H / 2 ^ s ||| 1)
def usZ (x hi lo s : Nat) : Nat := usH (x * hi / 18446744073709551616) (x * hi % 18446744073709551616) (x * lo / 18446744073709551616) s
theorem bool2q (t : Bool) (w : World) : Calls Tryz.prog 232 #[.bool t] w fun e w' => e = .returned (.int .u64 (if t = true then 1 else 0)) ∧ ∃ q, w' = w.drewN q :=
  (bool2u_any t w).mono fun e w' h => ⟨h.1, 0, by rw [← h.2]; rfl⟩
set_option maxRecDepth 100000 in
set_option maxHeartbeats 2000000 in
theorem us_any (x c hi lo s : Nat) (hx : x < 18446744073709551616) (hh : hi < 18446744073709551616) (hl : lo < 18446744073709551616) (hs : s < 64) (w : World) (hC : SC w c hi lo s) :
    Calls Tryz.prog 208 #[.int .u64 (x : Int), .pointer (some ⟨c, 0, none⟩)] w fun r w' => r = .returned (.int .u64 ((usZ x hi lo s : Nat) : Int)) ∧ ∃ q, w' = w.drewN q := by
  have hM := Tryz.bits_Mul64 x hi hx hh w
  have hM2 := Tryz.bits_Mul64 x lo hx hl w
  have hHl : x * hi / 18446744073709551616 < 18446744073709551616 := by
    rw [Nat.div_lt_iff_lt_mul (by decide)]; exact Nat.mul_lt_mul'' hx hh
  have hMl : x * hi % 18446744073709551616 < 18446744073709551616 := Nat.mod_lt _ (by decide)
  have hM2l : x * lo / 18446744073709551616 < 18446744073709551616 := by
    rw [Nat.div_lt_iff_lt_mul (by decide)]; exact Nat.mul_lt_mul'' hx hl
  unfold usZ
  obtain ⟨H, hH⟩ : ∃ H, x * hi / 18446744073709551616 = H := ⟨_, rfl⟩
  obtain ⟨M, hMm⟩ : ∃ M, x * hi % 18446744073709551616 = M := ⟨_, rfl⟩
  obtain ⟨M2, hM2m⟩ : ∃ M, x * lo / 18446744073709551616 = M := ⟨_, rfl⟩
  obtain ⟨L2, hL2⟩ : ∃ M, x * lo % 18446744073709551616 = M := ⟨_, rfl⟩
  rw [hH, hMm] at hM
  rw [hM2m, hL2] at hM2
  rw [hH] at hHl ⊢
  rw [hMm] at hMl ⊢
  rw [hM2m] at hM2l ⊢
  have HM := Lib.hid hM
  have HM2 := Lib.hid hM2
  have c0 := hC.h
  have c1 := hC.l
  have c2 := hC.s
  have ha := and_63i hs
  have hsI : (s : Int) < 64 := by omega
  have hKle : H / 2 ^ s * 2 ^ s ≤ H := Nat.div_mul_le_self _ _
  have hk := Lib.hid (show IntKind.u64.wrap ((H : Int) / 2 ^ s * 2 ^ s) = ((H / 2 ^ s * 2 ^ s : Nat) : Int) by
    rw [show ((H : Int) / 2 ^ s * 2 ^ s) = ((H / 2 ^ s * 2 ^ s : Nat) : Int) by rw [Int.natCast_mul, cast_shr, Int.natCast_pow]; rfl]
    exact IntWalk.u64_in _ (by omega))
  have ho := u64_or_nat (H / 2 ^ s) 1 (Nat.lt_of_le_of_lt (Nat.div_le_self _ _) hHl) (by omega)
  rw [cast_shr] at ho
  have HO := Lib.hid ho
  obtain ⟨U, hU⟩ : ∃ U, usH H M M2 s = U := ⟨_, rfl⟩
  rw [hU]
  have HU := Lib.hid hU
  clear hM hM2 hC hH hMm hM2m hL2 ho hU hx hh hl
  by_cases hne : H / 2 ^ s * 2 ^ s = H
  · have hk2 := Lib.hid (show IntKind.u64.wrap ((H : Int) / 2 ^ s * 2 ^ s) = (H : Int) by rw [hk.out, hne])
    have HR := Lib.hid (show U = ((H + 18446744073709551616 - (if M < M2 then 1 else 0)) % 18446744073709551616 / 2 ^ s ||| (if 1 < (M + 18446744073709551616 - M2) % 18446744073709551616 then 1 else 0)) by rw [← HU.out]; unfold usH; rw [if_pos hne])
    obtain ⟨D, hD⟩ : ∃ D, (M + 18446744073709551616 - M2) % 18446744073709551616 = D := ⟨_, rfl⟩
    rw [hD] at HR
    have hDl : D < 18446744073709551616 := by omega
    have HDW := Lib.hid (show IntKind.u64.wrap ((M : Int) - (M2 : Int)) = (D : Int) by show ((M : Int) - (M2 : Int)) % 18446744073709551616 = (D : Int); omega)
    have hHW1 : M < M2 → ∃ H2 : Nat, (H + 18446744073709551616 - 1) % 18446744073709551616 = H2 ∧ H2 < 18446744073709551616 ∧ IntKind.u64.wrap ((H : Int) - 1) = (H2 : Int) := fun _ => ⟨_, rfl, Nat.mod_lt _ (by decide), by show ((H : Int) - 1) % 18446744073709551616 = _; omega⟩
    clear hne hk HO HU hKle hD
    by_cases hlt : M < M2
    · have hltI : (M : Int) < (M2 : Int) := by omega
      obtain ⟨H2, h1, h2, h3⟩ := hHW1 hlt
      rw [if_pos hlt, h1] at HR
      have HHW := Lib.hid h3
      clear h1 h3 hHW1 hlt
      by_cases hd : 1 < D
      · rw [if_pos hd] at HR
        have ho2 := u64_or_nat (H2 / 2 ^ s) 1 (Nat.lt_of_le_of_lt (Nat.div_le_self _ _) h2) (by omega)
        rw [cast_shr] at ho2
        have hD1 : (1 : Int) < (D : Int) := by omega
        have hD1b : decide ((1 : Int) < (D : Int)) = true := decide_eq_true hD1
        obtain ⟨T, hT⟩ : ∃ T, (H2 / 2 ^ s ||| 1) = T := ⟨_, rfl⟩
        rw [hT] at HR ho2
        have HO2 := Lib.hid ho2
        clear hT ho2
        go_enter Tryz.func208, Tryz.ntmps208
        go_upto_region 3 with (first
              | (go_at_call 122; (with_reducible refine HM.out.mono ?_); rintro e w9 ⟨rfl, rfl⟩)
              | (go_at_call 122; (with_reducible refine HM2.out.mono ?_); rintro e w9 ⟨rfl, rfl⟩)
              | (go_at_call 232; (with_reducible refine (bool2u_any _ _).mono ?_); rintro e w9 ⟨rfl, rfl⟩)
              | fail)
        have hk3 := hk2.out
        go_upto_region 6 with (first
              | (go_at_call 122; (with_reducible refine HM.out.mono ?_); rintro e w9 ⟨rfl, rfl⟩)
              | (go_at_call 122; (with_reducible refine HM2.out.mono ?_); rintro e w9 ⟨rfl, rfl⟩)
              | (go_at_call 232; (with_reducible refine (bool2u_any _ _).mono ?_); rintro e w9 ⟨rfl, rfl⟩)
              | fail)
        clear hk3
        have hhw := HHW.out
        go_wp2_with (first
              | (go_at_call 122; (with_reducible refine HM.out.mono ?_); rintro e w9 ⟨rfl, rfl⟩)
              | (go_at_call 122; (with_reducible refine HM2.out.mono ?_); rintro e w9 ⟨rfl, rfl⟩)
              | (go_at_call 232; (with_reducible refine (bool2u_any _ _).mono ?_); rintro e w9 ⟨rfl, rfl⟩)
              | fail)
        have hdw := HDW.out
        have ho3 : bits .or .u64 ((H2 : Int) / 2 ^ s) 1 = (T : Int) := HO2.out
        go_quiet ((go_at_call 232; exact Calls.quiet_of (bool2q _ _)))
        all_goals first
          | (exfalso; omega)
          | (go_wp2_with fail; all_goals first | (exfalso; omega) | (go_ret; exact ⟨by rw [HR.out]; rfl, _, rfl⟩))
      · rw [if_neg hd] at HR
        have ho2 := u64_or_nat (H2 / 2 ^ s) 0 (Nat.lt_of_le_of_lt (Nat.div_le_self _ _) h2) (by omega)
        rw [cast_shr] at ho2
        have hD1 : ¬ (1 : Int) < (D : Int) := by omega
        obtain ⟨T, hT⟩ : ∃ T, (H2 / 2 ^ s ||| 0) = T := ⟨_, rfl⟩
        rw [hT] at HR ho2
        have HO2 := Lib.hid ho2
        clear hT ho2
        go_enter Tryz.func208, Tryz.ntmps208
        go_upto_region 3 with (first
              | (go_at_call 122; (with_reducible refine HM.out.mono ?_); rintro e w9 ⟨rfl, rfl⟩)
              | (go_at_call 122; (with_reducible refine HM2.out.mono ?_); rintro e w9 ⟨rfl, rfl⟩)
              | (go_at_call 232; (with_reducible refine (bool2u_any _ _).mono ?_); rintro e w9 ⟨rfl, rfl⟩)
              | fail)
        have hk3 := hk2.out
        go_upto_region 6 with (first
              | (go_at_call 122; (with_reducible refine HM.out.mono ?_); rintro e w9 ⟨rfl, rfl⟩)
              | (go_at_call 122; (with_reducible refine HM2.out.mono ?_); rintro e w9 ⟨rfl, rfl⟩)
              | (go_at_call 232; (with_reducible refine (bool2u_any _ _).mono ?_); rintro e w9 ⟨rfl, rfl⟩)
              | fail)
        clear hk3
        have hhw := HHW.out
        go_wp2_with (first
              | (go_at_call 122; (with_reducible refine HM.out.mono ?_); rintro e w9 ⟨rfl, rfl⟩)
              | (go_at_call 122; (with_reducible refine HM2.out.mono ?_); rintro e w9 ⟨rfl, rfl⟩)
              | (go_at_call 232; (with_reducible refine (bool2u_any _ _).mono ?_); rintro e w9 ⟨rfl, rfl⟩)
              | fail)
        have hdw := HDW.out
        have ho3 : bits .or .u64 ((H2 : Int) / 2 ^ s) 0 = (T : Int) := HO2.out
        go_quiet ((go_at_call 232; exact Calls.quiet_of (bool2q _ _)))
        all_goals first
          | (exfalso; omega)
          | (go_wp2_with fail; all_goals first | (exfalso; omega) | (go_ret; exact ⟨by rw [HR.out]; rfl, _, rfl⟩))
    · have hltI : ¬ (M : Int) < (M2 : Int) := by omega
      obtain ⟨H2, h1⟩ : ∃ H2, H = H2 := ⟨_, rfl⟩
      rw [if_neg hlt, show (H + 18446744073709551616 - 0) % 18446744073709551616 = H by omega] at HR
      subst h1
      have h2 := hHl
      clear hHW1 hlt
      by_cases hd : 1 < D
      · rw [if_pos hd] at HR
        have ho2 := u64_or_nat (H / 2 ^ s) 1 (Nat.lt_of_le_of_lt (Nat.div_le_self _ _) h2) (by omega)
        rw [cast_shr] at ho2
        have hD1 : (1 : Int) < (D : Int) := by omega
        have hD1b : decide ((1 : Int) < (D : Int)) = true := decide_eq_true hD1
        obtain ⟨T, hT⟩ : ∃ T, (H / 2 ^ s ||| 1) = T := ⟨_, rfl⟩
        rw [hT] at HR ho2
        have HO2 := Lib.hid ho2
        clear hT ho2
        go_enter Tryz.func208, Tryz.ntmps208
        go_upto_region 3 with (first
              | (go_at_call 122; (with_reducible refine HM.out.mono ?_); rintro e w9 ⟨rfl, rfl⟩)
              | (go_at_call 122; (with_reducible refine HM2.out.mono ?_); rintro e w9 ⟨rfl, rfl⟩)
              | (go_at_call 232; (with_reducible refine (bool2u_any _ _).mono ?_); rintro e w9 ⟨rfl, rfl⟩)
              | fail)
        have hk3 := hk2.out
        go_upto_region 6 with (first
              | (go_at_call 122; (with_reducible refine HM.out.mono ?_); rintro e w9 ⟨rfl, rfl⟩)
              | (go_at_call 122; (with_reducible refine HM2.out.mono ?_); rintro e w9 ⟨rfl, rfl⟩)
              | (go_at_call 232; (with_reducible refine (bool2u_any _ _).mono ?_); rintro e w9 ⟨rfl, rfl⟩)
              | fail)
        clear hk3
        go_wp2_with (first
              | (go_at_call 122; (with_reducible refine HM.out.mono ?_); rintro e w9 ⟨rfl, rfl⟩)
              | (go_at_call 122; (with_reducible refine HM2.out.mono ?_); rintro e w9 ⟨rfl, rfl⟩)
              | (go_at_call 232; (with_reducible refine (bool2u_any _ _).mono ?_); rintro e w9 ⟨rfl, rfl⟩)
              | fail)
        have hdw := HDW.out
        have ho3 : bits .or .u64 ((H : Int) / 2 ^ s) 1 = (T : Int) := HO2.out
        go_quiet ((go_at_call 232; exact Calls.quiet_of (bool2q _ _)))
        all_goals first
          | (exfalso; omega)
          | (go_wp2_with fail; all_goals first | (exfalso; omega) | (go_ret; exact ⟨by rw [HR.out]; rfl, _, rfl⟩))
      · rw [if_neg hd] at HR
        have ho2 := u64_or_nat (H / 2 ^ s) 0 (Nat.lt_of_le_of_lt (Nat.div_le_self _ _) h2) (by omega)
        rw [cast_shr] at ho2
        have hD1 : ¬ (1 : Int) < (D : Int) := by omega
        obtain ⟨T, hT⟩ : ∃ T, (H / 2 ^ s ||| 0) = T := ⟨_, rfl⟩
        rw [hT] at HR ho2
        have HO2 := Lib.hid ho2
        clear hT ho2
        go_enter Tryz.func208, Tryz.ntmps208
        go_upto_region 3 with (first
              | (go_at_call 122; (with_reducible refine HM.out.mono ?_); rintro e w9 ⟨rfl, rfl⟩)
              | (go_at_call 122; (with_reducible refine HM2.out.mono ?_); rintro e w9 ⟨rfl, rfl⟩)
              | (go_at_call 232; (with_reducible refine (bool2u_any _ _).mono ?_); rintro e w9 ⟨rfl, rfl⟩)
              | fail)
        have hk3 := hk2.out
        go_upto_region 6 with (first
              | (go_at_call 122; (with_reducible refine HM.out.mono ?_); rintro e w9 ⟨rfl, rfl⟩)
              | (go_at_call 122; (with_reducible refine HM2.out.mono ?_); rintro e w9 ⟨rfl, rfl⟩)
              | (go_at_call 232; (with_reducible refine (bool2u_any _ _).mono ?_); rintro e w9 ⟨rfl, rfl⟩)
              | fail)
        clear hk3
        go_wp2_with (first
              | (go_at_call 122; (with_reducible refine HM.out.mono ?_); rintro e w9 ⟨rfl, rfl⟩)
              | (go_at_call 122; (with_reducible refine HM2.out.mono ?_); rintro e w9 ⟨rfl, rfl⟩)
              | (go_at_call 232; (with_reducible refine (bool2u_any _ _).mono ?_); rintro e w9 ⟨rfl, rfl⟩)
              | fail)
        have hdw := HDW.out
        have ho3 : bits .or .u64 ((H : Int) / 2 ^ s) 0 = (T : Int) := HO2.out
        go_quiet ((go_at_call 232; exact Calls.quiet_of (bool2q _ _)))
        all_goals first
          | (exfalso; omega)
          | (go_wp2_with fail; all_goals first | (exfalso; omega) | (go_ret; exact ⟨by rw [HR.out]; rfl, _, rfl⟩))
  · have HR := Lib.hid (show U = (H / 2 ^ s ||| 1) by rw [← HU.out]; unfold usH; rw [if_neg hne])
    obtain ⟨K, hK⟩ : ∃ K, H / 2 ^ s * 2 ^ s = K := ⟨_, rfl⟩
    rw [hK] at hk hKle hne
    have hb : ((K : Int) != (H : Int)) = true := by simp; omega
    obtain ⟨V, hV⟩ : ∃ V, (H / 2 ^ s ||| 1) = V := ⟨_, rfl⟩
    rw [hV] at HR HO
    clear hK hV hne
    go_enter Tryz.func208, Tryz.ntmps208
    go_upto_region 3 with (first
      | (go_at_call 122; (with_reducible refine HM.out.mono ?_); rintro e w9 ⟨rfl, rfl⟩)
      | fail)
    have hk := hk.out
    have ho : bits .or .u64 ((H : Int) / 2 ^ s) 1 = (V : Int) := HO.out
    go_wp2_with fail
    go_ret
    exact ⟨by rw [HR.out]; rfl, 0, rfl⟩
end
section
open Go Go.ChangeShapes Go.WideShapes Go.RowKit
set_option linter.unusedVariables false
set_option linter.unusedSimpArgs false
/-- The table of powers of ten, in a block below b. -/
structure PTZ (hiT loT : Nat → Nat) (w : World) (b : Nat) : Prop where
  l : 14 < b
  h : ∀ i, i < 696 → w.cell? ⟨14, i * 2, none⟩ = some (.int .u64 (hiT i : Int)) ∧ w.cell? ⟨14, i * 2 + 1, none⟩ = some (.int .u64 (loT i : Int))
theorem PTZ.keep {hiT loT : Nat → Nat} {w w' : World} {b : Nat} (h : PTZ hiT loT w b) (hb : Below b w w') : PTZ hiT loT w' b :=
  ⟨h.l, fun i hi => ⟨(hb.cell (p := ⟨_, _, none⟩) h.l).trans (h.h i hi).1, (hb.cell (p := ⟨_, _, none⟩) h.l).trans (h.h i hi).2⟩⟩
/-- A scaler's cells, whatever they hold. -/
structure SC0 (w : World) (c : Nat) : Prop where
  h : ∃ a b d, w.cell? ⟨c, 0, none⟩ = some (.int .u64 a) ∧ w.cell? ⟨c, 1, none⟩ = some (.int .u64 b) ∧ w.cell? ⟨c, 2, none⟩ = some (.int .i64 d)
  f : ∀ i, i < 3 → w.frozen? ⟨c, i, none⟩ = false
set_option maxRecDepth 100000 in
set_option maxHeartbeats 2000000 in
theorem prescale_any (hiT loT : Nat → Nat) (c i : Nat) (e lp : Int) (hi : i < 696) (he : -5000 ≤ e ∧ e ≤ 5000) (hlp : -5000 ≤ lp ∧ lp ≤ 5000) (w : World) (hS : SC0 w c) (hT : PTZ hiT loT w c) :
    Calls Tryz.prog 206 #[.pointer (some ⟨c, 0, none⟩), .int .i64 e, .int .i64 ((i : Int) - 348), .int .i64 lp] w fun r w' => r = .returned (.tuple #[]) ∧ w' = ((w.setCell ⟨c, 0, none⟩ (.int .u64 (hiT i : Int))).setCell ⟨c, 1, none⟩ (.int .u64 (loT i : Int))).setCell ⟨c, 2, none⟩ (.int .i64 (-(e + lp + 3))) := by
  obtain ⟨a, b, d, c0, c1, c2⟩ := hS.h
  have f0 := hS.f 0 (by omega)
  have f1 := hS.f 1 (by omega)
  have f2 := hS.f 2 (by omega)
  obtain ⟨t0, t1⟩ := hT.h i hi
  have hl := hT.l
  obtain ⟨h1, h2⟩ := he
  obtain ⟨h3, h4⟩ := hlp
  obtain ⟨p, hp⟩ : ∃ p : Int, (i : Int) - 348 = p := ⟨_, rfl⟩
  rw [hp]
  have hw : IntKind.i64.wrap (p - -348) = (i : Int) := by rw [IntWalk.i64_in _ (by omega)]; omega
  have hw' : IntKind.i64.wrap (p + 348) = (i : Int) := by rw [IntWalk.i64_in _ (by omega)]; omega
  have hiI : (i : Int) < 696 := by omega
  obtain ⟨A, hA⟩ : ∃ A, hiT i = A := ⟨_, rfl⟩
  obtain ⟨B, hB⟩ : ∃ B, loT i = B := ⟨_, rfl⟩
  rw [hA] at t0 ⊢
  rw [hB] at t1 ⊢
  have hne : ¬ c = 14 := by omega
  have hne' : ¬ 14 = c := by omega
  clear hS hT hA hB hp hi hl
  go_enter Tryz.func206, Tryz.ntmps206
  go_wp2_with fail
  refine ⟨rfl, .tuple #[], by simp [results, Tryz.results206, go_sem], rfl, rfl⟩
end
section
open Go Go.ChangeShapes Go.WideShapes Go.RowKit
set_option linter.unusedVariables false
set_option linter.unusedSimpArgs false
theorem usH_lt (H M M2 s : Nat) (hH : H < 18446744073709551616) (hs : 8 ≤ s) : usH H M M2 s < 72057594037927936 := by
  have key : ∀ x, x < 18446744073709551616 → x / 2 ^ s < 2 ^ 56 := by
    intro x hx
    rw [Nat.div_lt_iff_lt_mul (Nat.two_pow_pos s), ← Nat.pow_add]
    exact Nat.lt_of_lt_of_le (show x < 2 ^ 64 from hx) (Nat.pow_le_pow_right (by decide) (by omega))
  unfold usH
  split
  · refine Nat.or_lt_two_pow (n := 56) (key _ (Nat.mod_lt _ (by decide))) ?_
    split <;> decide
  · exact Nat.or_lt_two_pow (n := 56) (key _ hH) (by decide)
theorem usZ_lt (x hi lo s : Nat) (hx : x < 18446744073709551616) (hh : hi < 18446744073709551616) (hs : 8 ≤ s) : usZ x hi lo s < 72057594037927936 :=
  usH_lt _ _ _ s (by rw [Nat.div_lt_iff_lt_mul (by decide)]; exact Nat.mul_lt_mul'' hx hh) hs
def pfE (b : Nat) (p : Int) : Int := min 1074 (53 - (b : Int) - p * 108853 / 32768)
def pfS (b : Nat) (p : Int) : Int := -(pfE b p - (64 - (b : Int)) + p * 108853 / 32768 + 3)
def pfT (u : Nat) : Nat := if 36028797018963966 ≤ u then 1 else 0
def pfV (u : Nat) : Nat := u / 2 ^ pfT u ||| u % 2
def pfM (u : Nat) : Nat := (pfV u + 1 + pfV u / 4 % 2) / 4
/-- The pattern that is packed of a mantissa and an exponent. -/
def pkF (m : Nat) (e : Int) : Nat := if m / 4503599627370496 % 2 = 0 then m else if 972 ≤ e then fIN else (e + 1075).toNat * 4503599627370496 + m % 4503599627370496
/-- What parseFloat64 answers, of the powers' two words. -/
def pfF (hi lo d : Nat) (p : Int) : Nat :=
  if 64 ≤ pfS (Lib.bitLen d) p then 0 else
    pkF (pfM (usZ (d * 2 ^ (64 - Lib.bitLen d)) hi lo (pfS (Lib.bitLen d) p).toNat)) (-(pfE (Lib.bitLen d) p - (pfT (usZ (d * 2 ^ (64 - Lib.bitLen d)) hi lo (pfS (Lib.bitLen d) p).toNat) : Nat)))
theorem len_facts {d : Nat} (h0 : d ≠ 0) (h : d < 18446744073709551616) : 1 ≤ Lib.bitLen d ∧ Lib.bitLen d ≤ 64 ∧ d * 2 ^ (64 - Lib.bitLen d) < 18446744073709551616 := by
  obtain ⟨h1, h2, h3⟩ := Lib.bitLenAux_bounds 64 d h h0
  have h4 : Lib.bitLen d ≤ 64 := Lib.bitLen_le d 64 (by omega) (by omega)
  refine ⟨h1, h4, ?_⟩
  have h5 : d * 2 ^ (64 - Lib.bitLen d) < 2 ^ Lib.bitLen d * 2 ^ (64 - Lib.bitLen d) := Nat.mul_lt_mul_of_pos_right h3 (Nat.two_pow_pos _)
  rw [← Nat.pow_add, show Lib.bitLen d + (64 - Lib.bitLen d) = 64 by omega] at h5
  exact h5
theorem pfS_facts (b : Nat) (p : Int) (hb : 1 ≤ b ∧ b ≤ 64) (hp : -348 ≤ p ∧ p ≤ 347) : 8 ≤ pfS b p ∧ pfS b p ≤ 200 ∧ -1200 ≤ pfE b p ∧ pfE b p ≤ 1074 := by
  unfold pfS pfE
  omega
theorem pfV_lt (u : Nat) (h : u < 72057594037927936) : pfV u < 36028797018963968 ∧ (pfT u = 0 → pfV u < 36028797018963966) ∧ (pfT u = 1 → 18014398509481983 ≤ pfV u) := by
  unfold pfV
  by_cases hu : 36028797018963966 ≤ u
  · have ht : pfT u = 1 := by unfold pfT; rw [if_pos hu]
    rw [ht]
    have h1 : u / 2 ^ 1 ||| u % 2 < 2 ^ 55 := Nat.or_lt_two_pow (by omega) (by omega)
    have h2 : u / 2 ^ 1 ≤ u / 2 ^ 1 ||| u % 2 := Nat.left_le_or
    refine ⟨h1, fun h => by omega, fun _ => by omega⟩
  · have ht : pfT u = 0 := by unfold pfT; rw [if_neg hu]
    rw [ht]
    have h1 : u / 2 ^ 0 ||| u % 2 = u := by
      rw [Nat.pow_zero, Nat.div_one]
      refine Nat.eq_of_testBit_eq (fun i => ?_)
      rw [Nat.testBit_or]
      have h2 : (u % 2).testBit i = (decide (i < 1) && u.testBit i) := by
        have := Nat.testBit_mod_two_pow u 1 i
        simpa using this
      rw [h2]
      cases u.testBit i <;> simp
    rw [h1]
    exact ⟨by omega, fun _ => by omega, fun h => by omega⟩
theorem pfM_le (u : Nat) (h : u < 72057594037927936) : pfM u ≤ 9007199254740992 := by
  have := (pfV_lt u h).1
  unfold pfM; omega
theorem pkF_le (m : Nat) (e : Int) (hm : m ≤ 9007199254740992) : pkF m e ≤ fIN := by
  have hI : fIN = 9218868437227405312 := rfl
  unfold pkF
  split
  · omega
  · split
    · exact Nat.le_refl _
    · omega
theorem pfF_le (hi lo d : Nat) (p : Int) (hd : d ≠ 0) (hdl : d < 18446744073709551616) (hh : hi < 18446744073709551616) (hp : -348 ≤ p ∧ p ≤ 347) : pfF hi lo d p ≤ fIN := by
  unfold pfF
  obtain ⟨h1, h2, h3⟩ := len_facts hd hdl
  obtain ⟨h4, h5, h6, h7⟩ := pfS_facts (Lib.bitLen d) p ⟨h1, h2⟩ hp
  split
  · exact Nat.zero_le _
  · exact pkF_le _ _ (pfM_le _ (usZ_lt _ _ _ _ h3 hh (by omega)))
/-- An error that strconv's floats answer: none, or the one that says 'out of range'. -/
def ErrV (v : Value) : Prop := v = .nilIface ∨ v = .iface 153 (.int .i64 1)
theorem pack_any (m : Nat) (e : Int) (hm : m ≤ 9007199254740992) (he : -1074 ≤ e) (w : World) :
    Calls Tryz.prog 245 #[.int .u64 (m : Int), .int .i64 e] w fun r w' => (∃ v, r = .returned (.tuple #[.float .f64 (pkF m e), v]) ∧ ErrV v) ∧ w = w' := by
  by_cases h0 : m / 4503599627370496 % 2 = 0
  · refine (pack_low m e hm h0 w).mono ?_
    rintro r w' ⟨rfl, rfl⟩
    refine ⟨⟨_, ?_, .inl rfl⟩, rfl⟩
    unfold pkF; rw [if_pos h0]
  · have hm2 : m = 4503599627370496 + m % 4503599627370496 := by omega
    by_cases h1 : 972 ≤ e
    · have h2 := pack_over (m % 4503599627370496) e (Nat.mod_lt _ (by decide)) h1 w
      rw [← hm2] at h2
      refine h2.mono ?_
      rintro r w' ⟨⟨v, rfl, rfl⟩, rfl⟩
      refine ⟨⟨_, ?_, .inr rfl⟩, rfl⟩
      unfold pkF; rw [if_neg h0, if_pos h1]
    · have h2 := pack_high (m % 4503599627370496) (e + 1075).toNat (Nat.mod_lt _ (by decide)) (by omega) (by omega) w
      rw [← hm2, show (((e + 1075).toNat : Nat) : Int) - 1075 = e by omega] at h2
      refine h2.mono ?_
      rintro r w' ⟨rfl, rfl⟩
      refine ⟨⟨_, ?_, .inl rfl⟩, rfl⟩
      unfold pkF; rw [if_neg h0, if_neg h1]
end
section
open Go Go.ChangeShapes Go.WideShapes Go.RowKit
set_option linter.unusedVariables false
set_option linter.unusedSimpArgs false
set_option maxRecDepth 100000 in
set_option maxHeartbeats 2000000 in
theorem pf64_any (hiT loT : Nat → Nat) (d i : Nat) (hh : ∀ i, hiT i < 18446744073709551616) (hl : ∀ i, loT i < 18446744073709551616) (hd0 : d ≠ 0) (hd : d < 18446744073709551616) (hi : i < 696) (w : World) (hT : PTZ hiT loT w w.heap.size) :
    Calls Tryz.prog 235 #[.int .u64 (d : Int), .int .i64 ((i : Int) - 348), .int .u64 0] w fun r w' => (∃ v, r = .returned (.tuple #[.float .f64 (pfF (hiT i) (loT i) d ((i : Int) - 348)), v]) ∧ ErrV v) ∧ Below w.heap.size w w' := by
  obtain ⟨l1, l2, l3⟩ := len_facts hd0 hd
  obtain ⟨s1, s2, s3, s4⟩ := pfS_facts (Lib.bitLen d) ((i : Int) - 348) ⟨l1, l2⟩ ⟨by omega, by omega⟩
  have HLen := Lib.hid (Tryz.bits_Len64 (d : Int) w (by omega) (by omega))
  have HL2 := Lib.hid (l2p_any ((i : Int) - 348) ⟨by omega, by omega⟩ w)
  obtain ⟨p, hp⟩ : ∃ p : Int, (i : Int) - 348 = p := ⟨_, rfl⟩
  rw [hp] at s1 s2 s3 s4 HL2 ⊢
  rw [Int.toNat_natCast] at HLen
  have hpb : -348 ≤ p ∧ p ≤ 347 := by omega
  obtain ⟨b, hb⟩ : ∃ b, Lib.bitLen d = b := ⟨_, rfl⟩
  have HF := Lib.hid (show pfF (hiT i) (loT i) d p = if 64 ≤ pfS b p then 0 else pkF (pfM (usZ (d * 2 ^ (64 - b)) (hiT i) (loT i) (pfS b p).toNat)) (-(pfE b p - (pfT (usZ (d * 2 ^ (64 - b)) (hiT i) (loT i) (pfS b p).toNat) : Nat))) by unfold pfF; rw [hb])
  obtain ⟨F, hF⟩ : ∃ F, pfF (hiT i) (loT i) d p = F := ⟨_, rfl⟩
  rw [hF] at HF ⊢
  rw [hb] at l1 l2 l3 s1 s2 s3 s4 HLen
  obtain ⟨LP, hLP⟩ : ∃ LP, p * 108853 / 32768 = LP := ⟨_, rfl⟩
  have hLPb : -1200 ≤ LP ∧ LP ≤ 1200 := by omega
  rw [hLP] at HL2
  have eE : pfE b p = min 1074 (53 - (b : Int) - LP) := by unfold pfE; rw [hLP]
  have eS : pfS b p = -(pfE b p - (64 - (b : Int)) + LP + 3) := by unfold pfS; rw [hLP]
  have w1 : IntKind.i64.wrap (53 - (b : Int)) = 53 - (b : Int) := IntWalk.i64_in _ (by omega)
  have w2 : IntKind.i64.wrap (53 - (b : Int) - LP) = 53 - (b : Int) - LP := IntWalk.i64_in _ (by omega)
  have w3 : IntKind.i64.wrap (64 - (b : Int)) = 64 - (b : Int) := IntWalk.i64_in _ (by omega)
  have w4 : IntKind.i64.wrap (pfE b p - (64 - (b : Int))) = pfE b p - (64 - (b : Int)) := IntWalk.i64_in _ (by omega)
  clear hb hF hLP
  go_enter Tryz.func235, Tryz.ntmps235
  go_upto_region 4 with (first
    | (go_at_call 176; (with_reducible refine HLen.out.mono ?_); rintro e w9 ⟨rfl, rfl⟩)
    | (go_at_call 207; (with_reducible refine HL2.out.mono ?_); rintro e w9 ⟨rfl, rfl⟩)
    | fail)
  rw [← eE]
  obtain ⟨EE, hEE⟩ : ∃ EE, pfE b p = EE := ⟨_, rfl⟩
  obtain ⟨SS, hSS⟩ : ∃ SS, pfS b p = SS := ⟨_, rfl⟩
  rw [hEE, hSS] at eS
  rw [hEE] at w4 s3 s4 ⊢
  rw [hSS] at s1 s2
  have HF2 := Lib.hid (show F = if 64 ≤ SS then 0 else pkF (pfM (usZ (d * 2 ^ (64 - b)) (hiT i) (loT i) SS.toNat)) (-(EE - (pfT (usZ (d * 2 ^ (64 - b)) (hiT i) (loT i) SS.toNat) : Nat))) by rw [← hSS, ← hEE]; exact HF.out)
  have hPre := prescale_any hiT loT w9.heap.size i (EE - (64 - (b : Int))) LP hi ⟨by omega, by omega⟩ ⟨by omega, by omega⟩ (w9.alloc (.cells #[.int .u64 0, .int .u64 0, .int .i64 0] 224)) ⟨⟨0, 0, 0, by simp, by simp, by simp⟩, fun i _ => by simp⟩ (hT.keep ((Below.refl _ _).alloc (Nat.le_refl _) _))
  rw [hp, ← eS] at hPre
  have HPre := Lib.hid hPre
  have HT := Lib.hid hT
  clear hPre hT HF eE eS
  go_upto_region 6 with (first
    | (go_at_call 206; (with_reducible refine HPre.out.mono ?_); rintro e w2 ⟨rfl, hw2⟩)
    | fail)
  generalize hw3 : w9.alloc _ = wx
  have HB := Lib.hid (show Below w9.heap.size w9 wx by rw [← hw3]; exact (Below.refl _ _).alloc (Nat.le_refl _) _)
  have c0 : wx.cell? ⟨w9.heap.size, 0, none⟩ = some (.int .u64 (hiT i : Int)) := by rw [← hw3]; simp
  have c1 : wx.cell? ⟨w9.heap.size, 1, none⟩ = some (.int .u64 (loT i : Int)) := by rw [← hw3]; simp
  have c2 : wx.cell? ⟨w9.heap.size, 2, none⟩ = some (.int .i64 SS) := by rw [← hw3]; simp
  clear hw3 HPre HT HL2 HLen
  by_cases h64 : 64 ≤ SS
  · have HR := Lib.hid (show F = 0 by rw [HF2.out, if_pos h64])
    have hfb : (callFunc 233 #[.int .u64 0]).run Tryz.prog wx = .ok (.value (.float .f64 0)) wx := run_sfrombits 0 wx
    have ho : bits .or .u64 0 0 = 0 := by rfl
    clear HF2 c0 c1
    go_wp2_with fail
    go_ret2
    exact ⟨⟨.nilIface, by rw [HR.out]; rfl, .inl rfl⟩, HB.out⟩
  · obtain ⟨S, hS⟩ : ∃ S : Nat, SS = (S : Int) := ⟨SS.toNat, by omega⟩
    subst hS
    rw [Int.toNat_natCast] at HF2
    obtain ⟨x, hx⟩ : ∃ x, d * 2 ^ (64 - b) = x := ⟨_, rfl⟩
    rw [hx] at HF2 l3
    obtain ⟨K, hK⟩ : ∃ K : Nat, 64 - b = K := ⟨_, rfl⟩
    rw [hK] at hx
    have w3' : IntKind.i64.wrap (64 - (b : Int)) = (K : Int) := by rw [w3]; omega
    have hsh : IntKind.u64.wrap ((d : Int) * 2 ^ K) = (x : Int) := by
      rw [show (d : Int) * 2 ^ K = (x : Int) by rw [← hx]; push_cast; rfl]
      exact IntWalk.u64_in _ (by omega)
    have HU := Lib.hid (us_any x w9.heap.size (hiT i) (loT i) S l3 (hh i) (hl i) (by omega) wx ⟨c0, c1, c2⟩)
    have hul := usZ_lt x (hiT i) (loT i) S l3 (hh i) (by omega)
    obtain ⟨u, hu⟩ : ∃ u, usZ x (hiT i) (loT i) S = u := ⟨_, rfl⟩
    rw [hu] at HU hul HF2
    have HR := Lib.hid (show F = pkF (pfM u) (-(EE - (pfT u : Nat))) by rw [HF2.out, if_neg h64])
    have hKl : (K : Int) < 64 := by omega
    clear HF2 hu hx w3 c0 c1
    go_upto_region 9 with (first
      | (go_at_call 208; (with_reducible refine HU.out.mono ?_); rintro e w4 ⟨rfl, q, rfl⟩)
      | fail)
    clear HU
    have HB2 := Lib.hid (show Below w9.heap.size w9 (wx.drewN q) from below_drewN HB.out q)
    generalize wx.drewN q = wy at HB2 ⊢
    clear c2 HB
    have ha := and_one u (by omega)
    have hml := pfM_le u hul
    have hvl := (pfV_lt u hul).1
    by_cases hg : 36028797018963966 ≤ u
    · have hge : ((36028797018963966 : Int) ≤ (u : Int)) := by omega
      have ht : pfT u = 1 := by unfold pfT; rw [if_pos hg]
      have hv : pfV u = u / 2 ^ 1 ||| u % 2 := by unfold pfV; rw [ht]
      have ho : bits .or .u64 ((u : Int) / 2) ((u : Int) % 2) = ((pfV u : Nat) : Int) := by
        have := u64_or_nat (u / 2 ^ 1) (u % 2) (by omega) (by omega)
        rw [cast_shr] at this
        rw [hv]; simpa using this
      have hor : bits .or .u64 0 ((pfM u : Nat) : Int) = ((pfM u : Nat) : Int) := by
        have := u64_or_nat 0 (pfM u) (by omega) (by omega)
        rw [Nat.zero_or] at this
        exact this
      rw [ht] at HR
      obtain ⟨v, hvv⟩ : ∃ v, pfV u = v := ⟨_, rfl⟩
      have hRn := fun W => round_any v (by omega) W
      have epm : (v + 1 + v / 4 % 2) / 4 = pfM u := by unfold pfM; rw [hvv]
      rw [epm] at hRn
      rw [hvv] at ho
      obtain ⟨m, hm⟩ : ∃ m, pfM u = m := ⟨_, rfl⟩
      rw [hm] at hml HR hor hRn epm
      have hs1 : IntKind.i64.wrap (EE - 1) = EE - 1 := IntWalk.i64_in _ (by omega)
      have hs2 : IntKind.i64.wrap (-(EE - 1)) = -(EE - 1) := IntWalk.i64_in _ (by omega)
      have HRn := Lib.hid hRn
      have HPk := Lib.hid (pack_any m (-(EE - 1)) hml (by omega))
      have HR2 := Lib.hid (show F = pkF m (-(EE - 1)) from HR.out)
      clear epm HR hRn hm hvv hv ht hg hml hul
      go_upto_region 10 with (first
        | (go_at_call 213; (with_reducible refine (unmin53 _).mono ?_); rintro e w9 ⟨rfl, rfl⟩)
        | (go_at_call 177; (with_reducible refine (bool2i_any _ _).mono ?_); rintro e w9 ⟨rfl, rfl⟩)
        | fail)
      go_wp2_with (first
        | (go_at_call 212; (with_reducible refine (HRn.out _).mono ?_); rintro e w9 ⟨rfl, rfl⟩)
        | (go_at_call 245; (with_reducible refine (HPk.out _).mono ?_); rintro e w9 ⟨⟨v9, rfl, hv9⟩, rfl⟩)
        | fail)
      all_goals first
        | (exfalso; omega)
        | (go_ret2; exact ⟨⟨_, by rw [HR2.out]; rfl, hv9⟩, HB2.out⟩)
    · have hge : ((u : Int) < 36028797018963966) := by omega
      have ht : pfT u = 0 := by unfold pfT; rw [if_neg hg]
      have hv : pfV u = u / 2 ^ 0 ||| u % 2 := by unfold pfV; rw [ht]
      have ho : bits .or .u64 (u : Int) ((u : Int) % 2) = ((pfV u : Nat) : Int) := by
        have := u64_or_nat (u / 2 ^ 0) (u % 2) (by omega) (by omega)
        rw [cast_shr] at this
        rw [hv]; simpa using this
      have hor : bits .or .u64 0 ((pfM u : Nat) : Int) = ((pfM u : Nat) : Int) := by
        have := u64_or_nat 0 (pfM u) (by omega) (by omega)
        rw [Nat.zero_or] at this
        exact this
      rw [ht] at HR
      obtain ⟨v, hvv⟩ : ∃ v, pfV u = v := ⟨_, rfl⟩
      have hRn := fun W => round_any v (by omega) W
      have epm : (v + 1 + v / 4 % 2) / 4 = pfM u := by unfold pfM; rw [hvv]
      rw [epm] at hRn
      rw [hvv] at ho
      obtain ⟨m, hm⟩ : ∃ m, pfM u = m := ⟨_, rfl⟩
      rw [hm] at hml HR hor hRn epm
      have hs1 : IntKind.i64.wrap EE = EE := IntWalk.i64_in _ (by omega)
      have hs2 : IntKind.i64.wrap (-EE) = -EE := IntWalk.i64_in _ (by omega)
      obtain ⟨NE, hNE⟩ : ∃ NE : Int, -EE = NE := ⟨_, rfl⟩
      have hs3 : IntKind.i64.wrap (-EE) = NE := hs2.trans hNE
      have HRn := Lib.hid hRn
      have HPk := Lib.hid (pack_any m NE hml (by omega))
      have HR2 := Lib.hid (show F = pkF m NE by rw [← hNE]; have := HR.out; simpa using this)
      clear hs2 hNE
      clear epm HR hRn hm hvv hv ht hg hml hul
      go_upto_region 10 with (first
        | (go_at_call 213; (with_reducible refine (unmin53 _).mono ?_); rintro e w9 ⟨rfl, rfl⟩)
        | (go_at_call 177; (with_reducible refine (bool2i_any _ _).mono ?_); rintro e w9 ⟨rfl, rfl⟩)
        | fail)
      go_upto_region 12 with fail
      clear hs1 ho ha hge
      go_wp2_with (first
        | (go_at_call 212; (with_reducible refine (HRn.out _).mono ?_); rintro e w9 ⟨rfl, rfl⟩)
        | (go_at_call 245; (with_reducible refine (HPk.out _).mono ?_); rintro e w9 ⟨⟨v9, rfl, hv9⟩, rfl⟩)
        | fail)
      all_goals first
        | (exfalso; omega)
        | (go_ret2; exact ⟨⟨_, by rw [HR2.out]; rfl, hv9⟩, HB2.out⟩)
end
end Go.Proofs.YtpebnofjcodikaaGreatDoor
