/- math.Trunc; a float converted to an int; below 2^53. -/
import Derived.Test.YtlhfemgimieooaaGreatDoorPGRlB
import Derived.Test.YtlhfemgimieooaaGreatDoorPGRlG
import Derived.Test.YtlhfemgimieooaaGreatDoorPGWb
set_option linter.unusedVariables false
set_option linter.unusedSimpArgs false
set_option maxRecDepth 100000
namespace Go.Proofs.YtlhfemgimieooaaGreatDoor
open Go.Lib (hid)
section
open Go Go.ChangeShapes Go.WideShapes Go.RowKit
theorem decode_num (b : Nat) (hx : nanB b = false) (hi : b % fSG ≠ fIN) : ∃ m k, FloatKind.f64.decode b = .number (negB b) m k := by
 rcases read_d b with ⟨h, _⟩ | ⟨_, h, _⟩ | ⟨_, _, m, e, h, _⟩
 · rw [h] at hx; cases hx
 · exact absurd h hi
 · exact ⟨m, _, h⟩
theorem run_atrunc (b : Nat) (hx : nanB b = false) (hi : b % fSG ≠ fIN) (w : World) : (callFunc 107 #[.float .f64 b]).run Tryz.prog w = .ok (.value (.float .f64 (tcB b))) w := by
 rw [run_callFunc_extern Tryz.func107 (by kernel_rfl) (by kernel_rfl) (by kernel_rfl) (e := Extern.MathFloor.toIntegral "math.archTrunc" .zero) (by kernel_rfl)]
 obtain ⟨m, k, hd⟩ := decode_num b hx hi
 have h2 : FloatKind.f64.encode ((FloatKind.f64.decode b).integral .zero) = tcB b := by
   have := integral_d b hx hi
   unfold tcB
   rw [← this]
   rfl
 have h3 : Extern.MathFloor.toIntegral "math.archTrunc" .zero #[.float .f64 b] = pure (.float .f64 (tcB b)) := by
   rw [← h2]
   show (match FloatKind.f64.decode b with
     | .nan s t =>
       if FloatKind.f64.format.quiet t = t then pure (.float .f64 b) else do
       let kept ← choose (.extern "math.Floor,Ceil,Trunc,RoundToEven.signallingNaN kept" 2)
       pure (.float .f64 (if kept == 1 then b else FloatKind.f64.encode (.nan s (FloatKind.f64.format.quiet t))))
     | d => pure (.float .f64 (FloatKind.f64.encode (d.integral .zero))) : Sem Value) = _
   rw [hd]
 rw [h3]
 rfl
theorem trunc_any (b : Nat) (hx : nanB b = false) (hi : b % fSG ≠ fIN) (w : World) : Calls Tryz.prog 68 #[.float .f64 b] w fun e w' => e = .returned (.float .f64 (tcB b)) ∧ w = w' := by
 have h1 := run_atrunc b hx hi w
 obtain ⟨t, ht⟩ : ∃ t, tcB b = t := ⟨_, rfl⟩
 rw [ht] at h1
 have HT := hid ht
 clear ht hx hi
 go_enter Tryz.func68, Tryz.ntmps68
 go_wp2_with fail
 go_ret
 exact ⟨by rw [HT.out]; rfl, rfl⟩
theorem run_toint (b : Nat) (hx : nanB b = false) (hi : b % fSG ≠ fIN) (hl : trV b < 9007199254740992) (w : World) : (convert 95 3 (.float .f64 b)).run Tryz.prog w = .ok (.int .i64 (if negB b = true then -((trV b : Nat) : Int) else ((trV b : Nat) : Int))) w := by
 have h1 := toInt_d b hx hi
 have h2 : Conv.floatToInt .f64 b .i64 = pure (.int .i64 (if negB b = true then -((trV b : Nat) : Int) else ((trV b : Nat) : Int))) := by
   unfold Conv.floatToInt
   rw [show (FloatKind.f64.decode b).toInt .zero = some (if negB b = true then -((trV b : Nat) : Int) else ((trV b : Nat) : Int)) from h1]
   simp only
   rw [if_pos]
   constructor
   · show (-9223372036854775808 : Int) ≤ _
     split <;> omega
   · show _ ≤ (9223372036854775807 : Int)
     split <;> omega
 simp [convert, run_underlying Tryz.underlying95, run_underlying Tryz.underlying3, h2, Result.andThen]
theorem small_d (b : Nat) (hx : nanB b = false) (hi : b % fSG ≠ fIN) : (FloatKind.f64.format.order (tcB b % fSG) 4845873199050653696 == some .lt) = decide (trV b < 9007199254740992) := by
 obtain ⟨h1, h2, h3, h4, h5⟩ := tc_all b hx hi
 have e1 : fSG = 9223372036854775808 := rfl
 have n1 : nanB (tcB b % fSG) = false := by unfold nanB; rw [Nat.mod_mod, decide_eq_false_iff_not]; omega
 have n2 : nanB 4845873199050653696 = false := by decide +kernel
 rw [fmt_double, lt_d n1 n2]
 have v1 : valZ (tcB b % fSG) = ((trV b * 2 ^ eK : Nat) : Int) := by
   unfold valZ negB
   rw [Nat.mod_mod, Nat.div_eq_of_lt (Nat.mod_lt _ (by decide)), if_neg (by decide), h5]
 have v2 : valZ 4845873199050653696 = ((9007199254740992 * 2 ^ eK : Nat) : Int) := by
   have h6 : magV (4845873199050653696 % fSG) = 9007199254740992 * 2 ^ eK := by
     rw [e1, show (4845873199050653696 % 9223372036854775808 : Nat) = 1075 * 4503599627370496 + 4503599627370496 by decide, word_mag 1075 4503599627370496 (by omega) (by omega), show (1075 : Nat) = 1 + eK by rw [eK_eq], Nat.pow_add, ← Nat.mul_assoc]
   unfold valZ
   rw [h6, if_neg (by decide)]
 have a1 := @fval_lt (tcB b % fSG) 4845873199050653696
 rw [v1, v2] at a1
 rw [decide_eq_decide, a1]
 have hp : 0 < 2 ^ eK := Nat.two_pow_pos eK
 generalize 2 ^ eK = q at hp
 constructor
 · intro h
   exact Nat.lt_of_mul_lt_mul_right (Int.ofNat_lt.1 h)
 · intro h
   exact Int.ofNat_lt.2 (Nat.mul_lt_mul_of_pos_right h hp)
end
section
open Go Go.ChangeShapes Go.WideShapes Go.RowKit
theorem run_neg (b : Nat) (hb : b < 18446744073709551616) (hn : nanB b = false) (w : World) : (Op.unary UnOp.neg (.float .f64 b)).run Tryz.prog w = .ok (.float .f64 (flipB b)) w := by
 simp [Op.unary, go_sem]
 have h : Op.negFloat FloatKind.f64 b = b ^^^ 9223372036854775808 := by rfl
 rw [h, xor_top hb]
end
section
open Go Ieee
def trZ (b : Nat) : Int := if negB b = true then -((trV b : Nat) : Int) else ((trV b : Nat) : Int)
theorem pow2_le {k K d : Nat} (h : k ≤ K) (hK : K ≤ 3 * d) (hd : d ≠ 0) : (2 : Nat) ^ k < 10 ^ d := by
 have h1 : (2 : Nat) ^ k ≤ 2 ^ (3 * d) := Nat.pow_le_pow_right (by decide) (by omega)
 have h3 : (2 : Nat) ^ (3 * d) = (2 ^ 3) ^ d := Nat.pow_mul 2 3 d
 have h4 : ((2 : Nat) ^ 3) ^ d < 10 ^ d := Nat.pow_lt_pow_left (by decide) hd
 omega
theorem tr_ltK (b K : Nat) (hK : 1025 ≤ K) : trV b < 2 ^ K := by
 by_cases h : 0 ≤ exqB b
 · rw [tr_up b h]
   have h1 := man_lt b
   have h2 := (exq_lo b).2
   have h3 : 2 ^ (exqB b).toNat ≤ 2 ^ (K - 53) := Nat.pow_le_pow_right (by decide) (by omega)
   have h4 : manB b * 2 ^ (exqB b).toNat ≤ manB b * 2 ^ (K - 53) := Nat.mul_le_mul_left _ h3
   have h5 : manB b * 2 ^ (K - 53) < 9007199254740992 * 2 ^ (K - 53) := Nat.mul_lt_mul_of_pos_right h1 (Nat.two_pow_pos _)
   have h6 : 9007199254740992 * 2 ^ (K - 53) = 2 ^ K := by
     have e : K = 53 + (K - 53) := by omega
     conv => rhs; rw [e, Nat.pow_add]
   omega
 · rw [tr_down b (by omega)]
   have h1 := man_lt b
   have h2 : manB b / 2 ^ (-exqB b).toNat ≤ manB b := Nat.div_le_self _ _
   have h3 : (9007199254740992 : Nat) = 2 ^ 53 := by rfl
   have h4 : (2 : Nat) ^ 53 ≤ 2 ^ K := Nat.pow_le_pow_right (by decide) (by omega)
   omega
theorem abs_lt_pow {n d : Nat} (h : n < 10 ^ d) : (((n : Int).natAbs : Nat) : Int) < (10 : Int) ^ d := by
 rw [Int.natAbs_natCast, show ((10 : Int) ^ d) = ((10 ^ d : Nat) : Int) by push_cast; rfl]
 exact Int.ofNat_lt.2 h
theorem nat_small {n k : Nat} (h : n < 2 ^ k) (hk : k ≤ 1100) : Small (n : Int) := by
 obtain ⟨d, hd⟩ : ∃ d, d = 540 := ⟨_, rfl⟩
 have h1 := abs_lt_pow (Nat.lt_trans h (pow2_le (Nat.le_refl k) (show k ≤ 3 * d by omega) (by omega)))
 rw [hd] at h1
 exact ⟨h1⟩
theorem tr_small (b : Nat) : Small ((trV b : Nat) : Int) := nat_small (tr_ltK b 1025 (Nat.le_refl _)) (by decide)
theorem trZ_small (b : Nat) : Small (trZ b) := by
 have h := tr_small b
 unfold trZ
 split
 · exact ⟨by rw [Int.natAbs_neg]; exact h.lt⟩
 · exact h
theorem trZ_i64 {b : Nat} (h : trV b < 9007199254740992) : -9223372036854775808 ≤ trZ b ∧ trZ b ≤ 9223372036854775807 := by
 unfold trZ; split <;> omega
theorem exq_pos {b : Nat} (h : ¬ trV b < 9007199254740992) : 0 ≤ exqB b := by
 refine Int.not_lt.1 fun hc => h ?_
 rw [tr_down b hc]
 exact Nat.lt_of_le_of_lt (Nat.div_le_self _ _) (man_lt b)
theorem tr_mul {b : Nat} (h : 0 ≤ exqB b) : ((trV b : Nat) : Int) = ((manB b : Nat) : Int) * (2 : Int) ^ (exqB b).toNat := by
 rw [tr_up b h]; push_cast; rfl
theorem cast_pow2 (k : Nat) : ((2 : Int) ^ k) = ((2 ^ k : Nat) : Int) := by push_cast; rfl
theorem pow_smallK {k K : Nat} (h : k < K) (hK : K ≤ 1100) : Small ((2 : Int) ^ k) := by
 rw [cast_pow2]
 exact nat_small (Nat.pow_lt_pow_right (by decide) h) hK
theorem exq_small {b : Nat} : Small ((2 : Int) ^ (exqB b).toNat) := by
 have h := (exq_lo b).2
 exact pow_smallK (K := 973) (by omega) (by decide)
end
end Go.Proofs.YtlhfemgimieooaaGreatDoor
