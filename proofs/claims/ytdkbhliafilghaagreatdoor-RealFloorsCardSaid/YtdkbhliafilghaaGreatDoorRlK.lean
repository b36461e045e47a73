/- The hash of a float: the program's and the document's. -/
import Derived.Test.YtdkbhliafilghaaGreatDoorRlJ
import Derived.LoopTactic
namespace Go.Proofs.YtdkbhliafilghaaGreatDoor
open Go Go.ChangeShapes Go.WideShapes Go.RowKit
set_option linter.unusedVariables false
set_option linter.unusedSimpArgs false
set_option maxRecDepth 100000 in
theorem rparts_any (b : Nat) (hb : b < 18446744073709551616) (w : World) : Calls Tryz.prog 46 #[.int .u64 (b : Int)] w fun e w' => e = .returned (.tuple #[.int .u64 (manB b : Nat), .int .i64 (exqB b)]) ∧ w = w' := by
  have h1 := and_exp b hb
  have h2 := and_frc b hb
  have hE := exp_lt b
  have hF := frc_lt b
  have HM := Lib.hid (show manB b = if expB b = 0 then frcB b else frcB b + 4503599627370496 from rfl)
  have HX := Lib.hid (show exqB b = if expB b = 0 then -1074 else (expB b : Int) - 1075 from rfl)
  obtain ⟨E, he⟩ : ∃ E, expB b = E := ⟨_, rfl⟩
  obtain ⟨F, hf⟩ : ∃ F, frcB b = F := ⟨_, rfl⟩
  rw [he] at h1 hE HM HX
  rw [hf] at h2 hF HM
  clear he hf
  by_cases h0 : E = 0
  · subst h0
    have hM := HM.out
    have hX := HX.out
    rw [if_pos rfl] at hM hX
    have HM' := Lib.hid hM
    have HX' := Lib.hid hX
    clear HM HX hM hX hE
    go_enter Tryz.func46, Tryz.ntmps46
    go_wp2_with fail
    go_ret2
    exact ⟨by rw [HM'.out, HX'.out]; simp, rfl⟩
  · have hM := HM.out
    have hX := HX.out
    rw [if_neg h0] at hM hX
    have HM' := Lib.hid hM
    have HX' := Lib.hid hX
    have h0' : ¬ (E : Int) = 0 := by omega
    clear HM HX hM hX h0
    go_enter Tryz.func46, Tryz.ntmps46
    go_wp2_with fail
    go_ret2
    exact ⟨by rw [HM'.out, HX'.out]; simp, rfl⟩
theorem neg_ge (b : Nat) (hb : b < 18446744073709551616) : negB b = decide ((9223372036854775808 : Int) ≤ (b : Int)) := by
  unfold negB
  have e3 : fSG = 9223372036854775808 := rfl
  rw [Bool.eq_iff_iff, beq_iff_eq, decide_eq_true_eq, e3]
  omega
set_option maxRecDepth 100000 in
theorem below_anyB (b : Nat) (hb : b < 18446744073709551616) (w : World) : Calls Tryz.prog 28 #[.int .u64 (b : Int)] w fun e w' => e = .returned (.bool (negB b)) ∧ w = w' := by
  have HN := Lib.hid (neg_ge b hb)
  go_enter Tryz.func28, Tryz.ntmps28
  go_wp2_with fail
  go_ret
  exact ⟨by rw [HN.out]; simp, rfl⟩
/-- The float's hash. -/
def hashV (b : Nat) : Int := if nanB b = true then 0 else if infB b = true then (if negB b = true then -314159 else 314159) else if negB b = true then -((hsB b : Nat) : Int) else ((hsB b : Nat) : Int)
structure HF (b m1 p q hs : Nat) (r : Int) : Prop where
  f1 : ((manB b : Nat) : Int).tmod 2147483647 = (m1 : Int)
  l1 : m1 < 2147483647
  f2 : (exqB b).tmod 31 = r
  l2 : -31 < r ∧ r < 31
  f3 : (r + 31).tmod 31 = (p : Int)
  l3 : p < 31
  f4 : wrap64 ((2 : Int) ^ p) = (q : Int)
  f5 : ((m1 : Int) * (q : Int)).tmod 2147483647 = (hs : Int)
  l5 : hs < 2147483647
  l6 : 0 ≤ (m1 : Int) * (q : Int) ∧ (m1 : Int) * (q : Int) ≤ 4611686018427387904
  eq : hsB b = hs
theorem hf_of (b : Nat) : ∃ m1 p q hs r, HF b m1 p q hs r := by
  have hp := pw_lt b
  have hq : 2 ^ pwB b ≤ 2 ^ 30 := Nat.pow_le_pow_right (by decide) (by omega)
  have hm : manB b % 2147483647 < 2147483647 := Nat.mod_lt _ (by decide)
  have hmul : manB b % 2147483647 * 2 ^ pwB b ≤ 2147483647 * 2 ^ 30 := Nat.mul_le_mul (by omega) hq
  refine ⟨manB b % 2147483647, pwB b, 2 ^ pwB b, hsB b, (exqB b).tmod 31, ⟨?_, hm, rfl, ?_, ?_, hp, ?_, ?_, db_lt _ _, ?_, rfl⟩⟩
  · rw [Int.tmod_eq_emod_of_nonneg (by omega)]; omega
  · have h1 := Int.lt_tmod_of_pos (exqB b) (show (0 : Int) < 31 by decide)
    have h2 := Int.tmod_lt_of_pos (exqB b) (show (0 : Int) < 31 by decide)
    omega
  · rw [tmod31]; unfold pwB; omega
  · rw [show ((2 : Int) ^ pwB b) = ((2 ^ pwB b : Nat) : Int) by push_cast; rfl]
    generalize 2 ^ pwB b = pw at hq
    unfold wrap64
    omega
  · rw [Int.tmod_eq_emod_of_nonneg (by rw [← Int.natCast_mul]; omega), ← Int.natCast_mul]
    unfold hsB db
    omega
  · rw [← Int.natCast_mul]; omega
end Go.Proofs.YtdkbhliafilghaaGreatDoor
