/- Layer 4: what stands behind a backslash: both sides' small functions. -/
import Derived.Test.YtcjomeghcihecaaDoorLxA
namespace Go.Proofs.YtcjomeghcihecaaDoor
open Go Go.ChangeShapes Go.WideShapes Go.ChangeAt Go.RowKit Go.PlainAid
set_option linter.unusedVariables false
set_option linter.unusedSimpArgs false
def hexI (b : Int) : Int := if isDi b = true then b - 48 else if 97 ≤ b ∧ b ≤ 102 then b - 87 else if 65 ≤ b ∧ b ≤ 70 then b - 55 else -1
theorem hexI_lo (b : Int) : -1 ≤ hexI b ∧ hexI b ≤ 15 := by
  unfold hexI isDi
  simp only [Bool.and_eq_true, decide_eq_true_eq]
  split
  · omega
  · split
    · omega
    · split <;> omega
theorem hexV_int (c : UInt8) : hexV c = if 0 ≤ hexI c.toNat then some (hexI c.toNat).toNat else none := by
  unfold hexV hexI
  rw [isD_int]
  have c1 : (97 ≤ (c.toNat : Int) ∧ (c.toNat : Int) ≤ 102) ↔ (97 ≤ c.toNat ∧ c.toNat ≤ 102) := by omega
  have c2 : (65 ≤ (c.toNat : Int) ∧ (c.toNat : Int) ≤ 70) ↔ (65 ≤ c.toNat ∧ c.toNat ≤ 70) := by omega
  simp only [c1, c2]
  by_cases h : isDi c.toNat = true
  · have h' := h
    unfold isDi at h'
    simp only [Bool.and_eq_true, decide_eq_true_eq] at h'
    rw [if_pos h, if_pos h, if_pos (by omega)]
    congr 1; omega
  · rw [if_neg h, if_neg h]
    by_cases h1 : 97 ≤ c.toNat ∧ c.toNat ≤ 102
    · rw [if_pos h1, if_pos h1, if_pos (by omega)]
      congr 1; omega
    · rw [if_neg h1, if_neg h1]
      by_cases h2 : 65 ≤ c.toNat ∧ c.toNat ≤ 70
      · rw [if_pos h2, if_pos h2, if_pos (by omega)]
        congr 1; omega
      · rw [if_neg h2, if_neg h2, if_neg (by omega)]
theorem u8_in {n : Int} (h0 : 0 ≤ n) (h1 : n ≤ 255) : IntKind.u8.wrap n = n := by rw [IntKind.wrap_u8]; omega
theorem i64_in {n : Int} (h0 : -9223372036854775808 ≤ n) (h1 : n ≤ 9223372036854775807) : IntKind.i64.wrap n = n := by rw [IntKind.wrap_i64]; omega
set_option maxRecDepth 100000 in
set_option maxHeartbeats 800000 in
theorem hexDigit_any (b : Int) (h0 : 0 ≤ b) (h1 : b ≤ 255) (w : World) : Calls Tryd.prog 54 #[.int .u8 b] w fun e w' => e = .returned (.int .i64 (hexI b)) ∧ w' = w := by
  have hd : isDi b = (decide (48 ≤ b) && decide (b ≤ 57)) := rfl
  have HD := Lib.hid hd
  have H0 := Lib.hid h0
  have H1 := Lib.hid h1
  clear hd h0 h1
  go_enter Tryd.func54, Tryd.ntmps54
  go_wp2_with (first | (go_at_call 39; (with_reducible refine (isDigit_any b _).mono ?_); rintro e w1 ⟨rfl, rfl⟩) | fail)
  all_goals refine bodyPost_ret (v := .int .i64 (hexI b)) ?_ rfl ⟨rfl, rfl⟩
  all_goals (simp [results, Tryd.results54, go_sem])
  all_goals (have h0 := H0.out; have h1 := H1.out; simp only [hexI, IntKind.wrap_u8, IntKind.wrap_i64])
  all_goals (simp [isDi] at *)
  all_goals ((repeat' split) <;> omega)
end Go.Proofs.YtcjomeghcihecaaDoor
