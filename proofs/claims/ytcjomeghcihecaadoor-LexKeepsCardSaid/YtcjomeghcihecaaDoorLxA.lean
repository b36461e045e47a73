/- Layer 4: letters, digits, what stands behind a backslash: both sides' small functions. -/
import Derived.Test.YtcjomeghcihecaaDoorLxP5
import Derived.Test.YtcjomeghcihecaaDoorKhT
import Derived.Test.YtcjomeghcihecaaDoorAppS
import Derived.Test.YtcjomeghcihecaaDoorOwn
import Derived.Test.YtcjomeghcihecaaDoorRows
import Derived.ProofKit
import Derived.OpenShut
import Derived.OwnWalk
import Derived.Lib.Hide
import Derived.Lib.Strings
import Derived.Lib.SmallJoins
import Derived.PlainAid
import Derived.Deep.QuietTactic
import Derived.BigQuiet
import Derived.StillTailTactics
namespace Go.Proofs.YtcjomeghcihecaaDoor
open Go Go.ChangeShapes Go.WideShapes Go.ChangeAt Go.RowKit Go.PlainAid
set_option linter.unusedVariables false
set_option linter.unusedSimpArgs false
def isLi (b : Int) : Bool := (decide (97 ≤ b) && decide (b ≤ 122)) || (decide (65 ≤ b) && decide (b ≤ 90)) || decide (b = 95)
def isDi (b : Int) : Bool := decide (48 ≤ b) && decide (b ≤ 57)
theorem isL_int (c : UInt8) : isL c = isLi (c.toNat : Int) := by
  unfold isL isLi
  rw [Bool.eq_iff_iff]
  simp only [Bool.or_eq_true, Bool.and_eq_true, decide_eq_true_eq]
  omega
theorem isD_int (c : UInt8) : isD c = isDi (c.toNat : Int) := by
  unfold isD isDi
  rw [Bool.eq_iff_iff]
  simp only [Bool.and_eq_true, decide_eq_true_eq]
  omega
set_option maxRecDepth 100000 in
set_option maxHeartbeats 800000 in
theorem isLetter_any (b : Int) (w : World) : Calls Tryd.prog 37 #[.int .u8 b] w fun e w' => e = .returned (.bool (isLi b)) ∧ w' = w := by
  go_enter Tryd.func37, Tryd.ntmps37
  go_wp2_with fail
  all_goals refine bodyPost_ret (v := .bool (isLi b)) ?_ rfl ⟨rfl, rfl⟩
  all_goals (simp [results, Tryd.results37, go_sem])
  all_goals (rw [Bool.eq_iff_iff]; simp [isLi]; omega)
set_option maxRecDepth 100000 in
set_option maxHeartbeats 800000 in
theorem isDigit_any (b : Int) (w : World) : Calls Tryd.prog 39 #[.int .u8 b] w fun e w' => e = .returned (.bool (isDi b)) ∧ w' = w := by
  go_enter Tryd.func39, Tryd.ntmps39
  go_wp2_with fail
  all_goals refine bodyPost_ret (v := .bool (isDi b)) ?_ rfl ⟨rfl, rfl⟩
  all_goals (simp [results, Tryd.results39, go_sem])
  all_goals (rw [Bool.eq_iff_iff]; simp [isDi]; omega)
set_option maxRecDepth 100000 in
set_option maxHeartbeats 800000 in
theorem rLetter_any (b : Int) (w : World) : Calls Tryd.prog 26 #[.int .u8 b] w fun e w' => e = .returned (.bool (isLi b)) ∧ w' = w := by
  go_enter Tryd.func26, Tryd.ntmps26
  go_wp2_with fail
  all_goals refine bodyPost_ret (v := .bool (isLi b)) ?_ rfl ⟨rfl, rfl⟩
  all_goals (simp [results, Tryd.results26, go_sem])
  all_goals (rw [Bool.eq_iff_iff]; simp [isLi]; omega)
set_option maxRecDepth 100000 in
set_option maxHeartbeats 800000 in
theorem rDigit_any (b : Int) (w : World) : Calls Tryd.prog 27 #[.int .u8 b] w fun e w' => e = .returned (.bool (isDi b)) ∧ w' = w := by
  go_enter Tryd.func27, Tryd.ntmps27
  go_wp2_with fail
  all_goals refine bodyPost_ret (v := .bool (isDi b)) ?_ rfl ⟨rfl, rfl⟩
  all_goals (simp [results, Tryd.results27, go_sem])
  all_goals (rw [Bool.eq_iff_iff]; simp [isDi]; omega)
end Go.Proofs.YtcjomeghcihecaaDoor
