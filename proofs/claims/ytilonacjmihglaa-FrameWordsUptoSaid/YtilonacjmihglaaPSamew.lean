/- Layer 14: SameWords. -/
import Derived.Test.YtilonacjmihglaaPSameInts
import Derived.Test.YtilonacjmihglaaPRoomS
namespace Go.Proofs.Ytilonacjmihglaa
open Go Go.ChangeShapes Go.WideShapes Go.ChangeAt Go.RowKit
set_option linter.unusedVariables false
set_option linter.unusedSimpArgs false
set_option maxRecDepth 100000 in
set_option maxHeartbeats 1000000 in
theorem samew (v1 v2 : Value) (ws : List Int) (w : World) (h1 : Rd w v1 ws) (h2 : Rd w v2 ws) :
    Calls Try.prog 43 #[v1, v2] w fun e w' => e = .returned (.bool true) ∧ ∃ q, w' = w.drewN q := by
  obtain ⟨p1, c1, rfl, hc1, hm1, hp1⟩ := rd_form h1
  obtain ⟨p2, c2, rfl, hc2, hm2, hp2⟩ := rd_form h2
  have HP1 := Lib.hid hp1
  have HP2 := Lib.hid hp2
  clear h1 h2 hp1 hp2
  go_enter Try.func43, Try.ntmps43
  go_wp2_with fail
  go_loopw [5] (fun s wr => ∃ k q : Nat, s = .int .i64 k ∧ k ≤ ws.length ∧ wr = w.drewN q) (fun s _ => ws.length - (intOf s).toNat)
  case atStart => exact ⟨0, 0, by go_num, Nat.zero_le _, rfl⟩
  case round =>
    obtain ⟨k, q, rfl, hk, rfl⟩ := hrel
    by_cases hlt : k < ws.length
    · obtain ⟨b1, o1, rfl, e1⟩ := HP1.out (by omega)
      obtain ⟨b2, o2, rfl, e2⟩ := HP2.out (by omega)
      have e1 := e1 k hlt
      have e2 := e2 k hlt
      have hlz : (k : Int) < (ws.length : Int) := by omega
      go_wp2_with fail
      go_quiet (fail)
      go_wp2_with fail
      go_roundw
      case rel => exact ⟨k + 1, _, by go_num, by omega, rfl⟩
      case measure => simp [intOf]; omega
    · go_wp2_with fail
      go_ret
      exact ⟨rfl, _, rfl⟩
end Go.Proofs.Ytilonacjmihglaa
