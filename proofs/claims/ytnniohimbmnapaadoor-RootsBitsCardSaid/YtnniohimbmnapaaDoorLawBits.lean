/- Layer 12: the statement on Has and Count: the walk. -/
import Derived.Test.YtnniohimbmnapaaDoorCount
import Derived.Test.YtnniohimbmnapaaDoorK12
namespace Go.Proofs.YtnniohimbmnapaaDoor
open Go Go.ChangeShapes Go.WideShapes Go.RowKit
set_option linter.unusedVariables false
set_option linter.unusedSimpArgs false
set_option maxRecDepth 100000 in
set_option maxHeartbeats 4000000 in
theorem law_bits (v : Value) (ws : List Nat) (r : Int) (w : World) (hU : Us w) (hR : Rw w v ws) (hw : (Lit.int .i64 r).wf = true) :
    Calls Tryd.prog 10 #[v, .int .i64 r] w fun e w' => e = .returned (.bool true) ∧ Below w.heap.size w w' := by
  have hwi := wfi hw
  have HK := Lib.hid (known12 w hU)
  have HH := Lib.hid (fun w' (h : Rw w' v ws) => hasr_any v ws r w' h (by omega) (by omega))
  have HI := Lib.hid (fun w' (h : Rw w' v ws) => is_any v ws r w' h (by omega) (by omega))
  have HC := Lib.hid (fun w' (h : Rw w' v ws) => count_any v ws w' h)
  have HD := Lib.hid (fun w' (h : Rw w' v ws) => rcount_any v ws w' h)
  have HR := Lib.hid hR
  obtain ⟨b, hb⟩ : ∃ b, isB ws r = b := ⟨_, rfl⟩
  obtain ⟨n, hn⟩ : ∃ n, popL ws = n := ⟨_, rfl⟩
  rw [hb] at HH HI
  rw [hn] at HC HD
  have e1 : (b == b) = true := by cases b <;> rfl
  obtain ⟨p, c, rfl, _, _, _⟩ := rw_form hR
  clear hU hR hb hn
  go_enter Tryd.func10, Tryd.ntmps10
  go_wp2_with (first
    | (go_at_call 33; (with_reducible refine HK.out.mono ?_); rintro e wA ⟨rfl, hb⟩; have HA := Lib.hid hb; have HRA := Lib.hid (HR.out.keep hb); clear hb)
    | (go_at_call 36; (with_reducible refine (HH.out _ HRA.out).mono ?_); rintro e w9 ⟨rfl, rfl⟩)
    | (go_at_call 27; (with_reducible refine (HI.out _ HRA.out).mono ?_); rintro e w9 ⟨rfl, rfl⟩)
    | (go_at_call 37; (with_reducible refine (HC.out _ HRA.out).mono ?_); rintro e w9 ⟨rfl, rfl⟩)
    | (go_at_call 38; (with_reducible refine (HD.out _ HRA.out).mono ?_); rintro e w9 ⟨rfl, rfl⟩)
    | fail)
  go_ret
  exact ⟨rfl, HA.out⟩
end Go.Proofs.YtnniohimbmnapaaDoor
