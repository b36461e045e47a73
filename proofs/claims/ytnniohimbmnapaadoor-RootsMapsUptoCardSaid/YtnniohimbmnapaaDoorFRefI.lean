/- Layer 10: the document's 'inside'. -/
import Derived.Test.YtnniohimbmnapaaDoorFMem
namespace Go.Proofs.YtnniohimbmnapaaDoor
open Go Go.ChangeShapes Go.WideShapes Go.RowKit
set_option linter.unusedVariables false
set_option linter.unusedSimpArgs false
set_option maxRecDepth 100000 in
set_option maxHeartbeats 1000000 in
theorem rinside_any (u : Value) (l : List Int) (n : Int) (w : World) (h : Ri w u l) :
    Calls Tryd.prog 46 #[u, .int .i64 n] w fun e w' => e = .returned (.bool (withinB l n)) ∧ w = w' := by
  obtain ⟨p, c, rfl, hc, hm, hp⟩ := ri_form h
  have HP := Lib.hid hp
  clear hp h
  go_enter Tryd.func46, Tryd.ntmps46
  go_wp2
  go_loop [5] (fun s => ∃ i : Nat, s = .int .i64 i ∧ i ≤ l.length ∧ ∀ j, j < i → inB (l.getD j 0) n = true) (fun s => l.length - (intOf s).toNat)
  case atStart => exact ⟨0, rfl, Nat.zero_le _, fun j h => by omega⟩
  case round =>
    obtain ⟨i, rfl, hil, hno⟩ := hrel
    have HN := Lib.hid hno
    clear hno
    by_cases hlt : i < l.length
    · obtain ⟨b, off, rfl, hcell⟩ := HP.out (by omega)
      have hci := hcell i hlt
      obtain ⟨x, hx⟩ : ∃ x, l.getD i 0 = x := ⟨_, rfl⟩
      rw [hx] at hci
      have HXE := Lib.hid hx
      have hlz : (i : Int) < (l.length : Int) := by omega
      clear hcell hx
      by_cases h0 : x < 0
      · have HY := Lib.hid (withinB_no (n := n) hlt (by rw [HXE.out]; unfold inB; simp; omega))
        go_wp2
        go_ret
        exact ⟨ret_b HY.out.symm, rfl⟩
      · by_cases h1 : x ≥ n
        · have HY := Lib.hid (withinB_no (n := n) hlt (by rw [HXE.out]; unfold inB; simp; omega))
          go_wp2
          go_ret
          exact ⟨ret_b HY.out.symm, rfl⟩
        · have HB := Lib.hid (show inB x n = true by unfold inB; simp; omega)
          go_wp2
          go_round
          case rel => exact ⟨i + 1, by go_num, by omega, fun j h2 => by
            by_cases e : j = i
            · subst e; rw [HXE.out]; exact HB.out
            · exact HN.out j (by omega)⟩
          case measure => simp [intOf]; omega
    · have hlz : ¬ (i : Int) < (l.length : Int) := by omega
      have HY := Lib.hid (withinB_yes (l := l) (n := n) fun j h1 => HN.out j (by omega))
      go_wp2
      go_ret
      exact ⟨ret_b HY.out.symm, rfl⟩
end Go.Proofs.YtnniohimbmnapaaDoor
