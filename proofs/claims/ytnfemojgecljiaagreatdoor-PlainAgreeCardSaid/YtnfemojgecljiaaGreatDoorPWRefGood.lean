/- Layer 2, the document's answer: screeref02.Good. -/
import Derived.Test.YtnfemojgecljiaaGreatDoorPGWa
namespace Go.Proofs.YtnfemojgecljiaaGreatDoor
open Go.ChangeShapes Go.WideShapes Go.ChangeAt Go.RowKit
set_option linter.unusedVariables false
set_option linter.unusedSimpArgs false
set_option maxRecDepth 100000 in
set_option maxHeartbeats 1000000 in
theorem refgood_any (neg : Bool) (u : Value) (ws : List Int) (w : World) (hr : Rd w u ws) (hf : Fit ws) :
    Calls Tryz.prog 40 #[.agg #[.bool neg, u]] w (BoolPost w (goodB neg ws)) := by
  obtain ⟨p, c, rfl, hc, hm, hp⟩ := rd_form hr
  have HB := Lib.hid (show Below w.heap.size w (w.alloc (.cells #[.bool neg, .slice p ws.length c] 24)) from (Below.refl _ _).alloc (Nat.le_refl _) _)
  by_cases h0 : ws.length = 0
  · have e0 : ws = [] := List.length_eq_zero_iff.1 h0
    have HG := Lib.hid (show (!neg) = goodB neg ws by rw [e0]; rfl)
    clear e0
    rw [h0] at HB ⊢
    clear hp hc hm hr h0
    go_enter Tryz.func40, Tryz.ntmps40
    go_wp2
    go_ret
    exact BoolPost.mk HG.out HB.out
  · obtain ⟨b, off, rfl, hcell⟩ := hp (by omega)
    have hl0 : (ws.length : Int) ≠ 0 := by omega
    have hl1 : ((ws.length : Int) == 0) = false := by simpa using hl0
    have hl : 1 ≤ ws.length := by omega
    clear h0 hp hl0
    by_cases h30 : ws.length ≤ 30
    · have h30z : ¬ (30 : Int) < (ws.length : Int) := by omega
      have hcl := fun i hi => alloc_cell (hcell i hi) (.cells #[.bool neg, .slice (some ⟨b, off, none⟩) ws.length c] 24)
      have HC := Lib.hid hcl
      clear hcell hcl
      go_enter Tryz.func40, Tryz.ntmps40
      go_wp2
      go_loop [4] (fun i => ∃ k : Nat, i = .int .i64 k ∧ k ≤ ws.length ∧ ∀ j, j < k → ws.getD j 0 < 1000000000000000000) (fun i => ws.length - (intOf i).toNat)
      case atStart => exact ⟨0, by go_num, by omega, fun j hj => by omega⟩
      case round =>
        obtain ⟨k, rfl, hk, hall⟩ := hrel
        have HA := Lib.hid hall
        clear hall
        by_cases hlt : k < ws.length
        · have hcx := HC.out k hlt
          by_cases hbig : ws.getD k 0 < 1000000000000000000
          · have HL := Lib.hid hbig
            generalize ws.getD k 0 = x at hcx hbig
            go_wp2
            go_round
            case rel => exact ⟨k + 1, by go_num, by omega, fun j hj => by
              by_cases e : j = k
              · subst e; exact HL.out
              · exact HA.out j (by omega)⟩
            case measure => simp [intOf]; omega
          · have HG := Lib.hid (goodB_not (neg := neg) hlt hbig)
            generalize ws.getD k 0 = x at hcx hbig
            go_wp2
            go_ret
            exact BoolPost.mk HG.out.symm HB.out
        · have hlast := HC.out (ws.length - 1) (by omega)
          by_cases hz : ws.getD (ws.length - 1) 0 = 0
          · have HG := Lib.hid (goodB_last (neg := neg) (by omega) hz)
            rw [hz] at hlast
            clear hz
            go_wp2
            go_ret
            exact BoolPost.mk HG.out.symm HB.out
          · have HG := Lib.hid (goodB_yes (neg := neg) (by omega) h30 hz (fun i hi => HA.out i (by omega)))
            have hz2 : (ws.getD (ws.length - 1) 0 != 0) = true := by simpa using hz
            clear hz
            generalize ws.getD (ws.length - 1) 0 = q at hlast hz2
            go_wp2
            go_ret
            exact BoolPost.mk HG.out.symm HB.out
    · have HG := Lib.hid (goodB_long (neg := neg) (show 30 < ws.length by omega))
      go_enter Tryz.func40, Tryz.ntmps40
      go_wp2
      go_ret
      exact BoolPost.mk HG.out.symm HB.out
end Go.Proofs.YtnfemojgecljiaaGreatDoor
