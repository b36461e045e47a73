/- Layer 2: whole.Good, screeref02.Good, screeref02.Same: what they answer of a sign and a row of limbs. -/
import Derived.Test.YthcijdlkaoppnaaGreatDoorRows
import Derived.Test.YthcijdlkaoppnaaGreatDoorPRd
import Derived.Test.YthcijdlkaoppnaaGreatDoorPDig
import Derived.ProofKit
import Derived.OpenShut
import Derived.OwnWalk
import Derived.Outline
import Derived.Lib.Hide
import Derived.BigQuiet
import Derived.Deep.QuietTactic
import Derived.WalkSmall
import Derived.LoopTactic
import Derived.BigRegion
import Derived.WalkLawsBesides
namespace Go.Proofs.YthcijdlkaoppnaaGreatDoor
open Go.ChangeShapes Go.WideShapes Go.ChangeAt Go.RowKit
set_option linter.unusedVariables false
set_option linter.unusedSimpArgs false
def goodB (neg : Bool) (ws : List Int) : Bool :=
  if ws.length = 0 then !neg else (decide (ws.length ≤ 30) && (ws.getD (ws.length - 1) 0 != 0 && ws.all (fun d => decide (d < 1000000000000000000))))
theorem rd_form {w : World} {u : Value} {ws : List Int} (h : Rd w u ws) : ∃ p c, u = .slice p ws.length c ∧ ws.length ≤ c ∧ ws.length ≤ 17592186043904 ∧
    (0 < ws.length → ∃ b off, p = some ⟨b, off, none⟩ ∧ ∀ i, i < ws.length → w.cell? ⟨b, off + i, none⟩ = some (.int .u64 (ws.getD i 0))) := by
  rcases h with ⟨p, rfl, rfl⟩ | ⟨b, off, c, rfl, h1, h2, h3⟩
  · exact ⟨p, 0, rfl, by simp, by simp, fun h => by simp at h⟩
  · exact ⟨_, c, rfl, h1, h2, fun _ => ⟨b, off, rfl, h3⟩⟩
theorem all_of {ws : List Int} (h : ∀ i, i < ws.length → ws.getD i 0 < 1000000000000000000) : ws.all (fun d => decide (d < 1000000000000000000)) = true := by
  rw [List.all_eq_true]
  intro d hd
  obtain ⟨i, hi, e⟩ := List.getElem_of_mem hd
  have := h i hi
  rw [List.getD_eq_getElem?_getD, List.getElem?_eq_getElem hi] at this
  subst e
  simpa using this
theorem all_not {ws : List Int} {i : Nat} (hi : i < ws.length) (h : ¬ ws.getD i 0 < 1000000000000000000) : ws.all (fun d => decide (d < 1000000000000000000)) = false := by
  rw [List.all_eq_false]
  refine ⟨ws[i], List.getElem_mem hi, ?_⟩
  rw [List.getD_eq_getElem?_getD, List.getElem?_eq_getElem hi] at h
  simpa using h
theorem goodB_nil (neg : Bool) : goodB neg [] = !neg := rfl
theorem goodB_long {neg : Bool} {ws : List Int} (h : 30 < ws.length) : goodB neg ws = false := by
  unfold goodB; rw [if_neg (by omega), decide_eq_false (by omega)]; rfl
theorem goodB_last {neg : Bool} {ws : List Int} (hl : 0 < ws.length) (h : ws.getD (ws.length - 1) 0 = 0) : goodB neg ws = false := by
  unfold goodB; rw [if_neg (by omega), h]; simp
theorem goodB_not {neg : Bool} {ws : List Int} {i : Nat} (hi : i < ws.length) (h : ¬ ws.getD i 0 < 1000000000000000000) : goodB neg ws = false := by
  unfold goodB; rw [if_neg (by omega), all_not hi h]; simp
theorem goodB_yes {neg : Bool} {ws : List Int} (hl : 0 < ws.length) (h1 : ws.length ≤ 30) (h2 : ¬ ws.getD (ws.length - 1) 0 = 0) (h : ∀ i, i < ws.length → ws.getD i 0 < 1000000000000000000) : goodB neg ws = true := by
  unfold goodB; rw [if_neg (by omega), all_of h, decide_eq_true h1]; simpa using h2
def BoolPost (W : World) (b : Bool) (e : Ending) (w' : World) : Prop := e = .returned (.bool b) ∧ Below W.heap.size W w'
theorem BoolPost.mk {W w' : World} {b c : Bool} (h : c = b) (hb : Below W.heap.size W w') : BoolPost W b (.returned (.bool c)) w' := ⟨by rw [h], hb⟩
set_option maxRecDepth 100000 in
set_option maxHeartbeats 1000000 in
theorem good_any (neg : Bool) (u : Value) (ws : List Int) (w : World) (hr : Rd w u ws) (hf : Fit ws) :
    Calls Tryz.prog 21 #[.agg #[.bool neg, u]] w (BoolPost w (goodB neg ws)) := by
  obtain ⟨p, c, rfl, hc, hm, hp⟩ := rd_form hr
  have hbx : Below w.heap.size w (w.alloc (.cells #[.bool neg, .slice p ws.length c] 25)) := (Below.refl _ _).alloc (Nat.le_refl _) _
  have HB := Lib.hid hbx
  clear hbx
  by_cases h0 : ws.length = 0
  · have e0 : ws = [] := List.length_eq_zero_iff.1 h0
    have HG := Lib.hid (show (!neg) = goodB neg ws by rw [e0]; rfl)
    clear e0
    rw [h0] at HB ⊢
    clear hp hc hm hr h0
    go_enter Tryz.func21, Tryz.ntmps21
    go_wp2
    go_ret
    exact BoolPost.mk HG.out HB.out
  · obtain ⟨b, off, rfl, hcell⟩ := hp (by omega)
    have hl0 : (ws.length : Int) ≠ 0 := by omega
    have hl1 : ((ws.length : Int) == 0) = false := by simpa using hl0
    have hl : 1 ≤ ws.length := by omega
    clear h0 hp hl0
    by_cases h30 : ws.length ≤ 30
    · have hlast := hcell (ws.length - 1) (by omega)
      have h30b : decide ((30 : Int) < (ws.length : Int)) = false := by rw [decide_eq_false_iff_not]; omega
      have hlast' := alloc_cell hlast (.cells #[.bool neg, .slice (some ⟨b, off, none⟩) ws.length c] 25)
      by_cases hz : ws.getD (ws.length - 1) 0 = 0
      · have HG := Lib.hid (goodB_last (neg := neg) (by omega) hz)
        rw [hz] at hlast'
        clear hz hlast
        go_enter Tryz.func21, Tryz.ntmps21
        go_wp2
        go_ret
        exact BoolPost.mk HG.out.symm HB.out
      · have HZ := Lib.hid hz
        have hz2 : (ws.getD (ws.length - 1) 0 == 0) = false := by simpa using hz
        clear hz hlast
        generalize hq : ws.getD (ws.length - 1) 0 = q at hlast' hz2
        clear hq
        have hcl := fun i hi => alloc_cell (hcell i hi) (.cells #[.bool neg, .slice (some ⟨b, off, none⟩) ws.length c] 25)
        have HC := Lib.hid hcl
        clear hcell hcl
        go_enter Tryz.func21, Tryz.ntmps21
        go_wp2
        clear hlast' hz2
        go_loop [25] (fun i => ∃ k : Nat, i = .int .i64 k ∧ k ≤ ws.length ∧ ∀ j, j < k → ws.getD j 0 < 1000000000000000000) (fun i => ws.length - (intOf i).toNat)
        case atStart => exact ⟨0, by go_num, by omega, fun j hj => by omega⟩
        case round =>
          obtain ⟨k, rfl, hk, hall⟩ := hrel
          have HA := Lib.hid hall
          clear hall
          by_cases hlt : k < ws.length
          · have hcx := HC.out k hlt
            by_cases hbig : ws.getD k 0 < 1000000000000000000
            · have HL := Lib.hid hbig
              generalize ws.getD k 0 = x at hcx hbig
              go_wp2
              go_round
              case rel => exact ⟨k + 1, by go_num, by omega, fun j hj => by
                by_cases e : j = k
                · subst e; exact HL.out
                · exact HA.out j (by omega)⟩
              case measure => simp [intOf]; omega
            · have HG := Lib.hid (goodB_not (neg := neg) hlt hbig)
              generalize ws.getD k 0 = x at hcx hbig
              go_wp2
              go_ret
              exact BoolPost.mk HG.out.symm HB.out
          · have HG := Lib.hid (goodB_yes (neg := neg) (by omega) h30 HZ.out (fun i hi => HA.out i (by omega)))
            go_wp2
            go_ret
            exact BoolPost.mk HG.out.symm HB.out
    · have HG := Lib.hid (goodB_long (neg := neg) (show 30 < ws.length by omega))
      go_enter Tryz.func21, Tryz.ntmps21
      go_wp2
      go_ret
      exact BoolPost.mk HG.out.symm HB.out
end Go.Proofs.YthcijdlkaoppnaaGreatDoor
