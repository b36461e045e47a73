/- Layer 10: the document's handler. -/
import Derived.Test.YtnniohimbmnapaaDoorFHand
import Derived.Test.YtnniohimbmnapaaDoorFRef
import Derived.Test.YtnniohimbmnapaaDoorFRef2
namespace Go.Proofs.YtnniohimbmnapaaDoor
open Go Go.ChangeShapes Go.WideShapes Go.RowKit
set_option linter.unusedVariables false
set_option linter.unusedSimpArgs false
set_option maxRecDepth 100000 in
set_option maxHeartbeats 2000000 in
theorem rhandler_any (r : RestV) (F : FuncD) (iv rv : Value) (x : Int) (w : World) (hU : Us w) (hI : Ii w iv F.ins) (hR : Rg w rv F.regions) :
    Calls Tryd.prog 18 #[funcV r F iv rv, .int .i64 x] w fun e w' => e = .returned (.int .i64 (handlerI F x)) ∧ Below w.heap.size w w' := by
  obtain ⟨p, c, rfl, hc, hm, hp⟩ := ii_form hI
  obtain ⟨p2, c2, rfl, hc2, hm2, hp2⟩ := rg_form hR
  have HU := Lib.hid hU
  have HP := Lib.hid hp
  have HP2 := Lib.hid hp2
  clear hU hI hR hp hp2
  cases hin : inB x F.ins.length with
  | false =>
    have HD := Lib.hid (show handlerI F x = -1 by unfold handlerI; rw [hin]; rfl)
    have hx : x < 0 ∨ (0 ≤ x ∧ (F.ins.length : Int) ≤ x) := by unfold inB at hin; simp at hin; omega
    clear hin
    rcases hx with hx | ⟨hx, hx2⟩
    · unfold funcV
      go_enter Tryd.func18, Tryd.ntmps18
      go_wp2_with fail
      go_ret
      exact ⟨by rw [HD.out]; rfl, by ((repeat' (first | with_reducible assumption | with_reducible exact Below.refl _ _ | with_reducible refine Below.drew ?_ | with_reducible refine Below.alloc ?_ (by first | omega | (simp; omega) | (simp; done) | fail) _ | with_reducible refine Below.setCell ?_ (by first | omega | (simp; omega) | (simp; done) | fail) _ | fail)); (first | done | fail))⟩
    have hx3 : ¬ x < 0 := by omega
    have hx4 : x ≥ (F.ins.length : Int) := by omega
    unfold funcV
    go_enter Tryd.func18, Tryd.ntmps18
    go_wp2_with fail
    go_ret
    exact ⟨by rw [HD.out]; rfl, by ((repeat' (first | with_reducible assumption | with_reducible exact Below.refl _ _ | with_reducible refine Below.drew ?_ | with_reducible refine Below.alloc ?_ (by first | omega | (simp; omega) | (simp; done) | fail) _ | with_reducible refine Below.setCell ?_ (by first | omega | (simp; omega) | (simp; done) | fail) _ | fail)); (first | done | fail))⟩
  | true =>
    have hx : 0 ≤ x ∧ x < (F.ins.length : Int) := by unfold inB at hin; simpa using hin
    obtain ⟨n, rfl⟩ := Int.eq_ofNat_of_zero_le hx.1
    have hn : n < F.ins.length := by omega
    have hnz : (n : Int) < (F.ins.length : Int) := by omega
    obtain ⟨b, off, rfl, hcell⟩ := HP.out (by omega)
    obtain ⟨lv, ⟨hop, _⟩⟩ := hcell n hn
    have HA := Lib.hid (show handlerI F n = if allocB (F.ins.getD n insZ).op then firstReg F.regions n else -1 by unfold handlerI; rw [hin, Int.toNat_natCast]; simp)
    obtain ⟨op, hoe⟩ : ∃ op, (F.ins.getD n insZ).op = op := ⟨_, rfl⟩
    rw [hoe] at hop HA
    have hops := alloc_cell hop (.cells #[.string r.name, .int .i64 F.params, .int .i64 F.regs, .int .i64 r.frees, .bool r.gen, .int .i64 r.bound, .slice r.np r.nn r.nc, .slice r.cp r.cn r.cc, .slice (some ⟨b, off, none⟩) F.ins.length c, .slice p2 F.regions.length c2] 27)
    have HAL := Lib.hid (rallocates_any op (w.alloc (.cells #[.string r.name, .int .i64 F.params, .int .i64 F.regs, .int .i64 r.frees, .bool r.gen, .int .i64 r.bound, .slice r.np r.nn r.nc, .slice r.cp r.cn r.cc, .slice (some ⟨b, off, none⟩) F.ins.length c, .slice p2 F.regions.length c2] 27)))
    have hnz0 : ¬ (n : Int) < 0 := by omega
    have hnz1 : ¬ (n : Int) ≥ (F.ins.length : Int) := by omega
    clear hx hin hop hcell hoe
    cases hal : allocB op with
    | false =>
      rw [hal] at HAL HA
      clear hal
      unfold funcV
      go_enter Tryd.func18, Tryd.ntmps18
      go_wp2_with (go_at_call 39; (with_reducible refine HAL.out.mono ?_); rintro e w9 ⟨rfl, hb9⟩; have HB9 := Lib.hid hb9; clear hb9)
      go_ret
      exact ⟨by rw [HA.out]; rfl, (by ((repeat' (first | with_reducible assumption | with_reducible exact Below.refl _ _ | with_reducible refine Below.drew ?_ | with_reducible refine Below.alloc ?_ (by first | omega | (simp; omega) | (simp; done) | fail) _ | with_reducible refine Below.setCell ?_ (by first | omega | (simp; omega) | (simp; done) | fail) _ | fail)); (first | done | fail)) : Below w.heap.size w _).trans (HB9.out.mono (by simp))⟩
    | true =>
      rw [hal] at HAL HA
      clear hal
      unfold funcV
      go_enter Tryd.func18, Tryd.ntmps18
      go_wp2_with (go_at_call 39; (with_reducible refine HAL.out.mono ?_); rintro e w9 ⟨rfl, hb9⟩; have HB9 := Lib.hid hb9; clear hb9)
      clear hops
      go_loopw [5] (fun s wx => ∃ k : Nat, s = .int .i64 k ∧ k ≤ F.regions.length ∧ (∀ j, j < k → regB n (F.regions.getD j regZ) = false) ∧ Below w.heap.size w wx ∧ Box10 wx w.heap.size r F (.slice (some ⟨b, off, none⟩) F.ins.length c) (.slice p2 F.regions.length c2)) (fun s _ => F.regions.length - (intOf s).toNat)
      case atStart => exact ⟨0, rfl, Nat.zero_le _, fun j h => by omega, (by ((repeat' (first | with_reducible assumption | with_reducible exact Below.refl _ _ | with_reducible refine Below.drew ?_ | with_reducible refine Below.alloc ?_ (by first | omega | (simp; omega) | (simp; done) | fail) _ | with_reducible refine Below.setCell ?_ (by first | omega | (simp; omega) | (simp; done) | fail) _ | fail)); (first | done | fail)) : Below w.heap.size w _).trans (HB9.out.mono (by simp)), (Box10.new w r F _ _ _).keep HB9.out (by simp)⟩
      case round =>
        obtain ⟨k, rfl, hk, hno, hb, hx⟩ := hrel
        have HN := Lib.hid hno
        have HB := Lib.hid hb
        have HX := Lib.hid hx
        have hsz := hb.size
        obtain ⟨q0, q1, q2, q3, q4, q5, q6, q7, q8, q9⟩ := hx
        clear hno hb q0 q1 q2 q3 q4 q5 q6 q7 q8
        by_cases hlt : k < F.regions.length
        · obtain ⟨b2, off2, rfl, hcell⟩ := HP2.out (by omega)
          obtain ⟨e0, e1, e2, e3⟩ := (hcell k hlt).keep HB.out
          obtain ⟨⟨lo, hi, to, d⟩, hrk⟩ : ∃ q, F.regions.getD k regZ = q := ⟨_, rfl⟩
          rw [hrk] at e0 e1 e2 e3
          have HRK := Lib.hid hrk
          have hlz : (k : Int) < (F.regions.length : Int) := by omega
          clear hcell hrk
          by_cases hq : lo ≤ (n : Int)
          · by_cases hq2 : (n : Int) < hi
            · have HY := Lib.hid (firstReg_at hlt (show regB n (F.regions.getD k regZ) = true by rw [HRK.out]; simp [regB, hq, hq2]) HN.out)
              go_wp2_with fail
              go_ret
              exact ⟨ret_iF (by rw [HA.out, if_pos trivial, HY.out]), by have hb := HB.out; ((repeat' (first | with_reducible assumption | with_reducible exact Below.refl _ _ | with_reducible refine Below.drew ?_ | with_reducible refine Below.alloc ?_ (by first | omega | (simp; omega) | (simp; done) | fail) _ | with_reducible refine Below.setCell ?_ (by first | omega | (simp; omega) | (simp; done) | fail) _ | fail)); (first | done | fail))⟩
            · have HNO := Lib.hid (show regB n (F.regions.getD k regZ) = false by rw [HRK.out]; simp [regB, hq2])
              go_wp2_with fail
              go_roundw
              case rel => exact ⟨k + 1, by go_num, by omega, fun j h2 => by
                by_cases e : j = k
                · subst e; exact HNO.out
                · exact HN.out j (by omega), by have hb := HB.out; ((repeat' (first | with_reducible assumption | with_reducible exact Below.refl _ _ | with_reducible refine Below.drew ?_ | with_reducible refine Below.alloc ?_ (by first | omega | (simp; omega) | (simp; done) | fail) _ | with_reducible refine Below.setCell ?_ (by first | omega | (simp; omega) | (simp; done) | fail) _ | fail)); (first | done | fail)), HX.out⟩
              case measure => simp [intOf]; omega
          · have HNO := Lib.hid (show regB n (F.regions.getD k regZ) = false by rw [HRK.out]; simp [regB, hq])
            go_wp2_with fail
            go_roundw
            case rel => exact ⟨k + 1, by go_num, by omega, fun j h2 => by
              by_cases e : j = k
              · subst e; exact HNO.out
              · exact HN.out j (by omega), by have hb := HB.out; ((repeat' (first | with_reducible assumption | with_reducible exact Below.refl _ _ | with_reducible refine Below.drew ?_ | with_reducible refine Below.alloc ?_ (by first | omega | (simp; omega) | (simp; done) | fail) _ | with_reducible refine Below.setCell ?_ (by first | omega | (simp; omega) | (simp; done) | fail) _ | fail)); (first | done | fail)), HX.out⟩
            case measure => simp [intOf]; omega
        · have hlz : ¬ (k : Int) < (F.regions.length : Int) := by omega
          have HY := Lib.hid (firstReg_no (rs := F.regions) (x := n) fun j h1 => HN.out j (by omega))
          go_wp2_with fail
          go_ret
          exact ⟨ret_iF (by rw [HA.out, if_pos trivial, HY.out]), HB.out⟩
end Go.Proofs.YtnniohimbmnapaaDoor
