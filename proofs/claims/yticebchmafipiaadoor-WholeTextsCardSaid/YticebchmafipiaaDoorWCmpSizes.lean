/- Layer 2: whole.cmpSizes: the sizes of two rows of limbs without noughts at their end, compared. -/
import Derived.Test.YticebchmafipiaaDoorWGood
import Derived.Test.YticebchmafipiaaDoorDig
namespace Go.Proofs.YticebchmafipiaaDoor
open Go.ChangeShapes Go.WideShapes Go.ChangeAt Go.RowKit
set_option linter.unusedVariables false
set_option linter.unusedSimpArgs false
abbrev B18 : Int := 1000000000000000000
def CmpPost (W : World) (c : Int) (e : Ending) (w' : World) : Prop := e = .returned (.int .i64 c) ∧ Below W.heap.size W w'
theorem CmpPost.mk {W w' : World} {b c : Int} (h : c = b) (hb : Below W.heap.size W w') : CmpPost W b (.returned (.int .i64 c)) w' := ⟨by rw [h], hb⟩
set_option maxRecDepth 100000 in
set_option maxHeartbeats 1000000 in
theorem cmpSizes_any (u1 u2 : Value) (xs ys : List Int) (w : World) (h1 : Rd w u1 xs) (h2 : Rd w u2 ys) (hx : Canon B18 xs) (hy : Canon B18 ys) :
    Calls Tryd.prog 37 #[u1, u2] w (CmpPost w (cmpI (val B18 xs) (val B18 ys))) := by
  obtain ⟨p1, c1, rfl, hc1, hm1, hp1⟩ := rd_form h1
  obtain ⟨p2, c2, rfl, hc2, hm2, hp2⟩ := rd_form h2
  have HX := Lib.hid hx
  have HY := Lib.hid hy
  clear h1 h2 hc1 hc2 hx hy
  by_cases hl : xs.length = ys.length
  · have HL := Lib.hid hl
    rw [← hl] at hp2 hm2 ⊢
    have HP1 := Lib.hid hp1
    have HP2 := Lib.hid hp2
    clear hp1 hp2 hl hm2
    go_enter Tryd.func37, Tryd.ntmps37
    go_wp2
    go_loopw [20] (fun s wr => ∃ k q : Nat, s = .int .i64 k ∧ k ≤ xs.length ∧ wr = w.drewN q ∧ ∀ j, xs.length - k ≤ j → xs.getD j 0 = ys.getD j 0) (fun s _ => xs.length - (intOf s).toNat)
    case atStart => exact ⟨0, 0, by go_num, Nat.zero_le _, rfl, fun j hj => by rw [getD_len (by omega), getD_len (by have := HL.out; omega)]⟩
    case round =>
      obtain ⟨k, q, rfl, hk, rfl, hall⟩ := hrel
      have HA := Lib.hid hall
      clear hall
      by_cases hlt : k < xs.length
      · obtain ⟨b1, o1, rfl, hx⟩ := HP1.out (by omega)
        obtain ⟨b2, o2, rfl, hy⟩ := HP2.out (by omega)
        obtain ⟨d, hd⟩ : ∃ d, xs.length = d + 1 + k := ⟨xs.length - 1 - k, by omega⟩
        have HD := Lib.hid hd
        have e1 := hx d (by omega)
        have e2 := hy d (by omega)
        have hlz : (k : Int) < (xs.length : Int) := by omega
        have hdz : (xs.length : Int) - 1 - (k : Int) = (d : Int) := by omega
        have hdl : (d : Int) < (xs.length : Int) := by omega
        clear hx hy hd
        rcases Int.lt_trichotomy (xs.getD d 0) (ys.getD d 0) with h | h | h
        · have HG := Lib.hid (cmpI_lt (cmp_lt (b := B18) (by decide) HX.out.1 HY.out.1 HL.out d (by have := HD.out; omega) (fun j hj => HA.out j (by have := HD.out; omega)) h))
          generalize xs.getD d 0 = x at e1 h
          generalize ys.getD d 0 = y at e2 h
          go_wp2
          go_quiet (fail)
          go_wp2
          go_ret
          exact CmpPost.mk HG.out.symm (below_drewN (Below.refl _ _) _)
        · have HE := Lib.hid h
          rw [h] at e1
          generalize ys.getD d 0 = y at e1 e2
          clear h
          go_wp2
          go_quiet (fail)
          go_wp2
          go_roundw
          case rel => exact ⟨k + 1, _, by go_num, by omega, rfl, fun j hj => by
            by_cases e : j = d
            · subst e; exact HE.out
            · exact HA.out j (by have := HD.out; omega)⟩
          case measure => simp [intOf]; omega
        · have HG := Lib.hid (cmpI_gt (cmp_lt (b := B18) (by decide) HY.out.1 HX.out.1 HL.out.symm d (by have := HD.out; have := HL.out; omega) (fun j hj => (HA.out j (by have := HD.out; omega)).symm) h))
          have h' : ¬ xs.getD d 0 < ys.getD d 0 := by omega
          generalize xs.getD d 0 = x at e1 h h'
          generalize ys.getD d 0 = y at e2 h h'
          go_wp2
          go_quiet (fail)
          go_wp2
          go_ret
          exact CmpPost.mk HG.out.symm (below_drewN (Below.refl _ _) _)
      · have HG := Lib.hid (cmpI_eq (congrArg (val B18) (list_ext_all (xs := xs) (ys := ys) HL.out (fun i => HA.out i (by omega)))))
        go_wp2
        go_ret
        exact CmpPost.mk HG.out.symm (below_drewN (Below.refl _ _) _)
  · by_cases hlt : xs.length < ys.length
    · have HG := Lib.hid (cmpI_lt (len_lt (b := B18) (by decide) HX.out HY.out hlt))
      have hltz : (xs.length : Int) < (ys.length : Int) := by omega
      have hne : ((xs.length : Int) != (ys.length : Int)) = true := by simp; omega
      have hne2 : ¬ (xs.length : Int) = (ys.length : Int) := by omega
      clear hl
      go_enter Tryd.func37, Tryd.ntmps37
      go_wp2
      go_ret
      exact CmpPost.mk HG.out.symm (Below.refl _ _)
    · have HG := Lib.hid (cmpI_gt (len_lt (b := B18) (by decide) HY.out HX.out (by omega)))
      have hltz : ¬ (xs.length : Int) < (ys.length : Int) := by omega
      have hne : ((xs.length : Int) != (ys.length : Int)) = true := by simp; omega
      have hne2 : ¬ (xs.length : Int) = (ys.length : Int) := by omega
      clear hl
      go_enter Tryd.func37, Tryd.ntmps37
      go_wp2
      go_ret
      exact CmpPost.mk HG.out.symm (Below.refl _ _)
end Go.Proofs.YticebchmafipiaaDoor
