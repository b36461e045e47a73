/- Layer 2, the document's answer: screeref02.sizes and cut, over rows of decimal digits. -/
import Derived.Test.YtapeomcnjjfihaaDoorWCmpSizes
import Derived.Test.YtapeomcnjjfihaaDoorOwn
namespace Go.Proofs.YtapeomcnjjfihaaDoor
open Go.ChangeShapes Go.WideShapes Go.ChangeAt Go.RowKit
set_option linter.unusedVariables false
set_option linter.unusedSimpArgs false
def CutPost (W : World) (p : Option Addr) (c : Nat) (ds : List Int) (e : Ending) (w' : World) : Prop := ∃ k, CutAt ds k ∧ e = .returned (.slice p k c) ∧ W = w'
set_option maxRecDepth 100000 in
set_option maxHeartbeats 1000000 in
theorem cut_any (p : Option Addr) (c : Nat) (ds : List Int) (w : World) (hr : Rb w (.slice p ds.length c) ds) :
    Calls Tryd.prog 50 #[.slice p ds.length c] w (CutPost w p c ds) := by
  obtain ⟨p', c', e0, hc, hm, hp⟩ := rb_form hr
  simp only [Value.slice.injEq, true_and] at e0
  obtain ⟨rfl, rfl⟩ := e0
  have HP := Lib.hid hp
  clear hp hr
  go_enter Tryd.func50, Tryd.ntmps50
  go_wp2
  go_loop [3] (fun s => ∃ k : Nat, s = .int .i64 k ∧ k ≤ ds.length ∧ ∀ j, k ≤ j → ds.getD j 0 = 0) (fun s => (intOf s).toNat)
  case atStart => exact ⟨ds.length, by go_num, Nat.le_refl _, fun j hj => getD_len hj⟩
  case round =>
    obtain ⟨k, rfl, hk, hall⟩ := hrel
    have HA := Lib.hid hall
    clear hall
    by_cases hk0 : k = 0
    · subst hk0
      have HK := Lib.hid (show CutAt ds 0 from ⟨hk, HA.out, fun h => absurd h (by omega)⟩)
      go_wp2
      go_ret
      exact ⟨0, HK.out, rfl, rfl⟩
    · obtain ⟨b, off, rfl, hx⟩ := HP.out (by omega)
      have e1 := hx (k - 1) (by omega)
      clear hx
      have hk1 : 1 ≤ k := by omega
      by_cases hz : ds.getD (k - 1) 0 = 0
      · have HZ := Lib.hid hz
        rw [hz] at e1
        clear hz hk0
        go_wp2
        go_round
        case rel => exact ⟨k - 1, by go_num, by omega, fun j hj => by
          by_cases e : j = k - 1
          · subst e; exact HZ.out
          · exact HA.out j (by omega)⟩
        case measure => simp [intOf]; omega
      · have HK := Lib.hid (show CutAt ds k from ⟨hk, HA.out, fun _ => hz⟩)
        have hz2 : (ds.getD (k - 1) 0 == 0) = false := by simpa using hz
        generalize ds.getD (k - 1) 0 = x at e1 hz2
        clear hz hk0
        go_wp2
        go_ret
        exact ⟨k, HK.out, rfl, rfl⟩
set_option maxRecDepth 100000 in
set_option maxHeartbeats 1000000 in
theorem sizes_any (u1 u2 : Value) (xs ys : List Int) (w : World) (h1 : Rb w u1 xs) (h2 : Rb w u2 ys) (hx : Canon 10 xs) (hy : Canon 10 ys) :
    Calls Tryd.prog 63 #[u1, u2] w (CmpPost w (cmpI (val 10 xs) (val 10 ys))) := by
  obtain ⟨p1, c1, rfl, hc1, hm1, hp1⟩ := rb_form h1
  obtain ⟨p2, c2, rfl, hc2, hm2, hp2⟩ := rb_form h2
  have HX := Lib.hid hx
  have HY := Lib.hid hy
  clear h1 h2 hc1 hc2 hx hy
  by_cases hl : xs.length = ys.length
  · have HL := Lib.hid hl
    rw [← hl] at hp2 hm2 ⊢
    have HP1 := Lib.hid hp1
    have HP2 := Lib.hid hp2
    clear hp1 hp2 hl hm2
    go_enter Tryd.func63, Tryd.ntmps63
    go_wp2
    go_loopw [5] (fun s wr => ∃ k q : Nat, s = .int .i64 ((k : Int) - 1) ∧ k ≤ xs.length ∧ wr = w.drewN q ∧ ∀ j, k ≤ j → xs.getD j 0 = ys.getD j 0) (fun s _ => ((intOf s) + 1).toNat)
    case atStart => exact ⟨xs.length, 0, rfl, Nat.le_refl _, rfl, fun j hj => by rw [getD_len (by omega), getD_len (by have := HL.out; omega)]⟩
    case round =>
      obtain ⟨k, q, rfl, hk, rfl, hall⟩ := hrel
      have HA := Lib.hid hall
      clear hall
      by_cases hlt : 0 < k
      · obtain ⟨b1, o1, rfl, hx⟩ := HP1.out (by omega)
        obtain ⟨b2, o2, rfl, hy⟩ := HP2.out (by omega)
        obtain ⟨d, rfl⟩ : ∃ d, k = d + 1 := ⟨k - 1, by omega⟩
        have e1 := hx d (by omega)
        have e2 := hy d (by omega)
        have hd1 : ((d + 1 : Nat) : Int) - 1 = (d : Int) := by omega
        have hdl : (d : Int) < (xs.length : Int) := by omega
        rw [hd1]
        clear hx hy hd1
        rcases Int.lt_trichotomy (xs.getD d 0) (ys.getD d 0) with h | h | h
        · have HG := Lib.hid (cmpI_lt (cmp_lt (b := 10) (by decide) HX.out.1 HY.out.1 HL.out d (by omega) (fun j hj => HA.out j (by omega)) h))
          generalize xs.getD d 0 = x at e1 h
          generalize ys.getD d 0 = y at e2 h
          go_wp2
          go_quiet (fail)
          go_wp2
          go_ret
          exact CmpPost.mk HG.out.symm (by repeat (first | exact Below.refl _ _ | refine below_drewN ?_ _))
        · have HE := Lib.hid h
          rw [h] at e1
          generalize ys.getD d 0 = y at e1 e2
          clear h
          go_wp2
          go_quiet (fail)
          go_wp2
          go_quiet (fail)
          go_wp2
          go_roundw
          case rel => exact ⟨d, _, rfl, by omega, rfl, fun j hj => by
            by_cases e : j = d
            · subst e; exact HE.out
            · exact HA.out j (by omega)⟩
          case measure => simp [intOf]
        · have HG := Lib.hid (cmpI_gt (cmp_lt (b := 10) (by decide) HY.out.1 HX.out.1 HL.out.symm d (by have := HL.out; omega) (fun j hj => (HA.out j (by omega)).symm) h))
          have h' : ¬ xs.getD d 0 < ys.getD d 0 := by omega
          generalize xs.getD d 0 = x at e1 h h'
          generalize ys.getD d 0 = y at e2 h h'
          go_wp2
          go_quiet (fail)
          go_wp2
          go_quiet (fail)
          go_wp2
          go_ret
          exact CmpPost.mk HG.out.symm (by repeat (first | exact Below.refl _ _ | refine below_drewN ?_ _))
      · obtain rfl : k = 0 := by omega
        have HG := Lib.hid (cmpI_eq (congrArg (val 10) (list_ext_all (xs := xs) (ys := ys) HL.out (fun i => HA.out i (by omega)))))
        go_wp2
        go_ret
        exact CmpPost.mk HG.out.symm (by repeat (first | exact Below.refl _ _ | refine below_drewN ?_ _))
  · by_cases hlt : xs.length < ys.length
    · have HG := Lib.hid (cmpI_lt (len_lt (b := 10) (by decide) HX.out HY.out hlt))
      have hltz : (xs.length : Int) < (ys.length : Int) := by omega
      clear hl
      go_enter Tryd.func63, Tryd.ntmps63
      go_wp2
      go_ret
      exact CmpPost.mk HG.out.symm (Below.refl _ _)
    · have HG := Lib.hid (cmpI_gt (len_lt (b := 10) (by decide) HY.out HX.out (by omega)))
      have hltz : ¬ (xs.length : Int) < (ys.length : Int) := by omega
      have hgtz : (ys.length : Int) < (xs.length : Int) := by omega
      clear hl
      go_enter Tryd.func63, Tryd.ntmps63
      go_wp2
      go_ret
      exact CmpPost.mk HG.out.symm (Below.refl _ _)
end Go.Proofs.YtapeomcnjjfihaaDoor
