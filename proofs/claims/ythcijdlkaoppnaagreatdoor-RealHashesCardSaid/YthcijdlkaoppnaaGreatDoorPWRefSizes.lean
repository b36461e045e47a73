/- Layer 2, the document's answer: screeref02.sizes and cut, over rows of decimal digits. -/
import Derived.Test.YthcijdlkaoppnaaGreatDoorPWCmpSizes
import Derived.Test.YthcijdlkaoppnaaGreatDoorPOwn
namespace Go.Proofs.YthcijdlkaoppnaaGreatDoor
open Go.ChangeShapes Go.WideShapes Go.ChangeAt Go.RowKit
set_option linter.unusedVariables false
set_option linter.unusedSimpArgs false
def CutPost (W : World) (p : Option Addr) (c : Nat) (ds : List Int) (e : Ending) (w' : World) : Prop := ∃ k, CutAt ds k ∧ e = .returned (.slice p k c) ∧ W = w'
set_option maxRecDepth 100000 in
set_option maxHeartbeats 1000000 in
theorem cut_any (p : Option Addr) (c : Nat) (ds : List Int) (w : World) (hr : Rb w (.slice p ds.length c) ds) :
    Calls Tryz.prog 37 #[.slice p ds.length c] w (CutPost w p c ds) := by
  obtain ⟨p', c', e0, hc, hm, hp⟩ := rb_form hr
  simp only [Value.slice.injEq, true_and] at e0
  obtain ⟨rfl, rfl⟩ := e0
  have HP := Lib.hid hp
  clear hp hr
  go_enter Tryz.func37, Tryz.ntmps37
  go_wp2
  go_loop [3] (fun s => ∃ k : Nat, s = .int .i64 k ∧ k ≤ ds.length ∧ ∀ j, k ≤ j → ds.getD j 0 = 0) (fun s => (intOf s).toNat)
  case atStart => exact ⟨ds.length, by go_num, Nat.le_refl _, fun j hj => getD_len hj⟩
  case round =>
    obtain ⟨k, rfl, hk, hall⟩ := hrel
    have HA := Lib.hid hall
    clear hall
    by_cases hk0 : k = 0
    · subst hk0
      have HK := Lib.hid (show CutAt ds 0 from ⟨hk, HA.out, fun h => absurd h (by omega)⟩)
      go_wp2
      go_ret
      exact ⟨0, HK.out, rfl, rfl⟩
    · obtain ⟨b, off, rfl, hx⟩ := HP.out (by omega)
      have e1 := hx (k - 1) (by omega)
      clear hx
      have hk1 : 1 ≤ k := by omega
      by_cases hz : ds.getD (k - 1) 0 = 0
      · have HZ := Lib.hid hz
        rw [hz] at e1
        clear hz hk0
        go_wp2
        go_round
        case rel => exact ⟨k - 1, by go_num, by omega, fun j hj => by
          by_cases e : j = k - 1
          · subst e; exact HZ.out
          · exact HA.out j (by omega)⟩
        case measure => simp [intOf]; omega
      · have HK := Lib.hid (show CutAt ds k from ⟨hk, HA.out, fun _ => hz⟩)
        have hz2 : (ds.getD (k - 1) 0 == 0) = false := by simpa using hz
        generalize ds.getD (k - 1) 0 = x at e1 hz2
        clear hz hk0
        go_wp2
        go_ret
        exact ⟨k, HK.out, rfl, rfl⟩
end Go.Proofs.YthcijdlkaoppnaaGreatDoor
