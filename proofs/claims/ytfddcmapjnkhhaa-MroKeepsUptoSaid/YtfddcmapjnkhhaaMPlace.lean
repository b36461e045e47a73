/- Layer 19: the law's place and keeps. -/
import Derived.Test.YtfddcmapjnkhhaaMLawOrders
import Derived.Test.YtfddcmapjnkhhaaMPure3
namespace Go.Proofs.Ytfddcmapjnkhhaa
open Go.ChangeShapes Go.WideShapes Go.RowKit
set_option linter.unusedVariables false
set_option linter.unusedSimpArgs false
theorem ret_iM {a b : Int} (h : a = b) : Ending.returned (.int .i64 a) = .returned (.int .i64 b) := by rw [h]
set_option maxRecDepth 100000 in
set_option maxHeartbeats 1000000 in
theorem place_any (u : Value) (l : List Int) (n : Int) (w : World) (h : Ri w u l) :
    Calls Try.prog 12 #[u, .int .i64 n] w fun e w' => e = .returned (.int .i64 (placeI l n)) ∧ w = w' := by
  obtain ⟨p, c, rfl, hc, hm, hp⟩ := ri_form h
  have HP := Lib.hid hp
  clear hp h
  go_enter Try.func12, Try.ntmps12
  go_wp2
  go_loop [5] (fun s => ∃ i : Nat, s = .int .i64 i ∧ i ≤ l.length ∧ ∀ j, j < i → l.getD j 0 ≠ n) (fun s => l.length - (intOf s).toNat)
  case atStart => exact ⟨0, rfl, Nat.zero_le _, fun j h => by omega⟩
  case round =>
    obtain ⟨i, rfl, hil, hno⟩ := hrel
    have HN := Lib.hid hno
    clear hno
    by_cases hlt : i < l.length
    · obtain ⟨b, off, rfl, hcell⟩ := HP.out (by omega)
      have hci := hcell i hlt
      obtain ⟨x, hx⟩ : ∃ x, l.getD i 0 = x := ⟨_, rfl⟩
      rw [hx] at hci
      have HXE := Lib.hid hx
      have hlz : (i : Int) < (l.length : Int) := by omega
      clear hcell hx
      by_cases he : x = n
      · subst he
        have HY := Lib.hid (place_at hlt HXE.out HN.out)
        go_wp2
        go_ret
        exact ⟨ret_iM HY.out.symm, rfl⟩
      · have hne : (x == n) = false := by rw [beq_eq_false_iff_ne]; exact he
        have HNE := Lib.hid he
        clear he
        go_wp2
        go_round
        case rel => exact ⟨i + 1, by go_num, by omega, fun j h2 => by
          by_cases e : j = i
          · subst e; rw [HXE.out]; exact fun e => HNE.out e
          · exact HN.out j (by omega)⟩
        case measure => simp [intOf]; omega
    · have hlz : ¬ (i : Int) < (l.length : Int) := by omega
      have HY := Lib.hid (place_no (l := l) (x := n) fun j h1 => HN.out j (by omega))
      go_wp2
      go_ret
      exact ⟨ret_iM HY.out.symm, rfl⟩
set_option maxRecDepth 100000 in
set_option maxHeartbeats 1000000 in
theorem keeps_yes (u1 u2 : Value) (o l : List Int) (w : World) (h1 : Ri w u1 o) (h2 : Ri w u2 l) (hs : l.Sublist o) (hn : o.Nodup) :
    Calls Try.prog 13 #[u1, u2] w fun e w' => e = .returned (.bool true) ∧ w = w' := by
  obtain ⟨p, c, rfl, hc, hm, hp⟩ := ri_form h2
  have H1 := Lib.hid h1
  have HP := Lib.hid hp
  have HL := Lib.hid fun i (hi : i < l.length) => at_lt hs hn hi
  clear hp h1 h2 hs hn
  go_enter Try.func13, Try.ntmps13
  go_wp2
  go_loop [5, 6, 7] (fun a s _ => ∃ i : Nat, s = .int .i64 i ∧ i ≤ l.length ∧ a = .int .i64 (atI o l i)) (fun _ s _ => l.length - (intOf s).toNat)
  case atStart => exact ⟨0, rfl, Nat.zero_le _, rfl⟩
  case round =>
    obtain ⟨i, rfl, hil, rfl⟩ := hrel
    by_cases hlt : i < l.length
    · obtain ⟨b, off, rfl, hcell⟩ := HP.out (by omega)
      have hci := hcell i hlt
      have hat := HL.out i hlt
      have HN := Lib.hid (show atI o l (i + 1) = placeI o (l.getD i 0) from rfl)
      generalize l.getD i 0 = x at hci hat HN
      obtain ⟨y, hy⟩ : ∃ y, placeI o x = y := ⟨_, rfl⟩
      obtain ⟨z, hz⟩ : ∃ z, atI o l i = z := ⟨_, rfl⟩
      rw [hy] at hat HN
      rw [hz] at hat
      rw [hz]
      have HC := Lib.hid (place_any u1 o x w H1.out)
      rw [hy] at HC
      have hlz : (i : Int) < (l.length : Int) := by omega
      have hyz : ¬ y ≤ z := by omega
      clear hcell hy hz
      go_wp2_with (go_at_call 12; (with_reducible refine HC.out.mono ?_); rintro e w' ⟨rfl, rfl⟩)
      go_round
      case rel => exact ⟨i + 1, by go_num, by omega, by rw [HN.out]⟩
      case measure => simp [intOf]; omega
    · have hlz : ¬ (i : Int) < (l.length : Int) := by omega
      go_wp2
      go_ret
      exact ⟨rfl, rfl⟩
end Go.Proofs.Ytfddcmapjnkhhaa
