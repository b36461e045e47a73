/- Layer 4: the document's Alike: tokens that are alike but for their lines. -/
import Derived.Test.YtcjomeghcihecaaDoorPLxK
import Derived.Deep.QuietTactic
import Derived.BigQuiet
import Derived.WalkSmall
namespace Go.Proofs.YtcjomeghcihecaaDoor
open Go Go.ChangeShapes Go.WideShapes Go.ChangeAt Go.RowKit Go.PlainAid Go.Maps
set_option linter.unusedVariables false
set_option linter.unusedSimpArgs false
theorem alike_at {ts us : List Tk} (he : us.map stT = ts.map stT) (k : Nat) (hk : k < ts.length) : (us.getD k tkZ).kind = (ts.getD k tkZ).kind ∧ (us.getD k tkZ).text = (ts.getD k tkZ).text := by
  have hl : us.length = ts.length := by have := congrArg List.length he; simpa using this
  have h := congrArg (fun l => l[k]?) he
  simp only [List.getElem?_map, List.getElem?_eq_getElem hk, List.getElem?_eq_getElem (show k < us.length by omega), Option.map_some, Option.some.injEq, stT, Prod.mk.injEq] at h
  rw [List.getD_eq_getElem?_getD, List.getD_eq_getElem?_getD, List.getElem?_eq_getElem hk, List.getElem?_eq_getElem (show k < us.length by omega)]
  exact h
set_option maxRecDepth 100000 in
set_option maxHeartbeats 2000000 in
theorem alike_any (u u' : Value) (ts us : List Tk) (w : World) (h1 : Rt w u ts) (h2 : Rt w u' us) (he : us.map stT = ts.map stT) (hle : ts.length ≤ 9223372036854775807) :
    Calls Tryd.prog 16 #[u, u'] w fun e w' => e = .returned (.bool true) ∧ Below w.heap.size w w' := by
  have hl : us.length = ts.length := by have := congrArg List.length he; simpa using this
  obtain ⟨p, c, rfl, hc, hp⟩ := rt_form h1
  obtain ⟨p', c', rfl, hc', hp'⟩ := rt_form h2
  rw [hl] at hc' hp' ⊢
  have HE := Lib.hid he
  have HP := Lib.hid hp
  have HP' := Lib.hid hp'
  clear hp hp' h1 h2 he hl
  go_enter Tryd.func16, Tryd.ntmps16
  go_wp2_with fail
  go_loopw [5] (fun s wr => ∃ k q : Nat, s = .int .i64 k ∧ k ≤ ts.length ∧ wr = w.drewN q) (fun s _ => ts.length - (intOf s).toNat)
  case atStart => exact ⟨0, 0, by go_num, Nat.zero_le _, rfl⟩
  case round =>
    obtain ⟨k, q, rfl, hk, rfl⟩ := hrel
    by_cases hlt : k < ts.length
    · obtain ⟨b, off, rfl, e1⟩ := HP.out (by omega)
      obtain ⟨b', off', rfl, e2⟩ := HP'.out (by omega)
      obtain ⟨a0, a1, a2⟩ := e1 k hlt
      obtain ⟨b0, b1, b2⟩ := e2 k hlt
      obtain ⟨x1, x2⟩ := alike_at HE.out k hlt
      rw [x1] at b0
      rw [x2] at b2
      obtain ⟨kd, hkd⟩ : ∃ x, (ts.getD k tkZ).kind = x := ⟨_, rfl⟩
      obtain ⟨S, hS⟩ : ∃ x, bsOf (ts.getD k tkZ).text = x := ⟨_, rfl⟩
      rw [hkd] at a0 b0
      rw [hS] at a2 b2
      clear hkd hS x1 x2 e1 e2 a1 b1
      have hlz : (k : Int) < (ts.length : Int) := by omega
      have w1 : IntKind.i64.wrap ((k : Int) + 1) = (k : Int) + 1 := i64_in (by omega) (by omega)
      go_wp2_with fail
      go_quiet (fail)
      go_wp2_with fail
      go_roundw
      case rel => exact ⟨k + 1, _, by go_num, by omega, rfl⟩
      case measure => simp [intOf]; omega
    · have hlz : ¬ (k : Int) < (ts.length : Int) := by omega
      go_wp2_with fail
      go_ret
      exact ⟨rfl, below_drewN _ _⟩
end Go.Proofs.YtcjomeghcihecaaDoor
