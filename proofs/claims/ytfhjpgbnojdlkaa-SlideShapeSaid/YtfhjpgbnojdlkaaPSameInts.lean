/- The contract of the document's comparison of two lists of numbers, where both read alike. -/
import Derived.Test.YtfhjpgbnojdlkaaPGCheck
namespace Go.Proofs.Ytfhjpgbnojdlkaa
open Go.ChangeShapes Go.WideShapes Go.ChangeAt Go.RowKit
set_option linter.unusedVariables false
set_option linter.unusedSimpArgs false
def Ri (w : World) (v : Value) (l : List Nat) : Prop :=
  (v = .slice none 0 0 ∧ l = []) ∨ ∃ g cap, v = .slice (some ⟨g, 0, none⟩) l.length cap ∧ l.length ≤ 9223372036854775807 ∧ ∀ i x, l[i]? = some x → w.cell? ⟨g, i, none⟩ = some (.int .i64 (x : Nat))
theorem Ri.keep {w w' : World} {v : Value} {l : List Nat} (h : Ri w v l) (hb : Below w.heap.size w w') : Ri w' v l := by
  rcases h with h | ⟨g, cap, rfl, h1, h2⟩
  · exact .inl h
  · exact .inr ⟨g, cap, rfl, h1, fun i x hx => below_cell hb (h2 i x hx)⟩
set_option maxRecDepth 100000 in
set_option maxHeartbeats 1000000 in
theorem sameints (v1 v2 : Value) (l : List Nat) (w : World) (h1 : Ri w v1 l) (h2 : Ri w v2 l) :
    Calls Try.prog 14 #[v1, v2] w fun e w' => e = .returned (.bool true) ∧ ∃ q, w' = w.drewN q := by
  have hp : ∃ p1 c1 p2 c2, v1 = .slice p1 l.length c1 ∧ v2 = .slice p2 l.length c2 ∧ l.length ≤ 9223372036854775807 ∧ ∀ i x, l[i]? = some x → ∃ g1 g2, p1 = some ⟨g1, 0, none⟩ ∧ p2 = some ⟨g2, 0, none⟩ ∧ w.cell? ⟨g1, i, none⟩ = some (.int .i64 (x : Nat)) ∧ w.cell? ⟨g2, i, none⟩ = some (.int .i64 (x : Nat)) := by
    rcases h1 with ⟨rfl, rfl⟩ | ⟨g1, c1, rfl, e1, f1⟩
    · rcases h2 with ⟨rfl, _⟩ | ⟨g2, c2, rfl, e2, f2⟩
      · exact ⟨none, 0, none, 0, rfl, rfl, by simp, fun i x hx => by simp at hx⟩
      · exact ⟨none, 0, _, c2, rfl, rfl, by simp, fun i x hx => by simp at hx⟩
    · rcases h2 with ⟨rfl, rfl⟩ | ⟨g2, c2, rfl, e2, f2⟩
      · exact ⟨_, c1, none, 0, rfl, rfl, by simp, fun i x hx => by simp at hx⟩
      · exact ⟨_, c1, _, c2, rfl, rfl, e1, fun i x hx => ⟨g1, g2, rfl, rfl, f1 i x hx, f2 i x hx⟩⟩
  obtain ⟨p1, c1, p2, c2, rfl, rfl, hl, hp⟩ := hp
  clear h1 h2
  have HP := Lib.hid hp
  clear hp
  go_enter Try.func14, Try.ntmps14
  go_wp2_with fail
  go_loopw [5] (fun s wr => ∃ k q : Nat, s = .int .i64 k ∧ k ≤ l.length ∧ wr = w.drewN q) (fun s _ => l.length - (intOf s).toNat)
  case atStart => exact ⟨0, 0, by go_num, Nat.zero_le _, rfl⟩
  case round =>
    obtain ⟨k, q, rfl, hk, rfl⟩ := hrel
    by_cases hlt : k < l.length
    · obtain ⟨x, hx⟩ : ∃ x, l[k]? = some x := ⟨_, List.getElem?_eq_getElem hlt⟩
      obtain ⟨g1, g2, rfl, rfl, e1, e2⟩ := HP.out k x hx
      clear hx
      have hlz : (k : Int) < (l.length : Int) := by omega
      go_wp2_with fail
      go_quiet (fail)
      go_wp2_with fail
      go_roundw
      case rel => exact ⟨k + 1, _, by go_num, by omega, rfl⟩
      case measure => simp [intOf]; omega
    · go_wp2_with fail
      go_ret
      exact ⟨rfl, _, rfl⟩
end Go.Proofs.Ytfhjpgbnojdlkaa
