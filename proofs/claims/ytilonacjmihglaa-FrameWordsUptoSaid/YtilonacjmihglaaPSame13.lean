/- The contract of the document's Same, where both memories read alike. -/
import Derived.Test.YtilonacjmihglaaPGCheck
namespace Go.Proofs.Ytilonacjmihglaa
open Go.ChangeShapes Go.WideShapes Go.ChangeAt Go.RowKit
set_option linter.unusedVariables false
set_option linter.unusedSimpArgs false
set_option maxRecDepth 100000 in
set_option maxHeartbeats 1000000 in
theorem same13 (v1 v2 : Value) (ws : List Int) (top : Int) (w : World) (h1 : Rd w v1 ws) (h2 : Rd w v2 ws) :
    Calls Try.prog 15 #[.agg #[v1, .int .i64 top], .agg #[v2, .int .i64 top]] w fun e w' => e = .returned (.bool true) ∧ Below w.heap.size w w' := by
  have hp : ∃ p1 c1 p2 c2, v1 = .slice p1 ws.length c1 ∧ v2 = .slice p2 ws.length c2 ∧ ws.length ≤ 17592186043904 ∧ ∀ i x, ws[i]? = some x → ∃ b1 o1 b2 o2, p1 = some ⟨b1, o1, none⟩ ∧ p2 = some ⟨b2, o2, none⟩ ∧ w.cell? ⟨b1, o1 + i, none⟩ = some (.int .u64 x) ∧ w.cell? ⟨b2, o2 + i, none⟩ = some (.int .u64 x) := by
    have gx : ∀ (i : Nat) (x : Int), ws[i]? = some x → i < ws.length ∧ ws.getD i 0 = x := fun i x hx => by
      have hx' := hx
      rw [List.getElem?_eq_some_iff] at hx
      exact ⟨hx.1, by rw [List.getD_eq_getElem?_getD, hx']; rfl⟩
    rcases h1 with ⟨p, rfl, rfl⟩ | ⟨b1, o1, c1, rfl, e1, f1, k1⟩
    · rcases h2 with ⟨p', rfl, _⟩ | ⟨b2, o2, c2, rfl, e2, f2, k2⟩
      · exact ⟨p, 0, p', 0, rfl, rfl, by simp, fun i x hx => by simp at hx⟩
      · exact ⟨p, 0, _, c2, rfl, rfl, by simp, fun i x hx => by simp at hx⟩
    · rcases h2 with ⟨p', rfl, rfl⟩ | ⟨b2, o2, c2, rfl, e2, f2, k2⟩
      · exact ⟨_, c1, p', 0, rfl, rfl, by simp, fun i x hx => by simp at hx⟩
      · exact ⟨_, c1, _, c2, rfl, rfl, f1, fun i x hx => ⟨b1, o1, b2, o2, rfl, rfl, by rw [k1 i (gx i x hx).1, (gx i x hx).2], by rw [k2 i (gx i x hx).1, (gx i x hx).2]⟩⟩
  obtain ⟨p1, c1, p2, c2, rfl, rfl, hl, hp⟩ := hp
  clear h1 h2
  have HP := Lib.hid hp
  clear hp
  go_enter Try.func15, Try.ntmps15
  go_wp2_with fail
  generalize hw2 : World.alloc (World.alloc w _) _ = w2
  have hB : Below w.heap.size w w2 := by rw [← hw2]; exact ((Below.refl _ _).alloc (Nat.le_refl _) _).alloc (by simp) _
  have hb0 : w2.cell? ⟨w.heap.size, 0, none⟩ = some (.slice p1 ws.length c1) := by rw [← hw2]; exact alloc_cell (by simp) _
  have hb1 : w2.cell? ⟨w.heap.size, 1, none⟩ = some (.int .i64 top) := by rw [← hw2]; exact alloc_cell (by simp) _
  have hd0 : w2.cell? ⟨w.heap.size + 1, 0, none⟩ = some (.slice p2 ws.length c2) := by rw [← hw2]; simp
  have hd1 : w2.cell? ⟨w.heap.size + 1, 1, none⟩ = some (.int .i64 top) := by rw [← hw2]; simp
  clear hw2
  go_loopw [5] (fun s wr => ∃ k q : Nat, s = .int .i64 k ∧ k ≤ ws.length ∧ wr = w2.drewN q) (fun s _ => ws.length - (intOf s).toNat)
  case atStart => exact ⟨0, 0, by go_num, Nat.zero_le _, rfl⟩
  case round =>
    obtain ⟨k, q, rfl, hk, rfl⟩ := hrel
    by_cases hlt : k < ws.length
    · obtain ⟨x, hx⟩ : ∃ x, ws[k]? = some x := ⟨_, List.getElem?_eq_getElem hlt⟩
      obtain ⟨b1, o1, b2, o2, rfl, rfl, e1, e2⟩ := HP.out k x hx
      have e1' := below_cell hB e1
      have e2' := below_cell hB e2
      clear hx e1 e2
      have hlz : (k : Int) < (ws.length : Int) := by omega
      go_wp2_with fail
      go_quiet (fail)
      go_wp2_with fail
      go_roundw
      case rel => exact ⟨k + 1, _, by go_num, by omega, rfl⟩
      case measure => simp [intOf]; omega
    · go_wp2_with fail
      go_ret
      exact ⟨rfl, below_drewN hB _⟩
end Go.Proofs.Ytilonacjmihglaa
