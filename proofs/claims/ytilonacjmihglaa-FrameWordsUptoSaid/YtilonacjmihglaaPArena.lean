/- Contracts of the functions of layer 13 (arena) and of the document's answer to it that only read a memory. -/
import Derived.Test.YtilonacjmihglaaRows
import Derived.Test.YtilonacjmihglaaPWordPure
import Derived.Test.YtilonacjmihglaaPWord
import Derived.Test.YtilonacjmihglaaPRd
import Derived.ProofKit
import Derived.OpenShut
import Derived.OwnWalk
import Derived.Outline
import Derived.Lib.Hide
import Derived.BigQuiet
import Derived.Deep.QuietTactic
import Derived.WalkSmall
namespace Go.Proofs.Ytilonacjmihglaa
open Go.ChangeShapes Go.WideShapes Go.ChangeAt Go.RowKit
set_option linter.unusedVariables false
set_option linter.unusedSimpArgs false

theorem quiet_same {P : Program} {f : FuncId} {args : Array Value} {w : World} {n : Nat} {v : Value}
    (h : Calls P f args (w.drewN n) fun e w' => e = .returned v ∧ w.drewN n = w') : Calls P f args (w.drewN n) fun e w'' => e = .returned v ∧ ∃ m, w'' = w.drewN m :=
  Calls.quiet_of_same (h.mono fun _ _ g => ⟨g.1, g.2.symm⟩)

theorem hkind (h : Int) (w0 : 0 ≤ h ∧ h ≤ 18446744073709551615) (w : World) :
    Calls Try.prog 60 #[.int .u64 h] w fun e w' => e = .returned (.int .i64 (hK h)) ∧ w = w' := by
  have h1 := and255 h w0.1 w0.2
  go_enter Try.func60, Try.ntmps60
  go_wp2
  go_ret
  exact ⟨ret_one (by simp [hK]), rfl⟩
theorem htag (h : Int) (w0 : 0 ≤ h ∧ h ≤ 18446744073709551615) (w : World) :
    Calls Try.prog 52 #[.int .u64 h] w fun e w' => e = .returned (.int .i64 (hT h)) ∧ w = w' := by
  have h1 := andF (h / 256) (by omega) (by omega)
  go_enter Try.func52, Try.ntmps52
  go_wp2
  go_ret
  exact ⟨ret_one (by simp [hT]), rfl⟩
theorem hsize (h : Int) (w0 : 0 ≤ h ∧ h ≤ 18446744073709551615) (w : World) :
    Calls Try.prog 61 #[.int .u64 h] w fun e w' => e = .returned (.int .i64 (hS h)) ∧ w = w' := by
  have h1 := andF (h / 4294967296) (by omega) (by omega)
  go_enter Try.func61, Try.ntmps61
  go_wp2
  go_ret
  exact ⟨ret_one (by simp [hS]), rfl⟩
/-- The words of a memory that are in use. -/
theorem viewof (v : Value) (ws : List Int) (top : Int) (w : World) (hr : Rd w v ws) (h1 : 0 ≤ top) (h2 : top ≤ ws.length) :
    Calls Try.prog 49 #[.agg #[v, .int .i64 top]] w fun e w' => ∃ u, e = .returned (.agg #[u]) ∧ Rd w u (ws.take top.toNat) ∧ Below w.heap.size w w' := by
  rcases hr with ⟨p0, rfl, rfl⟩ | ⟨b, off, c, rfl, hl, hc, hcell⟩
  · obtain rfl : top = 0 := by simp at h2; omega
    go_enter Try.func49, Try.ntmps49
    go_wp2
    refine bodyPost_ret (v := .agg #[.slice p0 0 0]) (by simp [results, Try.results49, go_sem]) rfl ⟨_, rfl, .inl ⟨p0, rfl, by simp⟩, ?_⟩
    exact ((Below.refl _ _).alloc (Nat.le_refl _) _).alloc (by simp) _
  · have hR : Hid (Rd w (.slice (some ⟨b, off, none⟩) ws.length c) ws) := .inr ⟨b, off, c, rfl, hl, hc, hcell⟩
    clear hcell
    go_enter Try.func49, Try.ntmps49
    go_wp2
    refine bodyPost_ret (v := .agg #[.slice (some ⟨b, off, none⟩) top.toNat c]) (by simp [results, Try.results49, go_sem]) rfl ⟨_, rfl, hR.out.take _ (by omega), ?_⟩
    exact ((Below.refl _ _).alloc (Nat.le_refl _) _).alloc (by simp) _
theorem viewof_out (v : Value) (ws : List Int) (top : Int) (w : World) (hr : Rd w v ws) (h1 : top < 0 ∨ (ws.length : Int) < top) :
    Calls Try.prog 49 #[.agg #[v, .int .i64 top]] w fun e w' => e = .returned (.agg #[.slice none 0 0]) ∧ Below w.heap.size w w' := by
  rcases hr with ⟨p0, rfl, rfl⟩ | ⟨b, off, c, rfl, hl, hc, hcell⟩
  · simp only [List.length_nil] at h1
    go_enter Try.func49, Try.ntmps49
    go_wp2
    all_goals refine bodyPost_ret (v := .agg #[.slice none 0 0]) (by simp [results, Try.results49, go_sem]) rfl ⟨rfl, ?_⟩
    all_goals exact ((Below.refl _ _).alloc (Nat.le_refl _) _).alloc (by simp) _
  · clear hcell
    go_enter Try.func49, Try.ntmps49
    go_wp2
    all_goals refine bodyPost_ret (v := .agg #[.slice none 0 0]) (by simp [results, Try.results49, go_sem]) rfl ⟨rfl, ?_⟩
    all_goals exact ((Below.refl _ _).alloc (Nat.le_refl _) _).alloc (by simp) _

theorem look_none (v : Value) (ws : List Int) (a : Int) (w : World) (hr : Rd w v ws) (h : a < 1 ∨ (ws.length : Int) - 1 ≤ a) :
    Calls Try.prog 50 #[.agg #[v], .int .i64 a] w fun e w' => e = .returned (.tuple #[.int .u64 0, .bool false]) ∧ Below w.heap.size w w' := by
  rcases hr with ⟨p0, rfl, rfl⟩ | ⟨b, off, c, rfl, hl, hc, hcell⟩
  · simp only [List.length_nil] at h
    go_enter Try.func50, Try.ntmps50
    go_wp2
    all_goals go_ret2
    all_goals exact ⟨rfl, (Below.refl _ _).alloc (Nat.le_refl _) _⟩
  · clear hcell
    go_enter Try.func50, Try.ntmps50
    go_wp2
    all_goals go_ret2
    all_goals exact ⟨rfl, (Below.refl _ _).alloc (Nat.le_refl _) _⟩

theorem look_some (v : Value) (ws : List Int) (a : Int) (w : World) (hr : Rd w v ws) (hf : Fit ws) (h1 : 1 ≤ a) (h2 : a < (ws.length : Int) - 1) :
    Calls Try.prog 50 #[.agg #[v], .int .i64 a] w fun e w' => e = .returned (.tuple #[.int .u64 (headAt ws a), .bool (there ws a)]) ∧ Below w.heap.size w w' := by
  have hx : headAt ws a = ws.getD a.toNat 0 := by unfold headAt; rw [if_pos ⟨h1, h2⟩]
  have ht : there ws a = (decide (0 < hK (headAt ws a)) && (decide (2 + hT (headAt ws a) ≤ hS (headAt ws a)) && decide (hS (headAt ws a) ≤ (ws.length : Int) - a))) := by
    unfold there; simp only [h1, h2, true_and, Bool.decide_and]
  have hw := hf.at a.toNat
  rw [ht, hx]
  clear ht hx
  rcases hr with ⟨p0, rfl, rfl⟩ | ⟨b, off, c, rfl, hl, hc, hcell⟩
  · simp at h2; omega
  · have hc0 := fun o => alloc_cell (hcell a.toNat (by omega)) o
    clear hcell
    generalize ws.getD a.toNat 0 = h at *
    have q1 := hK_lo h
    have q2 := hT_lo h
    have q3 := hS_lo h
    by_cases g1 : 0 < hK h
    · by_cases g2 : 2 + hT h ≤ hS h
      · have d1 : decide (0 < hK h) = true := by simpa using g1
        have d2 : decide (2 + hT h ≤ hS h) = true := by simpa using g2
        go_enter Try.func50, Try.ntmps50
        go_wp2_with fail
        go_quiet ((first | (go_at_call 60; exact quiet_same (hkind _ hw _)) | (go_at_call 52; exact quiet_same (htag _ hw _)) | (go_at_call 61; exact quiet_same (hsize _ hw _))))
        go_wp2
        go_ret2
        exact ⟨by simp [d1] <;> omega, below_drewN ((Below.refl _ _).alloc (Nat.le_refl _) _) _⟩
      · have d1 : decide (0 < hK h) = true := by simpa using g1
        have d2 : decide (2 + hT h ≤ hS h) = false := by simpa using g2
        go_enter Try.func50, Try.ntmps50
        go_wp2_with fail
        go_quiet ((first | (go_at_call 60; exact quiet_same (hkind _ hw _)) | (go_at_call 52; exact quiet_same (htag _ hw _)) | (go_at_call 61; exact quiet_same (hsize _ hw _))))
        go_wp2
        go_ret2
        exact ⟨by simp [d1] <;> omega, below_drewN ((Below.refl _ _).alloc (Nat.le_refl _) _) _⟩
    · have d1 : decide (0 < hK h) = false := by simpa using g1
      go_enter Try.func50, Try.ntmps50
      go_wp2_with fail
      go_quiet ((first | (go_at_call 60; exact quiet_same (hkind _ hw _)) | (go_at_call 52; exact quiet_same (htag _ hw _)) | (go_at_call 61; exact quiet_same (hsize _ hw _))))
      go_wp2
      go_ret2
      exact ⟨by simp [d1], below_drewN ((Below.refl _ _).alloc (Nat.le_refl _) _) _⟩

theorem there_out {ws : List Int} {a : Int} (h : a < 1 ∨ (ws.length : Int) - 1 ≤ a) : headAt ws a = 0 ∧ there ws a = false := by
  refine ⟨by unfold headAt; rw [if_neg (by omega)], ?_⟩
  unfold there; rw [decide_eq_false_iff_not]; intro g; omega
/-- What seems to lie at an address. -/
theorem look_any (v : Value) (ws : List Int) (a : Int) (w : World) (hr : Rd w v ws) (hf : Fit ws) :
    Calls Try.prog 50 #[.agg #[v], .int .i64 a] w fun e w' => e = .returned (.tuple #[.int .u64 (headAt ws a), .bool (there ws a)]) ∧ Below w.heap.size w w' := by
  by_cases h : a < 1 ∨ (ws.length : Int) - 1 ≤ a
  · have := there_out h
    rw [this.1, this.2]
    exact look_none v ws a w hr h
  · exact look_some v ws a w hr hf (by omega) (by omega)
end Go.Proofs.Ytilonacjmihglaa
