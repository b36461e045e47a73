/- The contract of the document's own look at an address. -/
import Derived.Test.YtilonacjmihglaaPGCheck
import Derived.BigRegion
namespace Go.Proofs.Ytilonacjmihglaa
open Go.ChangeShapes Go.WideShapes Go.ChangeAt Go.RowKit
set_option linter.unusedVariables false
set_option linter.unusedSimpArgs false

def obj (k t s : Int) : Value := .agg #[.int .i64 k, .int .i64 t, .int .i64 s]
def objAt (vs : List Int) (a : Int) : Value := obj (hK (headAt vs a)) (hT (headAt vs a)) (hS (headAt vs a))
set_option maxRecDepth 100000 in
set_option maxHeartbeats 1000000 in
theorem refat_none (v : Value) (ws : List Int) (top a : Int) (w : World) (hr : Rd w v ws) (ht : -9223372036854775808 ≤ top ∧ top ≤ 9223372036854775807) (h : a < 1 ∨ top < 3 ∨ (ws.length : Int) < top ∨ top - 2 < a) :
    Calls Try.prog 45 #[.agg #[v, .int .i64 top], .int .i64 a] w fun e w' => e = .returned (.tuple #[obj 0 0 0, .bool false]) ∧ Below w.heap.size w w' := by
  unfold obj
  have hl : ∃ p n c, v = .slice p n c ∧ n = ws.length := by
    rcases hr with ⟨p0, rfl, rfl⟩ | ⟨b, off, c, rfl, hl, hc, hcell⟩
    · exact ⟨p0, 0, 0, rfl, rfl⟩
    · exact ⟨_, _, _, rfl, rfl⟩
  obtain ⟨p, n, c, rfl, hn⟩ := hl
  rw [← hn] at h
  clear hn hr
  by_cases h1 : a < 1
  · go_enter Try.func45, Try.ntmps45
    go_wp2_with fail
    refine bodyPost_ret (v := .tuple #[.agg #[.int .i64 0, .int .i64 0, .int .i64 0], .bool false]) (by simp [results, Try.results45, go_sem]) rfl ⟨rfl, ?_⟩
    exact ((Below.refl _ _).alloc (Nat.le_refl _) _).alloc (by simp) _
  · by_cases h2 : top < 3
    · go_enter Try.func45, Try.ntmps45
      go_wp2_with fail
      refine bodyPost_ret (v := .tuple #[.agg #[.int .i64 0, .int .i64 0, .int .i64 0], .bool false]) (by simp [results, Try.results45, go_sem]) rfl ⟨rfl, ?_⟩
      exact ((Below.refl _ _).alloc (Nat.le_refl _) _).alloc (by simp) _
    · by_cases h3 : (n : Int) < top
      · go_enter Try.func45, Try.ntmps45
        go_wp2_with fail
        refine bodyPost_ret (v := .tuple #[.agg #[.int .i64 0, .int .i64 0, .int .i64 0], .bool false]) (by simp [results, Try.results45, go_sem]) rfl ⟨rfl, ?_⟩
        exact ((Below.refl _ _).alloc (Nat.le_refl _) _).alloc (by simp) _
      · have h4 : top - 2 < a := by omega
        go_enter Try.func45, Try.ntmps45
        go_wp2_with fail
        refine bodyPost_ret (v := .tuple #[.agg #[.int .i64 0, .int .i64 0, .int .i64 0], .bool false]) (by simp [results, Try.results45, go_sem]) rfl ⟨rfl, ?_⟩
        exact ((Below.refl _ _).alloc (Nat.le_refl _) _).alloc (by simp) _

set_option maxRecDepth 100000 in
set_option maxHeartbeats 1000000 in
theorem refat_some (v : Value) (ws : List Int) (top a : Int) (w : World) (hr : Rd w v ws) (hf : Fit ws) (ht : top ≤ ws.length) (h1 : 1 ≤ a) (h2 : a ≤ top - 2) :
    Calls Try.prog 45 #[.agg #[v, .int .i64 top], .int .i64 a] w fun e w' => e = .returned (.tuple #[objAt (ws.take top.toNat) a, .bool (there (ws.take top.toNat) a)]) ∧ Below w.heap.size w w' := by
  have hl : ((ws.take top.toNat).length : Int) = top := by rw [List.length_take]; omega
  have hx : headAt (ws.take top.toNat) a = ws.getD a.toNat 0 := by
    unfold headAt; rw [if_pos ⟨h1, by omega⟩, getD_take, if_pos (by omega)]
  have htt : there (ws.take top.toNat) a = (decide (0 < hK (headAt (ws.take top.toNat) a)) && (decide (hT (headAt (ws.take top.toNat) a) ≤ hS (headAt (ws.take top.toNat) a) - 2) && decide (hS (headAt (ws.take top.toNat) a) ≤ top - a))) := by
    unfold there; rw [hl, Bool.eq_iff_iff]; simp only [Bool.and_eq_true, decide_eq_true_eq]; omega
  rw [htt]
  unfold objAt obj
  rw [hx]
  clear htt hx hl
  have hw := hf.at a.toNat
  obtain ⟨b, off, c, rfl, hl, hc, hcell⟩ := hr.some (by omega)
  have hc0 := fun o o2 => alloc_cell (alloc_cell (hcell a.toNat (by omega)) o) o2
  clear hcell hr
  generalize ws.getD a.toNat 0 = h at *
  have e1 : hK h = h % 256 := rfl
  have e2 : hT h = h / 256 % 16777216 := rfl
  have e3 : hS h = h / 4294967296 % 16777216 := rfl
  have HE := Lib.hid (And.intro e1 (And.intro e2 e3))
  have q2 := hT_lo h
  have q3 := hS_lo h
  have q1 := hK_lo h
  rw [e1] at q1
  rw [e2] at q2
  rw [e3] at q3
  clear e1 e2 e3
  by_cases g1 : 0 < h % 256
  · by_cases g2 : h / 256 % 16777216 ≤ h / 4294967296 % 16777216 - 2
    · have d1 : decide (0 < h % 256) = true := by simpa using g1
      have d2 : decide (h / 256 % 16777216 ≤ h / 4294967296 % 16777216 - 2) = true := by simpa using g2
      go_enter Try.func45, Try.ntmps45
      go_wp2_with fail
      go_region
      go_wp2_with fail
      refine bodyPost_ret (v := .tuple #[.agg #[.int .i64 (h % 256), .int .i64 (h / 256 % 16777216), .int .i64 (h / 4294967296 % 16777216)], .bool (decide (h / 4294967296 % 16777216 ≤ top - a))]) (by simp [results, Try.results45, go_sem]) rfl ⟨?_, ?_⟩
      · rw [HE.out.1, HE.out.2.1, HE.out.2.2]; simp [d1, d2]
      · exact ((((Below.refl _ _).alloc (Nat.le_refl _) _).alloc (by simp) _).alloc (by simp; omega) _).drew
    · have d1 : decide (0 < h % 256) = true := by simpa using g1
      have d2 : decide (h / 256 % 16777216 ≤ h / 4294967296 % 16777216 - 2) = false := by simpa using g2
      go_enter Try.func45, Try.ntmps45
      go_wp2_with fail
      go_region
      go_wp2_with fail
      refine bodyPost_ret (v := .tuple #[.agg #[.int .i64 (h % 256), .int .i64 (h / 256 % 16777216), .int .i64 (h / 4294967296 % 16777216)], .bool false]) (by simp [results, Try.results45, go_sem]) rfl ⟨?_, ?_⟩
      · rw [HE.out.1, HE.out.2.1, HE.out.2.2]; simp [d1, d2]
      · exact ((((Below.refl _ _).alloc (Nat.le_refl _) _).alloc (by simp) _).alloc (by simp; omega) _).drew
  · have d1 : decide (0 < h % 256) = false := by simpa using g1
    go_enter Try.func45, Try.ntmps45
    go_wp2_with fail
    go_region
    go_wp2_with fail
    refine bodyPost_ret (v := .tuple #[.agg #[.int .i64 (h % 256), .int .i64 (h / 256 % 16777216), .int .i64 (h / 4294967296 % 16777216)], .bool false]) (by simp [results, Try.results45, go_sem]) rfl ⟨?_, ?_⟩
    · rw [HE.out.1, HE.out.2.1, HE.out.2.2]; simp [d1]
    · exact ((((Below.refl _ _).alloc (Nat.le_refl _) _).alloc (by simp) _).alloc (by simp; omega) _).drew

/-- What seems to lie at an address, by the document. -/
theorem refat_any (v : Value) (ws : List Int) (top a : Int) (w : World) (hr : Rd w v ws) (hf : Fit ws) (hlen : ws.length ≤ 140737488351232) (ht : 0 ≤ top ∧ top ≤ ws.length) :
    Calls Try.prog 45 #[.agg #[v, .int .i64 top], .int .i64 a] w fun e w' => e = .returned (.tuple #[objAt (ws.take top.toNat) a, .bool (there (ws.take top.toNat) a)]) ∧ Below w.heap.size w w' := by
  by_cases h : 1 ≤ a ∧ a ≤ top - 2
  · exact refat_some v ws top a w hr hf ht.2 h.1 h.2
  · have hl : ((ws.take top.toNat).length : Int) = top := by rw [List.length_take]; omega
    have := there_out (ws := ws.take top.toNat) (a := a) (by omega)
    unfold objAt
    rw [this.1, this.2]
    exact refat_none v ws top a w hr (by omega) (by omega)
end Go.Proofs.Ytilonacjmihglaa
