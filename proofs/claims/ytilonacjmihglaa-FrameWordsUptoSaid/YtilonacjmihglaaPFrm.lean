/- Layer 20: what a frame is (at), Regs, Field, Reg. -/
import Derived.Test.YtilonacjmihglaaPLook
namespace Go.Proofs.Ytilonacjmihglaa
open Go Go.ChangeShapes Go.WideShapes Go.ChangeAt Go.RowKit
set_option linter.unusedVariables false
set_option linter.unusedSimpArgs false
/-- Does a frame seem to lie where the word leads? -/
def isF (vs : List Int) (f : Int) : Bool := lOk vs f && (decide (lK vs f = 19) && (decide (6 ≤ lT vs f) && decide (lR vs f = 0)))
def frA (vs : List Int) (f : Int) : Int := if isF vs f = true then lA vs f else 0
def frN (vs : List Int) (f : Int) : Int := if isF vs f = true then lT vs f - 6 else 0
theorem lT_lo (vs : List Int) (f : Int) : 0 ≤ lT vs f ∧ lT vs f ≤ 16777215 := by
  unfold lT; split
  · exact hT_lo _
  · omega
set_option maxRecDepth 100000 in
set_option maxHeartbeats 1600000 in
theorem frat_any (v : Value) (ws : List Int) (tn : Nat) (f : Int) (w : World) (hr : Rd w v ws) (hf : Fit ws) (ht : tn ≤ ws.length) (hw : (Lit.int .u64 f).wf = true) :
    Calls Try.prog 38 #[.agg #[v, .int .i64 tn], .int .u64 f] w fun e w' => e = .returned (.tuple #[.int .i64 (frA (ws.take tn) f), .int .i64 (frN (ws.take tn) f), .bool (isF (ws.take tn) f)]) ∧ Below w.heap.size w w' := by
  have HL := Lib.hid (fun (wx : World) (hx : Below w.heap.size w wx) => lookat_any v ws tn f wx (hr.keep hx) hf ht hw)
  obtain ⟨p, c, rfl, hm⟩ := rd_form0 hr
  generalize hvs : ws.take tn = vs at *
  have hlt := lT_lo vs f
  have hla := lA_lo (vs := vs) hw
  clear hf hr hvs
  have HI := Lib.hid (show isF vs f = (lOk vs f && (decide (lK vs f = 19) && (decide (6 ≤ lT vs f) && decide (lR vs f = 0)))) from rfl)
  have HA := Lib.hid (show frA vs f = (if isF vs f = true then lA vs f else 0) ∧ frN vs f = (if isF vs f = true then lT vs f - 6 else 0) from ⟨rfl, rfl⟩)
  go_enter Try.func38, Try.ntmps38
  go_wp2_with fail
  refine (HL.out _ (by ((repeat' (first | with_reducible assumption | with_reducible exact Below.refl _ _ | with_reducible refine Below.drew ?_ | with_reducible refine Below.alloc ?_ (by first | omega | (simp; omega) | (simp; done) | fail) _ | with_reducible refine Below.setCell ?_ (by first | omega | (simp; omega) | (simp; done) | fail) _ | fail)); (first | done | fail)))).mono ?_
  rintro e w2 ⟨rfl, hb2⟩
  have HB2 := Lib.hid (Below.trans (show Below w.heap.size w _ by ((repeat' (first | with_reducible assumption | with_reducible exact Below.refl _ _ | with_reducible refine Below.drew ?_ | with_reducible refine Below.alloc ?_ (by first | omega | (simp; omega) | (simp; done) | fail) _ | with_reducible refine Below.setCell ?_ (by first | omega | (simp; omega) | (simp; done) | fail) _ | fail)); (first | done | fail))) (hb2.mono (by simp)))
  unfold sh3
  clear hb2 HL
  cases hok : lOk vs f
  · rw [hok] at HI
    have HI2 : isF vs f = false := by rw [HI.out]; rfl
    have HE := Lib.hid (show 0 = frA vs f ∧ 0 = frN vs f ∧ isF vs f = false by simp [frA, frN, HI2])
    clear HI2
    go_wp2_with fail
    go_ret3
    exact ⟨by simp [← HE.out.1, ← HE.out.2.1, HE.out.2.2], HB2.out.alloc HB2.out.size _⟩
  · rw [hok] at HI
    by_cases h1 : lK vs f = 19
    · by_cases h2 : 6 ≤ lT vs f
      · have d2 : decide (lT vs f < 6) = false := by simp; omega
        by_cases h3 : lR vs f = 0
        · have HI2 : isF vs f = true := by rw [HI.out]; simp [h1, h2, h3]
          have HE := Lib.hid (show lA vs f = frA vs f ∧ lT vs f - 6 = frN vs f ∧ isF vs f = true by simp [frA, frN, HI2])
          clear HI2
          rw [h3, h1]
          clear HI HA
          go_wp2_with fail
          go_quiet (fail)
          go_wp2_with fail
          go_ret3
          exact ⟨by simp [← HE.out.1, ← HE.out.2.1, HE.out.2.2], below_drewN (HB2.out.alloc HB2.out.size _) _⟩
        · have HI2 : isF vs f = false := by rw [HI.out]; simp [h3]
          have HE := Lib.hid (show 0 = frA vs f ∧ 0 = frN vs f ∧ isF vs f = false by simp [frA, frN, HI2])
          clear HI2
          have d3 : (lR vs f != 0) = true := by simpa using h3
          rw [h1]
          clear HI HA
          go_wp2_with fail
          go_ret3
          exact ⟨by simp [← HE.out.1, ← HE.out.2.1, HE.out.2.2], HB2.out.alloc HB2.out.size _⟩
      · have HI2 : isF vs f = false := by rw [HI.out]; simp [h2]
        have HE := Lib.hid (show 0 = frA vs f ∧ 0 = frN vs f ∧ isF vs f = false by simp [frA, frN, HI2])
        clear HI2
        have d2 : lT vs f < 6 := by omega
        rw [h1]
        clear HI HA
        go_wp2_with fail
        go_ret3
        exact ⟨by simp [← HE.out.1, ← HE.out.2.1, HE.out.2.2], HB2.out.alloc HB2.out.size _⟩
    · have HI2 : isF vs f = false := by rw [HI.out]; simp [h1]
      have HE := Lib.hid (show 0 = frA vs f ∧ 0 = frN vs f ∧ isF vs f = false by simp [frA, frN, HI2])
      clear HI2
      have d1 : (lK vs f != 19) = true := by simpa using h1
      clear HI HA
      go_wp2_with fail
      go_ret3
      exact ⟨by simp [← HE.out.1, ← HE.out.2.1, HE.out.2.2], HB2.out.alloc HB2.out.size _⟩
set_option maxRecDepth 100000 in
theorem unbound_any (w : World) : Calls Try.prog 28 #[] w fun e w' => e = .returned (.int .u64 14) ∧ w = w' := by
  go_enter Try.func28, Try.ntmps28
  go_wp2_with fail
  refine (const_any 3 (by decide) _).mono ?_
  rintro e w1 ⟨rfl, rfl⟩
  go_wp2_with fail
  go_ret
  exact ⟨rfl, rfl⟩
def regE (vs : List Int) (f : Int) : Int := if isF vs f = true then 0 else 1
theorem isF_cases (vs : List Int) (f : Int) : (isF vs f = true ∧ frN vs f = lT vs f - 6 ∧ frA vs f = lA vs f ∧ regE vs f = 0) ∨ (isF vs f = false ∧ frN vs f = 0 ∧ frA vs f = 0 ∧ regE vs f = 1) := by
  cases h : isF vs f
  · right; simp [frN, frA, regE, h]
  · left; simp [frN, frA, regE, h]
set_option maxRecDepth 100000 in
set_option maxHeartbeats 1600000 in
theorem regs_any (v : Value) (ws : List Int) (tn : Nat) (f : Int) (w : World) (hr : Rd w v ws) (hf : Fit ws) (ht : tn ≤ ws.length) (hw : (Lit.int .u64 f).wf = true) :
    Calls Try.prog 19 #[.agg #[v, .int .i64 tn], .int .u64 f] w fun e w' => e = .returned (.tuple #[.int .i64 (frN (ws.take tn) f), .int .i64 (regE (ws.take tn) f)]) ∧ Below w.heap.size w w' := by
  have HL := Lib.hid (fun (wx : World) (hx : Below w.heap.size w wx) => frat_any v ws tn f wx (hr.keep hx) hf ht hw)
  obtain ⟨p, c, rfl, hm⟩ := rd_form0 hr
  generalize hvs : ws.take tn = vs at *
  clear hf hr hvs
  go_enter Try.func19, Try.ntmps19
  go_wp2_with fail
  refine (HL.out _ (by ((repeat' (first | with_reducible assumption | with_reducible exact Below.refl _ _ | with_reducible refine Below.drew ?_ | with_reducible refine Below.alloc ?_ (by first | omega | (simp; omega) | (simp; done) | fail) _ | with_reducible refine Below.setCell ?_ (by first | omega | (simp; omega) | (simp; done) | fail) _ | fail)); (first | done | fail)))).mono ?_
  rintro e w2 ⟨rfl, hb2⟩
  have HB2 := Lib.hid (Below.trans (show Below w.heap.size w _ by ((repeat' (first | with_reducible assumption | with_reducible exact Below.refl _ _ | with_reducible refine Below.drew ?_ | with_reducible refine Below.alloc ?_ (by first | omega | (simp; omega) | (simp; done) | fail) _ | with_reducible refine Below.setCell ?_ (by first | omega | (simp; omega) | (simp; done) | fail) _ | fail)); (first | done | fail))) (hb2.mono (by simp)))
  clear hb2 HL
  rcases isF_cases vs f with ⟨h1, h2, h3, h4⟩ | ⟨h1, h2, h3, h4⟩
  all_goals rw [h1, h2, h3]
  all_goals have HE := Lib.hid (And.intro h2 h4)
  all_goals clear h1 h2 h3 h4
  all_goals go_wp2_with fail
  all_goals go_ret2
  all_goals exact ⟨by simp [HE.out.1, HE.out.2], HB2.out⟩
end Go.Proofs.Ytilonacjmihglaa
