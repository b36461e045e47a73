/- Layer 20: the words of a frame: get and set, Field, Reg, SetField, SetReg. -/
import Derived.Test.YtilonacjmihglaaPClr
namespace Go.Proofs.Ytilonacjmihglaa
open Go Go.ChangeShapes Go.WideShapes Go.ChangeAt Go.RowKit
set_option linter.unusedVariables false
set_option linter.unusedSimpArgs false
/-- Is k a place among so many of the frame's words? -/
def slotB (vs : List Int) (f cnt k : Int) : Bool := isF vs f && (decide (0 ≤ k) && decide (k < cnt))
def slotV (vs : List Int) (f fr cnt k : Int) : Int := if slotB vs f cnt k = true then vs.getD ((f / 4).toNat + 2 + (fr + k).toNat) 0 else 0
def slotE (vs : List Int) (f cnt k : Int) : Int := if slotB vs f cnt k = true then 0 else 1
theorem mfields_any (n : Int) (w : World) : Calls Try.prog 35 #[.int .i64 n] w fun e w' => e = .returned (.int .i64 6) ∧ w = w' := by
  go_enter Try.func35, Try.ntmps35
  go_wp2
  go_ret
  exact ⟨rfl, rfl⟩
theorem mregs_any (n : Int) (w : World) : Calls Try.prog 36 #[.int .i64 n] w fun e w' => e = .returned (.int .i64 n) ∧ w = w' := by
  go_enter Try.func36, Try.ntmps36
  go_wp2
  go_ret
  exact ⟨rfl, rfl⟩
theorem frN_le (vs : List Int) (f : Int) : -6 ≤ frN vs f ∧ frN vs f ≤ 16777215 := by
  have := lT_lo vs f
  unfold frN; split <;> omega

set_option maxRecDepth 100000 in
set_option maxHeartbeats 1600000 in
theorem get_field (v : Value) (ws : List Int) (tn : Nat) (f k : Int) (w : World) (hr : Rd w v ws) (hf : Fit ws) (ht : tn ≤ ws.length) (hw : (Lit.int .u64 f).wf = true) (hk : -9223372036854775808 ≤ k ∧ k ≤ 9223372036854775807) :
    Calls Try.prog 44 #[.agg #[v, .int .i64 tn], .int .u64 f, .int .i64 0, .int .i64 k, .func (.func 35) #[] #[]] w fun e w' => e = .returned (.tuple #[.int .u64 (slotV (ws.take tn) f 0 6 k), .int .i64 (slotE (ws.take tn) f 6 k)]) ∧ Below w.heap.size w w' := by
  have HL := Lib.hid (fun (wx : World) (hx : Below w.heap.size w wx) => frat_any v ws tn f wx (hr.keep hx) hf ht hw)
  have HG := Lib.hid (fun (a i : Int) (hi : -9223372036854775808 ≤ i ∧ i ≤ 9223372036854775807) (wx : World) (hx : Below w.heap.size w wx) => aget_any v ws tn a i wx (hr.keep hx) hf ht hi)
  obtain ⟨p, c, rfl, hm⟩ := rd_form0 hr
  generalize hvs : ws.take tn = vs at *
  have hn6 := frN_le vs f
  clear hf hr hvs
  have HI := Lib.hid (fun h => isF_in (vs := vs) (f := f) h)
  go_enter Try.func44, Try.ntmps44
  go_wp2_with fail
  generalize hw1 : World.alloc w _ = w1
  have HB1 := Lib.hid (show Below w.heap.size w w1 by rw [← hw1]; exact (Below.refl _ _).alloc (Nat.le_refl _) _)
  have HM1 := Lib.hid (show Bm w1 w.heap.size p ws.length c tn by rw [← hw1]; exact Bm.new _ _ _ _ _ _)
  clear hw1
  refine (HL.out _ HB1.out).mono ?_
  rintro e w2 ⟨rfl, hb2⟩
  have HB2 := Lib.hid (HB1.out.trans (hb2.mono HB1.out.size))
  obtain ⟨m0, m1⟩ := HM1.out.keep hb2
  clear hb2 HL HM1 HB1
  cases hF : isF vs f
  · have HE := Lib.hid (show slotV vs f 0 6 k = 0 ∧ slotE vs f 6 k = 1 by simp [slotV, slotE, slotB, hF])
    clear hF HI
    go_wp2_with fail
    go_ret2
    exact ⟨by simp [HE.out.1, HE.out.2], HB2.out⟩
  · obtain ⟨i1, i2, i3, i4, i5, i6⟩ := HI.out hF
    have HJ := Lib.hid (And.intro i1 (And.intro i2 (And.intro i3 (And.intro i4 (And.intro i5 i6)))))
    have HF := Lib.hid hF
    have hcn : (6 : Int) = 6 := rfl
    clear hF HI i1 i2 i4 i5 i6
    rw [i3]
    clear i3
    by_cases h0 : k < 0
    · have HE := Lib.hid (show slotV vs f 0 6 k = 0 ∧ slotE vs f 6 k = 1 by simp [slotV, slotE, slotB, show ¬ 0 ≤ k by omega])
      go_wp2_with fail
      go_ret2
      exact ⟨by simp [HE.out.1, HE.out.2], HB2.out⟩
    · by_cases h1 : 6 ≤ k
      · have HE := Lib.hid (show slotV vs f 0 6 k = 0 ∧ slotE vs f 6 k = 1 by simp [slotV, slotE, slotB, show ¬ k < 6 by omega])
        have d0 : decide (k < 0) = false := by simp; omega
        go_wp2_with (go_at_call 35; (with_reducible refine (mfields_any _ _).mono ?_); rintro e w9 ⟨rfl, rfl⟩)
        go_ret2
        exact ⟨by simp [HE.out.1, HE.out.2], HB2.out⟩
      · have d0 : decide (k < 0) = false := by simp; omega
        have d1 : decide (6 ≤ k) = false := by simp; omega
        have h6 : wrap64 (0 + k) = 0 + k := by unfold wrap64; omega
        have HE := Lib.hid (show gV vs (f / 4) (k) = slotV vs f 0 6 k ∧ gE vs (f / 4) (k) = slotE vs f 6 k by
          have hJ := HJ.out
          have hs : slotB vs f 6 k = true := by simp [slotB, HF.out]; omega
          have hc : there vs (f / 4) = true ∧ 0 ≤ k ∧ k < hS (headAt vs (f / 4)) - 2 := ⟨hJ.2.1, by omega, by omega⟩
          unfold gV gE slotV slotE
          rw [if_pos hc, if_pos hc, if_pos hs, if_pos hs]
          simp)
        go_wp2_with (go_at_call 35; (with_reducible refine (mfields_any _ _).mono ?_); rintro e w9 ⟨rfl, rfl⟩)
        refine (HG.out _ _ (by omega) _ HB2.out).mono ?_
        rintro e w3 ⟨rfl, hb3⟩
        have HB3 := Lib.hid (HB2.out.trans (hb3.mono HB2.out.size))
        clear hb3
        rw [HE.out.1, HE.out.2]
        go_wp2_with fail
        go_ret2
        exact ⟨rfl, HB3.out⟩

set_option maxRecDepth 100000 in
set_option maxHeartbeats 1600000 in
theorem get_reg (v : Value) (ws : List Int) (tn : Nat) (f k : Int) (w : World) (hr : Rd w v ws) (hf : Fit ws) (ht : tn ≤ ws.length) (hw : (Lit.int .u64 f).wf = true) (hk : -9223372036854775808 ≤ k ∧ k ≤ 9223372036854775807) :
    Calls Try.prog 44 #[.agg #[v, .int .i64 tn], .int .u64 f, .int .i64 6, .int .i64 k, .func (.func 36) #[] #[]] w fun e w' => e = .returned (.tuple #[.int .u64 (slotV (ws.take tn) f 6 (frN (ws.take tn) f) k), .int .i64 (slotE (ws.take tn) f (frN (ws.take tn) f) k)]) ∧ Below w.heap.size w w' := by
  have HL := Lib.hid (fun (wx : World) (hx : Below w.heap.size w wx) => frat_any v ws tn f wx (hr.keep hx) hf ht hw)
  have HG := Lib.hid (fun (a i : Int) (hi : -9223372036854775808 ≤ i ∧ i ≤ 9223372036854775807) (wx : World) (hx : Below w.heap.size w wx) => aget_any v ws tn a i wx (hr.keep hx) hf ht hi)
  obtain ⟨p, c, rfl, hm⟩ := rd_form0 hr
  generalize hvs : ws.take tn = vs at *
  have hn6 := frN_le vs f
  clear hf hr hvs
  have HI := Lib.hid (fun h => isF_in (vs := vs) (f := f) h)
  go_enter Try.func44, Try.ntmps44
  go_wp2_with fail
  generalize hw1 : World.alloc w _ = w1
  have HB1 := Lib.hid (show Below w.heap.size w w1 by rw [← hw1]; exact (Below.refl _ _).alloc (Nat.le_refl _) _)
  have HM1 := Lib.hid (show Bm w1 w.heap.size p ws.length c tn by rw [← hw1]; exact Bm.new _ _ _ _ _ _)
  clear hw1
  refine (HL.out _ HB1.out).mono ?_
  rintro e w2 ⟨rfl, hb2⟩
  have HB2 := Lib.hid (HB1.out.trans (hb2.mono HB1.out.size))
  obtain ⟨m0, m1⟩ := HM1.out.keep hb2
  clear hb2 HL HM1 HB1
  cases hF : isF vs f
  · have HE := Lib.hid (show slotV vs f 6 (frN vs f) k = 0 ∧ slotE vs f (frN vs f) k = 1 by simp [slotV, slotE, slotB, hF])
    clear hF HI
    go_wp2_with fail
    go_ret2
    exact ⟨by simp [HE.out.1, HE.out.2], HB2.out⟩
  · obtain ⟨i1, i2, i3, i4, i5, i6⟩ := HI.out hF
    have HJ := Lib.hid (And.intro i1 (And.intro i2 (And.intro i3 (And.intro i4 (And.intro i5 i6)))))
    have HF := Lib.hid hF
    have hcn : True := trivial
    clear hF HI i1 i2 i4 i5 i6
    rw [i3]
    clear i3
    by_cases h0 : k < 0
    · have HE := Lib.hid (show slotV vs f 6 (frN vs f) k = 0 ∧ slotE vs f (frN vs f) k = 1 by simp [slotV, slotE, slotB, show ¬ 0 ≤ k by omega])
      go_wp2_with fail
      go_ret2
      exact ⟨by simp [HE.out.1, HE.out.2], HB2.out⟩
    · by_cases h1 : (frN vs f) ≤ k
      · have HE := Lib.hid (show slotV vs f 6 (frN vs f) k = 0 ∧ slotE vs f (frN vs f) k = 1 by simp [slotV, slotE, slotB, show ¬ k < (frN vs f) by omega])
        have d0 : decide (k < 0) = false := by simp; omega
        go_wp2_with (go_at_call 36; (with_reducible refine (mregs_any _ _).mono ?_); rintro e w9 ⟨rfl, rfl⟩)
        go_ret2
        exact ⟨by simp [HE.out.1, HE.out.2], HB2.out⟩
      · have d0 : decide (k < 0) = false := by simp; omega
        have d1 : decide ((frN vs f) ≤ k) = false := by simp; omega
        have h6 : wrap64 (6 + k) = 6 + k := by unfold wrap64; omega
        have HE := Lib.hid (show gV vs (f / 4) (6 + k) = slotV vs f 6 (frN vs f) k ∧ gE vs (f / 4) (6 + k) = slotE vs f (frN vs f) k by
          have hJ := HJ.out
          have hs : slotB vs f (frN vs f) k = true := by simp [slotB, HF.out]; omega
          have hc : there vs (f / 4) = true ∧ 0 ≤ 6 + k ∧ 6 + k < hS (headAt vs (f / 4)) - 2 := ⟨hJ.2.1, by omega, by omega⟩
          unfold gV gE slotV slotE
          rw [if_pos hc, if_pos hc, if_pos hs, if_pos hs]
          exact ⟨rfl, rfl⟩)
        go_wp2_with (go_at_call 36; (with_reducible refine (mregs_any _ _).mono ?_); rintro e w9 ⟨rfl, rfl⟩)
        refine (HG.out _ _ (by omega) _ HB2.out).mono ?_
        rintro e w3 ⟨rfl, hb3⟩
        have HB3 := Lib.hid (HB2.out.trans (hb3.mono HB2.out.size))
        clear hb3
        rw [HE.out.1, HE.out.2]
        go_wp2_with fail
        go_ret2
        exact ⟨rfl, HB3.out⟩

set_option maxRecDepth 100000 in
theorem field_any (v : Value) (ws : List Int) (tn : Nat) (f k : Int) (w : World) (hr : Rd w v ws) (hf : Fit ws) (ht : tn ≤ ws.length) (hw : (Lit.int .u64 f).wf = true) (hk : -9223372036854775808 ≤ k ∧ k ≤ 9223372036854775807) :
    Calls Try.prog 40 #[.agg #[v, .int .i64 tn], .int .u64 f, .int .i64 k] w fun e w' => e = .returned (.tuple #[.int .u64 (slotV (ws.take tn) f 0 6 k), .int .i64 (slotE (ws.take tn) f 6 k)]) ∧ Below w.heap.size w w' := by
  have HG := Lib.hid (fun (wx : World) (hx : Below w.heap.size w wx) => get_field v ws tn f k wx (hr.keep hx) hf ht hw hk)
  obtain ⟨p, c, rfl, hm⟩ := rd_form0 hr
  generalize hvs : ws.take tn = vs at *
  clear hf hr hvs
  go_enter Try.func40, Try.ntmps40
  go_wp2_with fail
  refine (HG.out _ (by ((repeat' (first | with_reducible assumption | with_reducible exact Below.refl _ _ | with_reducible refine Below.drew ?_ | with_reducible refine Below.alloc ?_ (by first | omega | (simp; omega) | (simp; done) | fail) _ | with_reducible refine Below.setCell ?_ (by first | omega | (simp; omega) | (simp; done) | fail) _ | fail)); (first | done | fail)))).mono ?_
  rintro e w2 ⟨rfl, hb2⟩
  have HB2 := Lib.hid (Below.trans (show Below w.heap.size w _ by ((repeat' (first | with_reducible assumption | with_reducible exact Below.refl _ _ | with_reducible refine Below.drew ?_ | with_reducible refine Below.alloc ?_ (by first | omega | (simp; omega) | (simp; done) | fail) _ | with_reducible refine Below.setCell ?_ (by first | omega | (simp; omega) | (simp; done) | fail) _ | fail)); (first | done | fail))) (hb2.mono (by simp)))
  clear hb2
  go_wp2_with fail
  go_ret2
  exact ⟨rfl, HB2.out⟩

set_option maxRecDepth 100000 in
theorem reg_any (v : Value) (ws : List Int) (tn : Nat) (f k : Int) (w : World) (hr : Rd w v ws) (hf : Fit ws) (ht : tn ≤ ws.length) (hw : (Lit.int .u64 f).wf = true) (hk : -9223372036854775808 ≤ k ∧ k ≤ 9223372036854775807) :
    Calls Try.prog 18 #[.agg #[v, .int .i64 tn], .int .u64 f, .int .i64 k] w fun e w' => e = .returned (.tuple #[.int .u64 (slotV (ws.take tn) f 6 (frN (ws.take tn) f) k), .int .i64 (slotE (ws.take tn) f (frN (ws.take tn) f) k)]) ∧ Below w.heap.size w w' := by
  have HG := Lib.hid (fun (wx : World) (hx : Below w.heap.size w wx) => get_reg v ws tn f k wx (hr.keep hx) hf ht hw hk)
  obtain ⟨p, c, rfl, hm⟩ := rd_form0 hr
  generalize hvs : ws.take tn = vs at *
  clear hf hr hvs
  go_enter Try.func18, Try.ntmps18
  go_wp2_with fail
  refine (HG.out _ (by ((repeat' (first | with_reducible assumption | with_reducible exact Below.refl _ _ | with_reducible refine Below.drew ?_ | with_reducible refine Below.alloc ?_ (by first | omega | (simp; omega) | (simp; done) | fail) _ | with_reducible refine Below.setCell ?_ (by first | omega | (simp; omega) | (simp; done) | fail) _ | fail)); (first | done | fail)))).mono ?_
  rintro e w2 ⟨rfl, hb2⟩
  have HB2 := Lib.hid (Below.trans (show Below w.heap.size w _ by ((repeat' (first | with_reducible assumption | with_reducible exact Below.refl _ _ | with_reducible refine Below.drew ?_ | with_reducible refine Below.alloc ?_ (by first | omega | (simp; omega) | (simp; done) | fail) _ | with_reducible refine Below.setCell ?_ (by first | omega | (simp; omega) | (simp; done) | fail) _ | fail)); (first | done | fail))) (hb2.mono (by simp)))
  clear hb2
  go_wp2_with fail
  go_ret2
  exact ⟨rfl, HB2.out⟩
end Go.Proofs.Ytilonacjmihglaa
