/- Layer 20: the words of a frame: SetField, SetReg. -/
import Derived.Test.YtilonacjmihglaaPFs
namespace Go.Proofs.Ytilonacjmihglaa
open Go Go.ChangeShapes Go.WideShapes Go.ChangeAt Go.RowKit
set_option linter.unusedVariables false
set_option linter.unusedSimpArgs false

/-- Behind a call that sets a word of a frame. -/
def SPost (w : World) (B g c tn : Nat) (ws : List Int) (f fr cnt k x : Int) (e : Ending) (w' : World) : Prop :=
  ((slotB (ws.take tn) f cnt k && goodW (ws.take tn) x) = true ∧ e = .returned (.int .i64 0) ∧ PM w' B g c tn (ws.set ((f / 4).toNat + 2 + (fr + k).toNat) x) ∧ But1 g w w') ∨
  ((slotB (ws.take tn) f cnt k && goodW (ws.take tn) x) = false ∧ e = .returned (.int .i64 1) ∧ Below w.heap.size w w')
theorem SPost.form {w : World} {B g c tn : Nat} {ws : List Int} {f fr cnt k x : Int} {e : Ending} {w' : World} (h : SPost w B g c tn ws f fr cnt k x e w') : ∃ x0 : Int, e = .returned (.int .i64 x0) := by
  rcases h with h | h
  · exact ⟨_, h.2.1⟩
  · exact ⟨_, h.2.1⟩

set_option maxRecDepth 100000 in
set_option maxHeartbeats 2000000 in
theorem set_field {w : World} {B g c tn : Nat} {ws : List Int} (h : PM w B g c tn ws) (f k x : Int) (hw : (Lit.int .u64 f).wf = true) (hk : -9223372036854775808 ≤ k ∧ k ≤ 9223372036854775807) (hx : (Lit.int .u64 x).wf = true) :
    Calls Try.prog 34 #[.pointer (some ⟨B, 0, none⟩), .int .u64 f, .int .i64 0, .int .i64 k, .func (.func 35) #[] #[], .int .u64 x] w (SPost w B g c tn ws f 0 6 k x) := by
  have HP := Lib.hid h
  have HL := Lib.hid (fun (wx : World) (hx : Below w.heap.size w wx) => frat_any _ ws tn f wx (h.rd.keep hx) h.fit h.t1 hw)
  have HT := Lib.hid (fun (wx : World) (hb : Below w.heap.size w wx) => there_any _ ws tn x wx (h.rd.keep hb) h.fit h.t1 hx)
  have b0 := h.ma.box0
  have b1 := h.ma.box1
  have HS := Lib.hid (show SPost w B g c tn ws f 0 6 k x = SPost w B g c tn ws f 0 6 k x from rfl)
  have hlen : (ws.take tn).length = tn := by rw [List.length_take]; have := h.t1; omega
  have HLN := Lib.hid hlen
  clear h hlen
  obtain ⟨vs, hvs⟩ : ∃ vs, ws.take tn = vs := ⟨_, rfl⟩
  have HV := Lib.hid hvs
  rw [hvs] at HL HT
  clear hvs
  have hn6 := frN_le vs f
  have HI := Lib.hid (fun h => isF_in (vs := vs) (f := f) h)
  go_enter Try.func34, Try.ntmps34
  go_wp2_with fail
  refine (HL.out _ (Below.refl _ _)).mono ?_
  rintro e w2 ⟨rfl, hb2⟩
  have HB2 := Lib.hid hb2
  have b0 := below_cell hb2 b0
  have b1 := below_cell hb2 b1
  clear hb2 HL
  cases hF : isF vs f
  · have HE := Lib.hid (show (slotB vs f 6 k && goodW vs x) = false by simp [slotB, hF])
    clear hF HI
    go_wp2_with fail
    go_ret
    exact .inr ⟨by rw [HV.out]; exact HE.out, rfl, HB2.out⟩
  · obtain ⟨i1, i2, i3, i4, i5, i6⟩ := HI.out hF
    have HJ := Lib.hid (And.intro i1 (And.intro i2 (And.intro i3 (And.intro i4 (And.intro i5 i6)))))
    have HF := Lib.hid hF
    clear hF HI i1 i2 i4 i5 i6
    rw [i3]
    clear i3
    by_cases h0 : k < 0
    · have HE := Lib.hid (show (slotB vs f 6 k && goodW vs x) = false by simp [slotB, show ¬ 0 ≤ k by omega])
      go_wp2_with fail
      go_ret
      exact .inr ⟨by rw [HV.out]; exact HE.out, rfl, HB2.out⟩
    · have d0 : decide (k < 0) = false := by simp; omega
      by_cases h1 : 6 ≤ k
      · have HE := Lib.hid (show (slotB vs f 6 k && goodW vs x) = false by simp [slotB, show ¬ k < 6 by omega])
        go_wp2_with (go_at_call 35; (with_reducible refine (mfields_any _ _).mono ?_); rintro e w9 ⟨rfl, rfl⟩)
        go_ret
        exact .inr ⟨by rw [HV.out]; exact HE.out, rfl, HB2.out⟩
      · have d1 : decide (6 ≤ k) = false := by simp; omega
        have hs : slotB vs f 6 k = true := by simp [slotB, HF.out]; omega
        have HSB := Lib.hid hs
        clear hs
        go_wp2_with (go_at_call 35; (with_reducible refine (mfields_any _ _).mono ?_); rintro e w9 ⟨rfl, rfl⟩)
        refine (HT.out _ HB2.out).mono ?_
        rintro e w3 ⟨rfl, hb3⟩
        have HB3 := Lib.hid (HB2.out.trans (hb3.mono HB2.out.size))
        have b0 := below_cell hb3 b0
        have b1 := below_cell hb3 b1
        clear hb3
        cases hg : goodW vs x
        · have HE := Lib.hid (show (slotB vs f 6 k && goodW vs x) = false by simp [hg])
          go_wp2_with fail
          go_ret
          exact .inr ⟨by rw [HV.out]; exact HE.out, rfl, HB3.out⟩
        · have HE := Lib.hid (show (slotB vs f 6 k && goodW vs x) = true by rw [HSB.out, hg]; rfl)
          have HG := Lib.hid hg
          have h6 : wrap64 (0 + k) = 0 + k := by unfold wrap64; omega
          have hxf := wfu hw
          obtain ⟨a, ha⟩ : ∃ a : Nat, f / 4 = (a : Int) := ⟨(f / 4).toNat, by omega⟩
          obtain ⟨kk, hkk⟩ : ∃ kk : Nat, k = (kk : Int) := ⟨(k).toNat, by omega⟩
          have HA := Lib.hid ha
          have HK := Lib.hid hkk
          have hcn := HP.out.keep HB3.out
          have HC := Lib.hid (pm_set hcn a kk x hx (by rw [HV.out, ← ha]; exact HJ.out.2.1) (by rw [HV.out, ← ha]; have := HJ.out; omega) (by
            have := HG.out
            unfold goodW at this
            intro h3
            rw [if_neg (by omega), h3] at this
            simp at this))
          have HQ := Lib.hid (show (f / 4).toNat + 2 + (0 + k).toNat = a + 2 + kk by omega)
          clear h6
          rw [ha]
          clear hcn hg ha
          go_wp2_with fail
          refine HC.out.mono ?_
          rintro e w4 ⟨rfl, hpm, hbt⟩
          have HPM := Lib.hid hpm
          have HBT := Lib.hid hbt
          clear hpm hbt
          go_wp2_with fail
          go_ret
          exact .inl ⟨by rw [HV.out]; exact HE.out, rfl, by rw [HQ.out]; exact HPM.out, (But1.of HB3.out).trans HBT.out⟩

set_option maxRecDepth 100000 in
set_option maxHeartbeats 2000000 in
theorem set_reg {w : World} {B g c tn : Nat} {ws : List Int} (h : PM w B g c tn ws) (f k x : Int) (hw : (Lit.int .u64 f).wf = true) (hk : -9223372036854775808 ≤ k ∧ k ≤ 9223372036854775807) (hx : (Lit.int .u64 x).wf = true) :
    Calls Try.prog 34 #[.pointer (some ⟨B, 0, none⟩), .int .u64 f, .int .i64 6, .int .i64 k, .func (.func 36) #[] #[], .int .u64 x] w (SPost w B g c tn ws f 6 (frN (ws.take tn) f) k x) := by
  have HP := Lib.hid h
  have HL := Lib.hid (fun (wx : World) (hx : Below w.heap.size w wx) => frat_any _ ws tn f wx (h.rd.keep hx) h.fit h.t1 hw)
  have HT := Lib.hid (fun (wx : World) (hb : Below w.heap.size w wx) => there_any _ ws tn x wx (h.rd.keep hb) h.fit h.t1 hx)
  have b0 := h.ma.box0
  have b1 := h.ma.box1
  have HS := Lib.hid (show SPost w B g c tn ws f 6 (frN (ws.take tn) f) k x = SPost w B g c tn ws f 6 (frN (ws.take tn) f) k x from rfl)
  have hlen : (ws.take tn).length = tn := by rw [List.length_take]; have := h.t1; omega
  have HLN := Lib.hid hlen
  clear h hlen
  obtain ⟨vs, hvs⟩ : ∃ vs, ws.take tn = vs := ⟨_, rfl⟩
  have HV := Lib.hid hvs
  rw [hvs] at HL HT
  clear hvs
  have hn6 := frN_le vs f
  have HI := Lib.hid (fun h => isF_in (vs := vs) (f := f) h)
  go_enter Try.func34, Try.ntmps34
  go_wp2_with fail
  refine (HL.out _ (Below.refl _ _)).mono ?_
  rintro e w2 ⟨rfl, hb2⟩
  have HB2 := Lib.hid hb2
  have b0 := below_cell hb2 b0
  have b1 := below_cell hb2 b1
  clear hb2 HL
  cases hF : isF vs f
  · have HE := Lib.hid (show (slotB vs f (frN vs f) k && goodW vs x) = false by simp [slotB, hF])
    clear hF HI
    go_wp2_with fail
    go_ret
    exact .inr ⟨by rw [HV.out]; exact HE.out, rfl, HB2.out⟩
  · obtain ⟨i1, i2, i3, i4, i5, i6⟩ := HI.out hF
    have HJ := Lib.hid (And.intro i1 (And.intro i2 (And.intro i3 (And.intro i4 (And.intro i5 i6)))))
    have HF := Lib.hid hF
    clear hF HI i1 i2 i4 i5 i6
    rw [i3]
    clear i3
    by_cases h0 : k < 0
    · have HE := Lib.hid (show (slotB vs f (frN vs f) k && goodW vs x) = false by simp [slotB, show ¬ 0 ≤ k by omega])
      go_wp2_with fail
      go_ret
      exact .inr ⟨by rw [HV.out]; exact HE.out, rfl, HB2.out⟩
    · have d0 : decide (k < 0) = false := by simp; omega
      by_cases h1 : (frN vs f) ≤ k
      · have HE := Lib.hid (show (slotB vs f (frN vs f) k && goodW vs x) = false by simp [slotB, show ¬ k < (frN vs f) by omega])
        go_wp2_with (go_at_call 36; (with_reducible refine (mregs_any _ _).mono ?_); rintro e w9 ⟨rfl, rfl⟩)
        go_ret
        exact .inr ⟨by rw [HV.out]; exact HE.out, rfl, HB2.out⟩
      · have d1 : decide ((frN vs f) ≤ k) = false := by simp; omega
        have hs : slotB vs f (frN vs f) k = true := by simp [slotB, HF.out]; omega
        have HSB := Lib.hid hs
        clear hs
        go_wp2_with (go_at_call 36; (with_reducible refine (mregs_any _ _).mono ?_); rintro e w9 ⟨rfl, rfl⟩)
        refine (HT.out _ HB2.out).mono ?_
        rintro e w3 ⟨rfl, hb3⟩
        have HB3 := Lib.hid (HB2.out.trans (hb3.mono HB2.out.size))
        have b0 := below_cell hb3 b0
        have b1 := below_cell hb3 b1
        clear hb3
        cases hg : goodW vs x
        · have HE := Lib.hid (show (slotB vs f (frN vs f) k && goodW vs x) = false by simp [hg])
          go_wp2_with fail
          go_ret
          exact .inr ⟨by rw [HV.out]; exact HE.out, rfl, HB3.out⟩
        · have HE := Lib.hid (show (slotB vs f (frN vs f) k && goodW vs x) = true by rw [HSB.out, hg]; rfl)
          have HG := Lib.hid hg
          have h6 : wrap64 (6 + k) = 6 + k := by unfold wrap64; omega
          have hxf := wfu hw
          obtain ⟨a, ha⟩ : ∃ a : Nat, f / 4 = (a : Int) := ⟨(f / 4).toNat, by omega⟩
          obtain ⟨kk, hkk⟩ : ∃ kk : Nat, 6 + k = (kk : Int) := ⟨(6 + k).toNat, by omega⟩
          have HA := Lib.hid ha
          have HK := Lib.hid hkk
          have hcn := HP.out.keep HB3.out
          have HC := Lib.hid (pm_set hcn a kk x hx (by rw [HV.out, ← ha]; exact HJ.out.2.1) (by rw [HV.out, ← ha]; have := HJ.out; omega) (by
            have := HG.out
            unfold goodW at this
            intro h3
            rw [if_neg (by omega), h3] at this
            simp at this))
          have HQ := Lib.hid (show (f / 4).toNat + 2 + (6 + k).toNat = a + 2 + kk by omega)
          
          rw [ha]
          clear hcn hg ha
          go_wp2_with fail
          refine HC.out.mono ?_
          rintro e w4 ⟨rfl, hpm, hbt⟩
          have HPM := Lib.hid hpm
          have HBT := Lib.hid hbt
          clear hpm hbt
          go_wp2_with fail
          go_ret
          exact .inl ⟨by rw [HV.out]; exact HE.out, rfl, by rw [HQ.out]; exact HPM.out, (But1.of HB3.out).trans HBT.out⟩

set_option maxRecDepth 100000 in
theorem setField_any {w : World} {B g c tn : Nat} {ws : List Int} (h : PM w B g c tn ws) (f k x : Int) (hw : (Lit.int .u64 f).wf = true) (hk : -9223372036854775808 ≤ k ∧ k ≤ 9223372036854775807) (hx : (Lit.int .u64 x).wf = true) :
    Calls Try.prog 11 #[.pointer (some ⟨B, 0, none⟩), .int .u64 f, .int .i64 k, .int .u64 x] w (SPost w B g c tn ws f 0 6 k x) := by
  have HG := Lib.hid (set_field h f k x hw hk hx)
  clear h
  go_enter Try.func11, Try.ntmps11
  go_wp2_with fail
  refine HG.out.mono ?_
  rintro e w2 hS
  have HS := Lib.hid hS
  obtain ⟨x0, rfl⟩ := hS.form
  clear hS
  go_wp2_with fail
  go_ret
  exact HS.out

set_option maxRecDepth 100000 in
theorem setReg_any {w : World} {B g c tn : Nat} {ws : List Int} (h : PM w B g c tn ws) (f k x : Int) (hw : (Lit.int .u64 f).wf = true) (hk : -9223372036854775808 ≤ k ∧ k ≤ 9223372036854775807) (hx : (Lit.int .u64 x).wf = true) :
    Calls Try.prog 12 #[.pointer (some ⟨B, 0, none⟩), .int .u64 f, .int .i64 k, .int .u64 x] w (SPost w B g c tn ws f 6 (frN (ws.take tn) f) k x) := by
  have HG := Lib.hid (set_reg h f k x hw hk hx)
  clear h
  go_enter Try.func12, Try.ntmps12
  go_wp2_with fail
  refine HG.out.mono ?_
  rintro e w2 hS
  have HS := Lib.hid hS
  obtain ⟨x0, rfl⟩ := hS.form
  clear hS
  go_wp2_with fail
  go_ret
  exact HS.out
end Go.Proofs.Ytilonacjmihglaa
