/- Layer 20, the document's: SetWord. Layer 20, the document's: Clear. Layer 20: New of any number; calls without a memory. -/
import Derived.Test.YtilonacjmihglaaPGFcIs
import Derived.Test.YtilonacjmihglaaPFcWd
import Derived.Test.YtilonacjmihglaaPGFcLay
import Derived.Test.YtilonacjmihglaaPHasW
import Derived.Test.YtilonacjmihglaaPGAlloc
namespace Go.Proofs.Ytilonacjmihglaa
section
open Go Go.ChangeShapes Go.WideShapes Go.ChangeAt Go.RowKit
set_option linter.unusedVariables false
set_option linter.unusedSimpArgs false
def setB (vs : List Int) (f cnt k x : Int) : Bool := slotB vs f cnt k && goodW vs x
def setM (ws : List Int) (tn : Nat) (f fr cnt k x : Int) : List Int := if setB (ws.take tn) f cnt k x = true then ws.set ((f / 4).toNat + 2 + (fr + k).toNat) x else ws
def setE (vs : List Int) (f cnt k x : Int) : Int := if setB vs f cnt k x = true then 0 else 1
theorem setM_len (ws : List Int) (tn : Nat) (f fr cnt k x : Int) : (setM ws tn f fr cnt k x).length = ws.length := by unfold setM; split <;> simp
def RSPost (W : World) (v : Value) (ws : List Int) (tn : Nat) (f fr cnt k x : Int) (e : Ending) (w' : World) : Prop :=
  ∃ v', e = .returned (.tuple #[.agg #[v', .int .i64 tn], .int .i64 (setE (ws.take tn) f cnt k x)]) ∧ Rd w' v' (setM ws tn f fr cnt k x) ∧ Below W.heap.size W w' ∧ Frs W v v'
theorem set_no {ws : List Int} {tn : Nat} {f cnt k x : Int} (h : setB (ws.take tn) f cnt k x = false) : setE (ws.take tn) f cnt k x = 1 ∧ ∀ fr, setM ws tn f fr cnt k x = ws :=
  ⟨by unfold setE; rw [h]; rfl, fun fr => by unfold setM; rw [h]; rfl⟩
theorem set_yes {ws : List Int} {tn : Nat} {f cnt k x : Int} (h : setB (ws.take tn) f cnt k x = true) : setE (ws.take tn) f cnt k x = 0 ∧ ∀ fr, setM ws tn f fr cnt k x = ws.set ((f / 4).toNat + 2 + (fr + k).toNat) x :=
  ⟨by unfold setE; rw [h]; rfl, fun fr => by unfold setM; rw [h]; rfl⟩
theorem slot_tn {vs : List Int} {f cnt k : Int} {fr : Nat} (h : slotB vs f cnt k = true) (hc : (fr : Int) + cnt ≤ frN vs f + 6) : ∃ a j : Nat, f / 4 = (a : Int) ∧ k = (j : Int) ∧ lA vs f = (a : Int) ∧ a + 2 + fr + j < vs.length ∧ isF vs f = true := by
  unfold slotB at h
  simp only [Bool.and_eq_true, decide_eq_true_eq] at h
  obtain ⟨h1, h2, h3⟩ := h
  obtain ⟨i1, i2, i3, i4, i5, i6⟩ := isF_in h1
  have h5 := there_in i2
  have hok : lOk vs f = true := by unfold isF at h1; rw [Bool.and_eq_true] at h1; exact h1.1
  refine ⟨(f / 4).toNat, k.toNat, by omega, by omega, by unfold lA; rw [if_pos hok]; omega, by omega, h1⟩
theorem set_wraps {a fr j n : Nat} (h : a + 2 + fr + j < n) (hn : n ≤ 17592186043904) : IntKind.i64.wrap ((a : Int) + 2) = (a : Int) + 2 ∧ IntKind.i64.wrap ((a : Int) + 2 + (fr : Int)) = (a : Int) + 2 + (fr : Int) ∧ IntKind.i64.wrap ((a : Int) + 2 + (fr : Int) + (j : Int)) = (a : Int) + 2 + (fr : Int) + (j : Int) :=
  ⟨IntWalk.i64_in _ (by omega), IntWalk.i64_in _ (by omega), IntWalk.i64_in _ (by omega)⟩
set_option maxRecDepth 100000 in
set_option maxHeartbeats 4000000 in
theorem rset_f (v : Value) (ws : List Int) (tn : Nat) (f i x : Int) (w : World) (hr : Rd w v ws) (hf : Fit ws) (ht : tn ≤ ws.length) (hm20 : ws.length ≤ 17592186043904) (hw : (Lit.int .u64 f).wf = true) (hi : -9223372036854775808 ≤ i ∧ i ≤ 9223372036854775807) (hx : (Lit.int .u64 x).wf = true) :
    Calls Try.prog 10 #[.agg #[v, .int .i64 tn], .int .u64 f, .int .i64 0, .int .i64 i, .int .u64 x] w (RSPost w v ws tn f 0 6 i x) := by
  have HWD := Lib.hid (fun (wx : World) (hb : Below w.heap.size w wx) => rword_f v ws tn f i wx (hr.keep hb) hf ht (by omega) hw hi)
  have HGD := Lib.hid (fun (wx : World) (hb : Below w.heap.size w wx) => good16_any v ws tn x wx (hr.keep hb) hf ht (by omega) hx)
  have HIS := Lib.hid (fun (wx : World) (hb : Below w.heap.size w wx) => ris_f v ws tn f w wx hr hb hf ht (by omega) hw)
  have HCP := Lib.hid (fun (wx : World) (hb : Below w.heap.size w wx) => copy13_any v ws tn wx (hr.keep hb))
  have HR := Lib.hid hr
  obtain ⟨p, c, rfl, hm⟩ := rd_form0 hr
  have HSB := Lib.hid (fun h => set_no (ws := ws) (tn := tn) (f := f) (cnt := 6) (k := i) (x := x) h)
  have HSY := Lib.hid (fun h => set_yes (ws := ws) (tn := tn) (f := f) (cnt := 6) (k := i) (x := x) h)
  have hvl : (ws.take tn).length ≤ ws.length := by rw [List.length_take]; omega
  obtain ⟨vs, hvs⟩ : ∃ vs, ws.take tn = vs := ⟨_, rfl⟩
  rw [hvs] at HWD HGD HIS HSB HSY hvl
  have HST := Lib.hid (fun (h : slotB vs f 6 i = true) => slot_tn (fr := 0) h (by have := frN_le vs f; unfold slotB at h; simp only [Bool.and_eq_true, decide_eq_true_eq] at h; obtain ⟨i1, i2, i3, i4, i5, i6⟩ := isF_in h.1; omega))
  have HVS := Lib.hid hvs
  clear hr hf hvs
  go_enter Try.func10, Try.ntmps10
  go_upto_region 1 with fail
  generalize hW0 : World.alloc (World.alloc w _) _ = W0
  have HRB := Lib.hid (show RB w W0 p ws.length c tn by rw [← hW0]; exact RB.new _ _ _ _ _ _ _)
  obtain ⟨_, _, _, _, y4, y5, _, _⟩ := HRB.out
  clear hW0
  go_wp2_with fail
  refine (HWD.out _ HRB.out.bel).mono ?_
  rintro e w1 ⟨rfl, hb1⟩
  have HRB1 := Lib.hid (HRB.out.keep hb1)
  clear hb1 y4 y5 HRB
  cases hsb : slotB vs f 6 i with
  | false =>
    have HE := Lib.hid (slot_f hsb 0)
    have HN := Lib.hid (HSB.out (by unfold setB; rw [hsb]; rfl))
    rw [HE.out.1, HE.out.2]
    obtain ⟨y0, y1, y2, y3, y4, y5, _, _⟩ := HRB1.out
    have z2 := two_set (x0 := .slice p ws.length c) (x1 := .int .i64 (tn : Int)) y0 y1
    have HS := Lib.hid (HRB1.out.set (.slice p ws.length c) (.int .i64 (tn : Int)))
    clear hsb
    go_wp2_with fail
    refine bodyPost_ret (v := .tuple #[.agg #[.slice p ws.length c, .int .i64 (tn : Int)], .int .i64 1]) (by simp [results, Try.results10, go_sem, z2.1, z2.2]) rfl ?_
    exact ⟨.slice p ws.length c, by rw [HVS.out, HN.out.1], by (try rw [HVS.out]); rw [HN.out.2]; exact HR.out.keep HS.out.1, HS.out.1, .inl rfl⟩
  | true =>
    obtain ⟨a, j, ha, rfl, hla, hin, hF⟩ := HST.out hsb
    have HE := Lib.hid (show slotE vs f 6 (j : Int) = 0 by unfold slotE; rw [if_pos hsb])
    obtain ⟨u, hu⟩ : ∃ u, slotV vs f 0 6 (j : Int) = u := ⟨_, rfl⟩
    rw [HE.out, hu]
    have HSS := Lib.hid hsb
    have HAA := Lib.hid ha
    clear hu hsb ha
    obtain ⟨y0, y1, y2, y3, y4, y5, _, _⟩ := HRB1.out
    go_wp2_with fail
    refine (HGD.out _ HRB1.out.bel).mono ?_
    rintro e w2 ⟨rfl, hb2⟩
    have HRB2 := Lib.hid (HRB1.out.keep hb2)
    clear hb2 y0 y1 y2 y3 y4 y5 HRB1
    cases hgd : goodW vs x with
    | false =>
      have HN := Lib.hid (HSB.out (by unfold setB; rw [HSS.out, hgd]; rfl))
      obtain ⟨y0, y1, y2, y3, y4, y5, _, _⟩ := HRB2.out
      have z2 := two_set (x0 := .slice p ws.length c) (x1 := .int .i64 (tn : Int)) y0 y1
      have HS := Lib.hid (HRB2.out.set (.slice p ws.length c) (.int .i64 (tn : Int)))
      clear hgd
      go_wp2_with fail
      refine bodyPost_ret (v := .tuple #[.agg #[.slice p ws.length c, .int .i64 (tn : Int)], .int .i64 1]) (by simp [results, Try.results10, go_sem, z2.1, z2.2]) rfl ?_
      exact ⟨.slice p ws.length c, by rw [HVS.out, HN.out.1], by (try rw [HVS.out]); rw [HN.out.2]; exact HR.out.keep HS.out.1, HS.out.1, .inl rfl⟩
    | true =>
      have HN := Lib.hid (HSY.out (by unfold setB; rw [HSS.out, hgd]; rfl))
      obtain ⟨y0, y1, y2, y3, y4, y5, _, _⟩ := HRB2.out
      clear hgd
      go_wp2_with fail
      refine (HIS.out _ HRB2.out.bel).mono ?_
      rintro e w3 ⟨tv, rv, rfl, hr1, hr2, hb3⟩
      have HRB3 := Lib.hid (HRB2.out.keep hb3)
      obtain ⟨p1, c1, rfl, _⟩ := rd_form0 (hr1 _ (Below.refl _ _))
      obtain ⟨p2, c2, rfl, _⟩ := rd_form0 (hr2 _ (Below.refl _ _))
      rw [hla]
      clear hr1 hr2 hb3 y0 y1 y2 y3 y4 y5 HRB2
      go_upto_region 5 with fail
      generalize hw4 : World.alloc w3 _ = w4
      have hb4 : Below w3.heap.size w3 w4 := by rw [← hw4]; exact (Below.refl _ _).alloc (Nat.le_refl _) _
      have k0 : w4.cell? ⟨w3.heap.size, 0, none⟩ = some (.int .i64 a) := by rw [← hw4]; simp
      have hz3 : w3.heap.size < w4.heap.size := by rw [← hw4]; simp
      have HRB4 := Lib.hid (HRB3.out.keep hb4)
      have HK0 := Lib.hid k0
      obtain ⟨_, _, _, _, y4, y5, hs4, _⟩ := HRB4.out
      have hs3 := HRB3.out.sz
      clear hw4 hb4 HRB3
      go_wp2_with fail
      refine (HCP.out _ HRB4.out.bel).mono ?_
      rintro e w5 ⟨v', rfl, hown, hb5⟩
      obtain ⟨g, cap, rfl, hg, hcap, hrow⟩ := row_own hown (by omega)
      have HRB5 := Lib.hid (HRB4.out.keep hb5)
      have k0 := below_cell hb5 k0
      have HROW := Lib.hid hrow
      have hgl := hrow.lt
      have hs5 := hb5.size
      clear hown hrow hb5 y4 y5 HRB4 HK0
      go_upto_region 6 with fail
      generalize hw6 : World.alloc w5 _ = w6
      have hb6 : Below w5.heap.size w5 w6 := by rw [← hw6]; exact (Below.refl _ _).alloc (Nat.le_refl _) _
      have b0 : w6.cell? ⟨w5.heap.size, 0, none⟩ = some (.slice (some ⟨g, 0, none⟩) ws.length cap) := by rw [← hw6]; simp
      have b1 : w6.cell? ⟨w5.heap.size, 1, none⟩ = some (.int .i64 tn) := by rw [← hw6]; simp
      have k0 := below_cell hb6 k0
      have HRB6 := Lib.hid (HRB5.out.keep hb6)
      have HMA := Lib.hid (show MA w6 w5.heap.size g ws.length cap tn (fun i => ws.getD i 0) from
        ⟨b0, b1, by rw [← hw6]; simp, HROW.out.block (hb6.block g hgl), hcap, hm20, by omega⟩)
      have hs6 : w5.heap.size < w6.heap.size := by rw [← hw6]; simp
      clear hw6 hb6 HRB5
      have hq : a + 2 + 0 + j < ws.length := by omega
      have hcq := HMA.out.row.cell hcap hq
      have hfq := HMA.out.row.frozen (a + 2 + 0 + j)
      have HN2 := Lib.hid ((((AL.start HMA.out 0).set (a + 2 + 0 + j) x).same (fun i => upd_set ws _ x hq i)))
      generalize ws.getD (a + 2 + 0 + j) 0 = x0 at hcq
      obtain ⟨n1, n2, n3⟩ := set_wraps (fr := 0) hq hm20
      have g1 : decide ((ws.length : Int) ≤ (a : Int) + 2 + 0 + (j : Int)) = false := by rw [decide_eq_false_iff_not]; omega
      have g2 : (a : Int) + 2 + 0 + (j : Int) < (ws.length : Int) := by omega
      have e1 : ((a : Int) + 2 + 0 + (j : Int)).toNat = a + 2 + 0 + j := by omega
      obtain ⟨y0, y1, y2, y3, y4, y5, _, _⟩ := HRB6.out
      go_upto_region 7 with fail
      generalize hw7 : World.setCell w6 _ _ = w7
      have HAL := Lib.hid (show AL w6 w5.heap.size g ws.length cap tn (fun i => (ws.set (a + 2 + 0 + j) x).getD i 0) w7 by rw [← hw7]; exact HN2.out)
      have c0 := HAL.out.box0
      have c1 := HAL.out.box1
      have HRB7 := Lib.hid (HRB6.out.of (HAL.out.below HRB6.out.bel (by omega) (by omega)) (fun X hX => HAL.out.but.block X (by omega) (by omega) (by omega)) (by have := HAL.out.but.size; omega))
      obtain ⟨y0, y1, y2, y3, y4, y5, _, _⟩ := HRB7.out
      have z2 := two_set (x0 := .slice (some ⟨g, 0, none⟩) ws.length cap) (x1 := .int .i64 (tn : Int)) y0 y1
      have HS := Lib.hid (HRB7.out.set (.slice (some ⟨g, 0, none⟩) ws.length cap) (.int .i64 (tn : Int)))
      clear hw7 HN2 hcq hfq n1 n2 n3 g1 g2 e1
      go_wp2_with fail
      refine bodyPost_ret (v := .tuple #[.agg #[.slice (some ⟨g, 0, none⟩) ws.length cap, .int .i64 (tn : Int)], .int .i64 0]) (by simp [results, Try.results10, go_sem, z2.1, z2.2]) rfl ?_
      refine ⟨.slice (some ⟨g, 0, none⟩) ws.length cap, by rw [HVS.out, HN.out.1], ?_, HS.out.1, .inr ⟨g, _, _, rfl, by omega⟩⟩
      (try rw [HVS.out])
      rw [HN.out.2, HAA.out, Int.toNat_natCast, show ((0 : Int) + (j : Int)).toNat = 0 + j by omega, ← Nat.add_assoc]
      exact row_rd (HAL.out.row.block (HS.out.2 g (by omega))) hcap hm20 (by simp)
set_option maxRecDepth 100000 in
set_option maxHeartbeats 4000000 in
theorem rset_r (v : Value) (ws : List Int) (tn : Nat) (f i x : Int) (w : World) (hr : Rd w v ws) (hf : Fit ws) (ht : tn ≤ ws.length) (hm20 : ws.length ≤ 17592186043904) (hw : (Lit.int .u64 f).wf = true) (hi : -9223372036854775808 ≤ i ∧ i ≤ 9223372036854775807) (hx : (Lit.int .u64 x).wf = true) :
    Calls Try.prog 10 #[.agg #[v, .int .i64 tn], .int .u64 f, .int .i64 6, .int .i64 i, .int .u64 x] w (RSPost w v ws tn f 6 (frN (ws.take tn) f) i x) := by
  have HWD := Lib.hid (fun (wx : World) (hb : Below w.heap.size w wx) => rword_r v ws tn f i wx (hr.keep hb) hf ht (by omega) hw hi)
  have HGD := Lib.hid (fun (wx : World) (hb : Below w.heap.size w wx) => good16_any v ws tn x wx (hr.keep hb) hf ht (by omega) hx)
  have HIS := Lib.hid (fun (wx : World) (hb : Below w.heap.size w wx) => ris_f v ws tn f w wx hr hb hf ht (by omega) hw)
  have HCP := Lib.hid (fun (wx : World) (hb : Below w.heap.size w wx) => copy13_any v ws tn wx (hr.keep hb))
  have HR := Lib.hid hr
  obtain ⟨p, c, rfl, hm⟩ := rd_form0 hr
  have HSB := Lib.hid (fun h => set_no (ws := ws) (tn := tn) (f := f) (cnt := (frN (ws.take tn) f)) (k := i) (x := x) h)
  have HSY := Lib.hid (fun h => set_yes (ws := ws) (tn := tn) (f := f) (cnt := (frN (ws.take tn) f)) (k := i) (x := x) h)
  have hvl : (ws.take tn).length ≤ ws.length := by rw [List.length_take]; omega
  obtain ⟨vs, hvs⟩ : ∃ vs, ws.take tn = vs := ⟨_, rfl⟩
  rw [hvs] at HWD HGD HIS HSB HSY hvl
  have HST := Lib.hid (fun (h : slotB vs f (frN vs f) i = true) => slot_tn (fr := 6) h (by omega))
  have HVS := Lib.hid hvs
  clear hr hf hvs
  go_enter Try.func10, Try.ntmps10
  go_upto_region 1 with fail
  generalize hW0 : World.alloc (World.alloc w _) _ = W0
  have HRB := Lib.hid (show RB w W0 p ws.length c tn by rw [← hW0]; exact RB.new _ _ _ _ _ _ _)
  obtain ⟨_, _, _, _, y4, y5, _, _⟩ := HRB.out
  clear hW0
  go_wp2_with fail
  refine (HWD.out _ HRB.out.bel).mono ?_
  rintro e w1 ⟨rfl, hb1⟩
  have HRB1 := Lib.hid (HRB.out.keep hb1)
  clear hb1 y4 y5 HRB
  cases hsb : slotB vs f (frN vs f) i with
  | false =>
    have HE := Lib.hid (slot_f hsb 6)
    have HN := Lib.hid (HSB.out (by unfold setB; rw [hsb]; rfl))
    rw [HE.out.1, HE.out.2]
    obtain ⟨y0, y1, y2, y3, y4, y5, _, _⟩ := HRB1.out
    have z2 := two_set (x0 := .slice p ws.length c) (x1 := .int .i64 (tn : Int)) y0 y1
    have HS := Lib.hid (HRB1.out.set (.slice p ws.length c) (.int .i64 (tn : Int)))
    clear hsb
    go_wp2_with fail
    refine bodyPost_ret (v := .tuple #[.agg #[.slice p ws.length c, .int .i64 (tn : Int)], .int .i64 1]) (by simp [results, Try.results10, go_sem, z2.1, z2.2]) rfl ?_
    exact ⟨.slice p ws.length c, by rw [HVS.out, HN.out.1], by (try rw [HVS.out]); rw [HN.out.2]; exact HR.out.keep HS.out.1, HS.out.1, .inl rfl⟩
  | true =>
    obtain ⟨a, j, ha, rfl, hla, hin, hF⟩ := HST.out hsb
    have HE := Lib.hid (show slotE vs f (frN vs f) (j : Int) = 0 by unfold slotE; rw [if_pos hsb])
    obtain ⟨u, hu⟩ : ∃ u, slotV vs f 6 (frN vs f) (j : Int) = u := ⟨_, rfl⟩
    rw [HE.out, hu]
    have HSS := Lib.hid hsb
    have HAA := Lib.hid ha
    clear hu hsb ha
    obtain ⟨y0, y1, y2, y3, y4, y5, _, _⟩ := HRB1.out
    go_wp2_with fail
    refine (HGD.out _ HRB1.out.bel).mono ?_
    rintro e w2 ⟨rfl, hb2⟩
    have HRB2 := Lib.hid (HRB1.out.keep hb2)
    clear hb2 y0 y1 y2 y3 y4 y5 HRB1
    cases hgd : goodW vs x with
    | false =>
      have HN := Lib.hid (HSB.out (by unfold setB; rw [HSS.out, hgd]; rfl))
      obtain ⟨y0, y1, y2, y3, y4, y5, _, _⟩ := HRB2.out
      have z2 := two_set (x0 := .slice p ws.length c) (x1 := .int .i64 (tn : Int)) y0 y1
      have HS := Lib.hid (HRB2.out.set (.slice p ws.length c) (.int .i64 (tn : Int)))
      clear hgd
      go_wp2_with fail
      refine bodyPost_ret (v := .tuple #[.agg #[.slice p ws.length c, .int .i64 (tn : Int)], .int .i64 1]) (by simp [results, Try.results10, go_sem, z2.1, z2.2]) rfl ?_
      exact ⟨.slice p ws.length c, by rw [HVS.out, HN.out.1], by (try rw [HVS.out]); rw [HN.out.2]; exact HR.out.keep HS.out.1, HS.out.1, .inl rfl⟩
    | true =>
      have HN := Lib.hid (HSY.out (by unfold setB; rw [HSS.out, hgd]; rfl))
      obtain ⟨y0, y1, y2, y3, y4, y5, _, _⟩ := HRB2.out
      clear hgd
      go_wp2_with fail
      refine (HIS.out _ HRB2.out.bel).mono ?_
      rintro e w3 ⟨tv, rv, rfl, hr1, hr2, hb3⟩
      have HRB3 := Lib.hid (HRB2.out.keep hb3)
      obtain ⟨p1, c1, rfl, _⟩ := rd_form0 (hr1 _ (Below.refl _ _))
      obtain ⟨p2, c2, rfl, _⟩ := rd_form0 (hr2 _ (Below.refl _ _))
      rw [hla]
      clear hr1 hr2 hb3 y0 y1 y2 y3 y4 y5 HRB2
      go_upto_region 5 with fail
      generalize hw4 : World.alloc w3 _ = w4
      have hb4 : Below w3.heap.size w3 w4 := by rw [← hw4]; exact (Below.refl _ _).alloc (Nat.le_refl _) _
      have k0 : w4.cell? ⟨w3.heap.size, 0, none⟩ = some (.int .i64 a) := by rw [← hw4]; simp
      have hz3 : w3.heap.size < w4.heap.size := by rw [← hw4]; simp
      have HRB4 := Lib.hid (HRB3.out.keep hb4)
      have HK0 := Lib.hid k0
      obtain ⟨_, _, _, _, y4, y5, hs4, _⟩ := HRB4.out
      have hs3 := HRB3.out.sz
      clear hw4 hb4 HRB3
      go_wp2_with fail
      refine (HCP.out _ HRB4.out.bel).mono ?_
      rintro e w5 ⟨v', rfl, hown, hb5⟩
      obtain ⟨g, cap, rfl, hg, hcap, hrow⟩ := row_own hown (by omega)
      have HRB5 := Lib.hid (HRB4.out.keep hb5)
      have k0 := below_cell hb5 k0
      have HROW := Lib.hid hrow
      have hgl := hrow.lt
      have hs5 := hb5.size
      clear hown hrow hb5 y4 y5 HRB4 HK0
      go_upto_region 6 with fail
      generalize hw6 : World.alloc w5 _ = w6
      have hb6 : Below w5.heap.size w5 w6 := by rw [← hw6]; exact (Below.refl _ _).alloc (Nat.le_refl _) _
      have b0 : w6.cell? ⟨w5.heap.size, 0, none⟩ = some (.slice (some ⟨g, 0, none⟩) ws.length cap) := by rw [← hw6]; simp
      have b1 : w6.cell? ⟨w5.heap.size, 1, none⟩ = some (.int .i64 tn) := by rw [← hw6]; simp
      have k0 := below_cell hb6 k0
      have HRB6 := Lib.hid (HRB5.out.keep hb6)
      have HMA := Lib.hid (show MA w6 w5.heap.size g ws.length cap tn (fun i => ws.getD i 0) from
        ⟨b0, b1, by rw [← hw6]; simp, HROW.out.block (hb6.block g hgl), hcap, hm20, by omega⟩)
      have hs6 : w5.heap.size < w6.heap.size := by rw [← hw6]; simp
      clear hw6 hb6 HRB5
      have hq : a + 2 + 6 + j < ws.length := by omega
      have hcq := HMA.out.row.cell hcap hq
      have hfq := HMA.out.row.frozen (a + 2 + 6 + j)
      have HN2 := Lib.hid ((((AL.start HMA.out 0).set (a + 2 + 6 + j) x).same (fun i => upd_set ws _ x hq i)))
      generalize ws.getD (a + 2 + 6 + j) 0 = x0 at hcq
      obtain ⟨n1, n2, n3⟩ := set_wraps (fr := 6) hq hm20
      have g1 : decide ((ws.length : Int) ≤ (a : Int) + 2 + 6 + (j : Int)) = false := by rw [decide_eq_false_iff_not]; omega
      have g2 : (a : Int) + 2 + 6 + (j : Int) < (ws.length : Int) := by omega
      have e1 : ((a : Int) + 2 + 6 + (j : Int)).toNat = a + 2 + 6 + j := by omega
      obtain ⟨y0, y1, y2, y3, y4, y5, _, _⟩ := HRB6.out
      go_upto_region 7 with fail
      generalize hw7 : World.setCell w6 _ _ = w7
      have HAL := Lib.hid (show AL w6 w5.heap.size g ws.length cap tn (fun i => (ws.set (a + 2 + 6 + j) x).getD i 0) w7 by rw [← hw7]; exact HN2.out)
      have c0 := HAL.out.box0
      have c1 := HAL.out.box1
      have HRB7 := Lib.hid (HRB6.out.of (HAL.out.below HRB6.out.bel (by omega) (by omega)) (fun X hX => HAL.out.but.block X (by omega) (by omega) (by omega)) (by have := HAL.out.but.size; omega))
      obtain ⟨y0, y1, y2, y3, y4, y5, _, _⟩ := HRB7.out
      have z2 := two_set (x0 := .slice (some ⟨g, 0, none⟩) ws.length cap) (x1 := .int .i64 (tn : Int)) y0 y1
      have HS := Lib.hid (HRB7.out.set (.slice (some ⟨g, 0, none⟩) ws.length cap) (.int .i64 (tn : Int)))
      clear hw7 HN2 hcq hfq n1 n2 n3 g1 g2 e1
      go_wp2_with fail
      refine bodyPost_ret (v := .tuple #[.agg #[.slice (some ⟨g, 0, none⟩) ws.length cap, .int .i64 (tn : Int)], .int .i64 0]) (by simp [results, Try.results10, go_sem, z2.1, z2.2]) rfl ?_
      refine ⟨.slice (some ⟨g, 0, none⟩) ws.length cap, by rw [HVS.out, HN.out.1], ?_, HS.out.1, .inr ⟨g, _, _, rfl, by omega⟩⟩
      (try rw [HVS.out])
      rw [HN.out.2, HAA.out, Int.toNat_natCast, show ((6 : Int) + (j : Int)).toNat = 6 + j by omega, ← Nat.add_assoc]
      exact row_rd (HAL.out.row.block (HS.out.2 g (by omega))) hcap hm20 (by simp)
end
section
open Go Go.ChangeShapes Go.WideShapes Go.ChangeAt Go.RowKit
set_option linter.unusedVariables false
set_option linter.unusedSimpArgs false
def clrM (ws : List Int) (tn : Nat) (f : Int) (live : List Nat) : List Int := if isF (ws.take tn) f = true then clrL ws (f / 4).toNat live (frN (ws.take tn) f).toNat else ws
theorem clrM_len (ws : List Int) (tn : Nat) (f : Int) (live : List Nat) : (clrM ws tn f live).length = ws.length := by unfold clrM; split <;> simp [clr_len]
def RCPost (W : World) (v : Value) (ws : List Int) (tn : Nat) (f : Int) (live : List Nat) (e : Ending) (w' : World) : Prop :=
  ∃ v', e = .returned (.tuple #[.agg #[v', .int .i64 tn], .int .i64 (regE (ws.take tn) f)]) ∧ Rd w' v' (clrM ws tn f live) ∧ Below W.heap.size W w' ∧ Frs W v v'
theorem clr_succ (ws : List Int) (a : Nat) (live : List Nat) (k : Nat) : clrL ws a live (k + 1) = if hasW live k = true then clrL ws a live k else (clrL ws a live k).set (a + 8 + k) 14 := rfl
theorem clr_wraps {a k n : Nat} (h : a + 8 + k < n) (hn : n ≤ 17592186043904) : IntKind.i64.wrap ((a : Int) + 8) = (a : Int) + 8 ∧ IntKind.i64.wrap ((a : Int) + 8 + (k : Int)) = (a : Int) + 8 + (k : Int) :=
  ⟨IntWalk.i64_in _ (by omega), IntWalk.i64_in _ (by omega)⟩
set_option maxRecDepth 100000 in
set_option maxHeartbeats 4000000 in
theorem rclear_any (v : Value) (ws : List Int) (tn : Nat) (f : Int) (lv : Value) (live : List Nat) (w : World) (hr : Rd w v ws) (hf : Fit ws) (ht : tn ≤ ws.length) (hm20 : ws.length ≤ 17592186043904) (hw : (Lit.int .u64 f).wf = true) (hlv : Rw w lv live) :
    Calls Try.prog 13 #[.agg #[v, .int .i64 tn], .int .u64 f, lv] w (RCPost w v ws tn f live) := by
  have HIS := Lib.hid (fun (wx : World) (hb : Below w.heap.size w wx) => ris_f v ws tn f w wx hr hb hf ht (by omega) hw)
  have HCP := Lib.hid (fun (wx : World) (hb : Below w.heap.size w wx) => copy13_any v ws tn wx (hr.keep hb))
  have HIB := Lib.hid (fun (wx : World) (hb : Below w.heap.size w wx) (q : Nat) (hq : q < 9223372036854775808) => is_any lv live (q : Int) wx ⟨hlv.1.keep hb, hlv.2⟩ (by omega) (by omega))
  have HR := Lib.hid hr
  obtain ⟨p, c, rfl, hm⟩ := rd_form0 hr
  obtain ⟨pl, cl, rfl, _⟩ := rd_form0 hlv.1
  have hvl : (ws.take tn).length ≤ ws.length := by rw [List.length_take]; omega
  obtain ⟨vs, hvs⟩ : ∃ vs, ws.take tn = vs := ⟨_, rfl⟩
  rw [hvs] at HIS hvl
  have HVS := Lib.hid hvs
  clear hr hf hvs hlv
  go_enter Try.func13, Try.ntmps13
  go_upto_region 1 with fail
  generalize hW0 : World.alloc (World.alloc w _) _ = W0
  have HRB := Lib.hid (show RB w W0 p ws.length c tn by rw [← hW0]; exact RB.new _ _ _ _ _ _ _)
  obtain ⟨_, _, _, _, y4, y5, _, _⟩ := HRB.out
  clear hW0
  go_wp2_with fail
  refine (HIS.out _ HRB.out.bel).mono ?_
  rintro e w3 ⟨tv, rv, rfl, hr1, hr2, hb3⟩
  have HRB3 := Lib.hid (HRB.out.keep hb3)
  obtain ⟨p1, c1, rfl, _⟩ := rd_form0 (hr1 _ (Below.refl _ _))
  obtain ⟨p2, c2, rfl, _⟩ := rd_form0 (hr2 _ (Below.refl _ _))
  clear hr1 hr2 hb3 y4 y5 HRB
  go_upto_region 2 with fail
  generalize hw4 : World.alloc w3 _ = w4
  have hb4 : Below w3.heap.size w3 w4 := by rw [← hw4]; exact (Below.refl _ _).alloc (Nat.le_refl _) _
  have k0 : w4.cell? ⟨w3.heap.size, 0, none⟩ = some (.int .i64 (lA vs f)) := by rw [← hw4]; simp
  have k2 : w4.cell? ⟨w3.heap.size, 2, none⟩ = some (.slice p1 (tagL vs f).length c1) := by rw [← hw4]; simp
  have hz3 : w3.heap.size < w4.heap.size := by rw [← hw4]; simp
  have HRB4 := Lib.hid (HRB3.out.keep hb4)
  obtain ⟨y0, y1, y2, y3, y4, y5, hs4, _⟩ := HRB4.out
  have hs3 := HRB3.out.sz
  clear hw4 hb4 HRB3
  cases hF : isF vs f with
  | false =>
    have HE := Lib.hid (show regE vs f = 1 by unfold regE; rw [hF]; rfl)
    have HM := Lib.hid (show clrM ws tn f live = ws by unfold clrM; rw [HVS.out, hF]; rfl)
    have z2 := two_set (x0 := .slice p ws.length c) (x1 := .int .i64 (tn : Int)) y0 y1
    have HS := Lib.hid (HRB4.out.set (.slice p ws.length c) (.int .i64 (tn : Int)))
    clear hF k0 k2
    go_wp2_with fail
    refine bodyPost_ret (v := .tuple #[.agg #[.slice p ws.length c, .int .i64 (tn : Int)], .int .i64 1]) (by simp [results, Try.results13, go_sem, z2.1, z2.2]) rfl ?_
    exact ⟨.slice p ws.length c, by rw [HVS.out, HE.out], by rw [HM.out]; exact HR.out.keep HS.out.1, HS.out.1, .inl rfl⟩
  | true =>
    obtain ⟨n, hn, hl, hn1, hn2, hg⟩ := isF_tag hF
    have HE := Lib.hid (show regE vs f = 0 by unfold regE; rw [hF]; rfl)
    obtain ⟨i1, i2, i3, i4, i5, i6⟩ := isF_in hF
    obtain ⟨a, ha⟩ : ∃ a : Nat, f / 4 = (a : Int) := ⟨(f / 4).toNat, by have := kind_nat i1; omega⟩
    have HM := Lib.hid (show clrM ws tn f live = clrL ws a live n by unfold clrM; rw [HVS.out, hF, ha, hn]; rfl)
    have hok : lOk vs f = true := by unfold isF at hF; rw [Bool.and_eq_true] at hF; exact hF.1
    have hla : lA vs f = (a : Int) := by unfold lA; rw [if_pos hok, ha]
    have hin : a + 8 + n ≤ ws.length := by rw [ha] at hn2; omega
    rw [hla] at k0
    rw [hl] at k2
    clear hF hg i1 i2 i3 i4 i5 i6 ha hok hn2 hn
    go_wp2_with fail
    refine (HCP.out _ HRB4.out.bel).mono ?_
    rintro e w5 ⟨v', rfl, hown, hb5⟩
    obtain ⟨g, cap, rfl, hg, hcap, hrow⟩ := row_own hown (by omega)
    have HRB5 := Lib.hid (HRB4.out.keep hb5)
    have k0 := below_cell hb5 k0
    have k2 := below_cell hb5 k2
    have HROW := Lib.hid hrow
    have hgl := hrow.lt
    have hs5 := hb5.size
    clear hown hrow hb5 y0 y1 y2 y3 y4 y5 HRB4
    go_wp2_with fail
    generalize hw6 : World.alloc w5 _ = w6
    have hb6 : Below w5.heap.size w5 w6 := by rw [← hw6]; exact (Below.refl _ _).alloc (Nat.le_refl _) _
    have k0 := below_cell hb6 k0
    have k2 := below_cell hb6 k2
    have HRB6 := Lib.hid (HRB5.out.keep hb6)
    have HS6 := Lib.hid (AL.start (show MA w6 w5.heap.size g ws.length cap tn (fun i => ws.getD i 0) from
      ⟨by rw [← hw6]; simp, by rw [← hw6]; simp, by rw [← hw6]; simp, HROW.out.block (hb6.block g hgl), hcap, hm20, by omega⟩) 0)
    have hs6 : w5.heap.size < w6.heap.size := by rw [← hw6]; simp
    clear hw6 hb6 HRB5 HROW
    go_loopw [11] (fun s wr => ∃ k : Nat, s = .int .i64 k ∧ k ≤ n ∧ AL w6 w5.heap.size g ws.length cap tn (fun i => (clrL ws a live k).getD i 0) wr) (fun s _ => n - (intOf s).toNat)
    case atStart => exact ⟨0, by go_num, Nat.zero_le _, HS6.out⟩
    case round =>
      obtain ⟨k, rfl, hk, hS⟩ := hrel
      have b0 := hS.box0
      have b1 := hS.box1
      have hBW := hS.below HRB6.out.bel (by omega) (by omega)
      have k0 := hS.cellAt k0 (by omega) (by omega) (by omega)
      have k2 := hS.cellAt k2 (by omega) (by omega) (by omega)
      by_cases hlt : k < n
      · have hlz : (k : Int) < (n : Int) := by omega
        have HSU := Lib.hid (clr_succ ws a live k)
        have HB := Lib.hid (show isB live (k : Int) = hasW live k from isB_nat live k)
        cases hh : hasW live k with
        | true =>
          rw [hh] at HB HSU
          have HK := Lib.hid hS
          clear hS
          go_wp2_with (first | (go_at_call 37; (with_reducible refine (HIB.out _ hBW k (by omega)).mono ?_); rintro e w9 ⟨rfl, rfl⟩; rw [HB.out]) | fail)
          go_roundw
          case rel => exact ⟨k + 1, by go_num, hlt, by rw [HSU.out, if_pos (by first | trivial | rfl)]; exact HK.out⟩
          case measure => simp [intOf]; omega
        | false =>
          rw [hh] at HB HSU
          have hq : a + 8 + k < ws.length := by omega
          have hcq := hS.row.cell hcap hq
          have hfq := hS.row.frozen (a + 8 + k)
          have HN2 := Lib.hid ((hS.set (a + 8 + k) 14).same (fun i => upd_set (clrL ws a live k) _ 14 (by rw [clr_len]; exact hq) i))
          have hcq' : wr.cell? ⟨g, a + 8 + k, none⟩ = some (.int .u64 ((clrL ws a live k).getD (a + 8 + k) 0)) := hcq
          generalize (clrL ws a live k).getD (a + 8 + k) 0 = x0 at hcq'
          obtain ⟨n1, n2⟩ := clr_wraps hq hm20
          have g1 : decide ((ws.length : Int) ≤ (a : Int) + 8 + (k : Int)) = false := by rw [decide_eq_false_iff_not]; omega
          have g2 : (a : Int) + 8 + (k : Int) < (ws.length : Int) := by omega
          have e1 : ((a : Int) + 8 + (k : Int)).toNat = a + 8 + k := by omega
          clear hS hcq
          go_wp2_with (first | (go_at_call 37; (with_reducible refine (HIB.out _ hBW k (by omega)).mono ?_); rintro e w9 ⟨rfl, rfl⟩; rw [HB.out]) | fail)
          go_roundw
          case rel => exact ⟨k + 1, by go_num, hlt, by rw [HSU.out, if_neg (by simp)]; exact HN2.out⟩
          case measure => simp [intOf]; omega
      · obtain rfl : k = n := by omega
        have hlz : ¬ (k : Int) < (k : Int) := by omega
        have HRB7 := Lib.hid (HRB6.out.of hBW (fun X hX => hS.but.block X (by omega) (by omega) (by omega)) (by have := hS.but.size; omega))
        obtain ⟨y0, y1, y2, y3, y4, y5, _, _⟩ := HRB7.out
        have z2 := two_set (x0 := .slice (some ⟨g, 0, none⟩) ws.length cap) (x1 := .int .i64 (tn : Int)) y0 y1
        have HS := Lib.hid (HRB7.out.set (.slice (some ⟨g, 0, none⟩) ws.length cap) (.int .i64 (tn : Int)))
        have HRW := Lib.hid hS.row
        clear hS hBW
        go_wp2_with fail
        refine bodyPost_ret (v := .tuple #[.agg #[.slice (some ⟨g, 0, none⟩) ws.length cap, .int .i64 (tn : Int)], .int .i64 0]) (by simp [results, Try.results13, go_sem, z2.1, z2.2]) rfl ?_
        refine ⟨.slice (some ⟨g, 0, none⟩) ws.length cap, by rw [HVS.out, HE.out], ?_, HS.out.1, .inr ⟨g, _, _, rfl, by omega⟩⟩
        rw [HM.out]
        exact row_rd (HRW.out.block (HS.out.2 g (by omega))) hcap hm20 (clr_len _ _ _ _)
end
section
open Go Go.ChangeShapes Go.WideShapes Go.ChangeAt Go.RowKit
set_option linter.unusedVariables false
set_option linter.unusedSimpArgs false
def PNPost (w : World) (B g c tn : Nat) (ws : List Int) (n : Int) (e : Ending) (w' : World) : Prop :=
  e = .returned (.tuple #[.int .u64 (newW ws.length tn n), .int .i64 (newE ws.length tn n)]) ∧ PM w' B g c (newT ws.length tn n) (newM ws tn n) ∧ But2 B g w w'
set_option maxRecDepth 100000 in
set_option maxHeartbeats 4000000 in
theorem fnew_bad {w : World} {B g c tn : Nat} {ws : List Int} (h : PM w B g c tn ws) (n : Int) (hn : n < 0 ∨ 65536 < n) :
    Calls Try.prog 9 #[.pointer (some ⟨B, 0, none⟩), .int .i64 n] w fun e w' => e = .returned (.tuple #[.int .u64 0, .int .i64 1]) ∧ Below w.heap.size w w' := by
  clear h
  refine calls_of_marks Try.func9 rfl ?_
  simp only [Try.ntmps9, List.size_toArray, List.length_cons, List.length_nil, Nat.reduceAdd, Nat.reduceSub, Array.replicate_succ, Array.replicate_zero, List.push_toArray, List.append_toArray, List.nil_append, List.cons_append]
  have hb1 := Lib.hid (show ∀ o, Below w.heap.size w (w.alloc o) from fun o => (Below.refl _ _).alloc (Nat.le_refl _) _)
  by_cases h0 : n < 0
  · go_wp2_with fail
    exact ⟨_, results_tmp2 rfl _ _ _, rfl, hb1.out _⟩
  · have h6 : 65536 < n := by omega
    go_wp2_with fail
    exact ⟨_, results_tmp2 rfl _ _ _, rfl, hb1.out _⟩
set_option maxRecDepth 100000 in
set_option maxHeartbeats 4000000 in
theorem fnew_full {w : World} {B g c tn : Nat} {ws : List Int} (h : PM w B g c tn ws) (n : Nat) (h1 : 1 ≤ tn) (hn : n ≤ 65536) (hs : ¬ tn + 8 + n ≤ ws.length) :
    Calls Try.prog 9 #[.pointer (some ⟨B, 0, none⟩), .int .i64 (n : Int)] w fun e w' => e = .returned (.tuple #[.int .u64 0, .int .i64 5]) ∧ Below w.heap.size w w' := by
  have ht := h.t1
  have HA := Lib.hid (fun (wx : World) (hx : Below w.heap.size w wx) => alloc_full B g ws.length c tn _ 19 (6 + (n : Int)) 0 wx (h.keep hx).ma (by omega) (by omega))
  have d1 : decide ((n : Int) < 0) = false := by simp
  have d2 : decide ((65536 : Int) < (n : Int)) = false := by simp; omega
  have d3 : decide (65536 < n) = false := by simp; omega
  clear h
  refine calls_of_marks Try.func9 rfl ?_
  simp only [Try.ntmps9, List.size_toArray, List.length_cons, List.length_nil, Nat.reduceAdd, Nat.reduceSub, Array.replicate_succ, Array.replicate_zero, List.push_toArray, List.append_toArray, List.nil_append, List.cons_append]
  go_wp2_with fail
  generalize hw1 : World.alloc w _ = w1
  have HB1 := Lib.hid (show Below w.heap.size w w1 by rw [← hw1]; exact (Below.refl _ _).alloc (Nat.le_refl _) _)
  have y2 : w1.cell? ⟨w.heap.size, 0, none⟩ = some (.pointer (some ⟨B, 0, none⟩)) := by rw [← hw1]; simp
  clear hw1
  refine (HA.out _ HB1.out).mono ?_
  rintro e w2 ⟨rfl, q, rfl⟩
  have HB2 := Lib.hid (below_drewN HB1.out q)
  have y2 : (w1.drewN q).cell? ⟨w.heap.size, 0, none⟩ = some (.pointer (some ⟨B, 0, none⟩)) := y2
  generalize w1.drewN q = w2 at *
  clear HB1
  have y2 := fun o => alloc_cell y2 o
  go_wp2_with fail
  exact ⟨_, results_tmp2 rfl _ _ _, rfl, HB2.out.alloc HB2.out.size _⟩
theorem fnew_any {w : World} {B g c tn : Nat} {ws : List Int} (h : PM w B g c tn ws) (n : Int) (h1 : 1 ≤ tn) (hl : ws.length ≤ 1048576) :
    Calls Try.prog 9 #[.pointer (some ⟨B, 0, none⟩), .int .i64 n] w (PNPost w B g c tn ws n) := by
  have ht := h.t1
  by_cases hb : n < 0 ∨ 65536 < n
  · obtain ⟨r1, r2, r3, r4⟩ := new_one (len := ws.length) (tn := tn) hb
    refine (fnew_bad h n hb).mono ?_
    rintro e w' ⟨rfl, hb⟩
    exact ⟨by rw [r1, r3], by rw [r2, r4 ws rfl]; exact h.keep hb, But2.of_below hb⟩
  · obtain ⟨N, rfl⟩ : ∃ N : Nat, n = (N : Int) := ⟨n.toNat, by omega⟩
    by_cases hroom : tn + 8 + N ≤ ws.length
    · obtain ⟨r1, r2, r3, r4⟩ := new_zero (len := ws.length) (tn := tn) (N := N) (by omega) hroom
      refine (fnew_good h N h1 (by omega) (by omega) (by omega)).mono ?_
      rintro e w' ⟨rfl, hp, hb⟩
      exact ⟨by rw [r1, r3, Int.mul_comm], by rw [r2, r4 ws rfl]; exact hp, hb⟩
    · obtain ⟨r1, r2, r3, r4⟩ := new_five (len := ws.length) (tn := tn) (N := N) (by omega) hroom
      refine (fnew_full h N h1 (by omega) hroom).mono ?_
      rintro e w' ⟨rfl, hb⟩
      exact ⟨by rw [r1, r3], by rw [r2, r4 ws rfl]; exact h.keep hb, But2.of_below hb⟩
set_option maxRecDepth 100000 in
theorem setReg_nil (f k x : Int) (w : World) : Calls Try.prog 12 #[.pointer none, .int .u64 f, .int .i64 k, .int .u64 x] w fun e w' => e = .returned (.int .i64 1) ∧ Below w.heap.size w w' := by
  have HB := Lib.hid (Below.refl w.heap.size w)
  go_enter Try.func12, Try.ntmps12
  go_wp2_with fail
  have HG : Calls Try.prog 34 #[.pointer none, .int .u64 f, .int .i64 6, .int .i64 k, .func (.func 36) #[] #[], .int .u64 x] w fun e w' => e = .returned (.int .i64 1) ∧ w = w' := by
    go_enter Try.func34, Try.ntmps34
    go_wp2_with fail
    go_ret
    exact ⟨rfl, rfl⟩
  refine HG.mono ?_
  rintro e w2 ⟨rfl, rfl⟩
  go_wp2_with fail
  go_ret
  exact ⟨rfl, HB.out⟩
set_option maxRecDepth 100000 in
theorem clear_nil (f : Int) (lv : Value) (w : World) : Calls Try.prog 14 #[.pointer none, .int .u64 f, .slice none 0 0] w fun e w' => e = .returned (.int .i64 1) ∧ Below w.heap.size w w' := by
  have hb1 := Lib.hid (show ∀ o o2, Below w.heap.size w ((w.alloc o).alloc o2) from fun o o2 => ((Below.refl _ _).alloc (Nat.le_refl _) _).alloc (by simp) _)
  refine calls_of_marks Try.func14 rfl ?_
  simp only [Try.ntmps14, List.size_toArray, List.length_cons, List.length_nil, Nat.reduceAdd, Nat.reduceSub, Array.replicate_succ, Array.replicate_zero, List.push_toArray, List.append_toArray, List.nil_append, List.cons_append]
  go_wp2_with fail
  exact ⟨_, results_tmp rfl _ _ _, rfl, hb1.out _ _⟩
end
end Go.Proofs.Ytilonacjmihglaa
