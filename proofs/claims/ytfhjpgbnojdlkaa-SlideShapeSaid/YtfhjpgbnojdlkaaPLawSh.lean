/- The law SlideShape. -/
import Derived.Test.YtfhjpgbnojdlkaaPGSlMa
import Derived.Test.YtfhjpgbnojdlkaaPLawSo
namespace Go.Proofs.Ytfhjpgbnojdlkaa
open Go Go.ChangeShapes Go.WideShapes Go.ChangeAt Go.RowKit
set_option linter.unusedVariables false
set_option linter.unusedSimpArgs false
theorem rd_lenS {w : World} {g n : Nat} {qs : List Int} (h : LU w g qs) (hn : qs.length = n) (hm : n ≤ 17592186043904) : Rd w (.slice (some ⟨g, 0, none⟩) n n) qs := by
  subst hn
  exact (h.mine (B0 := 0) (Nat.zero_le _)).rd hm
/-- The size of a right object. -/
theorem size_ob {ws : List Int} {tn : Nat} {l : List Nat} (ho : Ob ws tn l) {a : Nat} (ha : a ∈ l) (hk : 0 < hK (ws.getD a 0)) : tAt (ws.take tn) (a : Int) = (tgN ws a : Int) ∧ rAt (ws.take tn) (a : Int) = ((szN ws a - 2 - tgN ws a : Nat) : Int) ∧ eAt (ws.take tn) (a : Int) = 0 := by
  have hth := ob_there ho ha hk
  have h1 := ho.in1 a ha
  have h6 := hS_lo (ws.getD a 0)
  have h7 := hT_lo (ws.getD a 0)
  have hsz : (szN ws a : Int) = hS (ws.getD a 0) := by unfold szN; omega
  have htg : (tgN ws a : Int) = hT (ws.getD a 0) := by unfold tgN; omega
  unfold tAt rAt eAt
  rw [if_pos hth, if_pos hth, if_pos hth, at_obj ho ha]
  exact ⟨by omega, by omega, rfl⟩
set_option maxRecDepth 100000 in
set_option maxHeartbeats 8000000 in
theorem law_sshape (v : Value) (ws : List Int) (top : Int) (rv : Value) (rs : List Int) (w : World) (hr : Rd w v ws) (hf : Fit ws) (ht : -9223372036854775808 ≤ top ∧ top ≤ 9223372036854775807) (hrr : Rd w rv rs) (hfr : Fit rs) :
    Calls Try.prog 5 #[.agg #[v, .int .i64 top], rv] w fun e w' => e = .returned (.bool true) ∧ Below w.heap.size w w' := by
  have HR := Lib.hid hr
  have HRR := Lib.hid hrr
  obtain ⟨pv, cv, rfl, hmv⟩ := rd_form0 hr
  obtain ⟨pr, cr, rfl, hmr⟩ := rd_form0 hrr
  have HB0 := Lib.hid (show Below w.heap.size w (w.alloc (Obj.cells #[.slice pv ws.length cv, .int .i64 top] 24)) from (Below.refl _ _).alloc (Nat.le_refl _) _)
  clear hr hrr
  go_enter Try.func5, Try.ntmps5
  go_wp2_with fail
  refine (known14 _).mono ?_
  rintro e w1 ⟨rfl, hb⟩
  have y0 := below_cell hb (a := ⟨w.heap.size, 0, none⟩) (v := .slice pv ws.length cv) (by simp)
  have y1 := below_cell hb (a := ⟨w.heap.size, 1, none⟩) (v := .int .i64 top) (by simp)
  have HB3 := Lib.hid (HB0.out.trans (hb.mono (by simp)))
  have hw3 : w.heap.size < w1.heap.size := World.block_lt_of_cell? w1 _ y0
  clear hb HB0
  go_wp2_with fail
  refine (copy13_any _ ws top w1 (HR.out.keep HB3.out)).mono ?_
  rintro e w4 ⟨v4, rfl, hown, hb⟩
  have hw3' : w.heap.size < w1.heap.size := World.block_lt_of_cell? w1 _ y0
  have y0 := below_cell hb y0
  have y1 := below_cell hb y1
  have HB4 := Lib.hid (HB3.out.trans (hb.mono HB3.out.size))
  have HRR1 := Lib.hid (HRR.out.keep HB3.out)
  have HR4 := Lib.hid (HRR1.out.keep hb)
  have hs34 := hb.size
  have hw4 : w.heap.size < w4.heap.size := World.block_lt_of_cell? w4 _ y0
  have HOWN := Lib.hid hown
  have hv2 : ∃ p c, v4 = .slice p ws.length c := by
    rcases hown.2 with ⟨e, e2⟩ | ⟨g, cap, cur, e, _⟩
    · exact ⟨none, 0, by rw [e, e2]⟩
    · exact ⟨_, _, e⟩
  obtain ⟨p4, c4, rfl⟩ := hv2
  have HRD4 := Lib.hid (rd_own hown hmv)
  have y0a := fun o => alloc_cell y0 o
  have y1a := fun o => alloc_cell y1 o
  have HK34 := Lib.hid hb
  clear hb hown
  go_wp2_with fail
  obtain ⟨w5, hw5⟩ : ∃ w5, w4.alloc (Obj.cells #[.slice p4 ws.length c4, .int .i64 top] 24) = w5 := ⟨_, rfl⟩
  rw [hw5]
  have hb5 : Below w4.heap.size w4 w5 := by rw [← hw5]; exact (Below.refl _ _).alloc (Nat.le_refl _) _
  have z0 : w5.cell? ⟨w4.heap.size, 0, none⟩ = some (.slice p4 ws.length c4) := by rw [← hw5]; simp
  have z1 : w5.cell? ⟨w4.heap.size, 1, none⟩ = some (.int .i64 top) := by rw [← hw5]; simp
  have y0 := below_cell hb5 y0
  have y1 := below_cell hb5 y1
  have HB5 := Lib.hid (HB4.out.trans (hb5.mono HB4.out.size))
  have HR5 := Lib.hid (HR4.out.keep hb5)
  have hs5 : w5.heap.size = w4.heap.size + 1 := by rw [← hw5]; simp
  have HK35 := Lib.hid (HK34.out.trans (hb5.mono HK34.out.size))
  clear y0a y1a
  cases hro : rootsB ws top rs
  · have HE := Lib.hid hro
    refine (collect_bad _ _ ws top _ rs w5 z0 z1 (HRD4.out.keep hb5) hf ht HR5.out hfr hro).mono ?_
    rintro e w6 ⟨rfl, hb⟩
    have HB6 := Lib.hid (HB5.out.trans (hb.mono HB5.out.size))
    have HA6 := Lib.hid (HR5.out.keep hb)
    have HRD6 := Lib.hid ((HRD4.out.keep hb5).keep hb)
    have z0 := below_cell hb z0
    have z1 := below_cell hb z1
    have y0 := below_cell hb y0
    have y1 := below_cell hb y1
    clear hb hro hw5 hb5
    go_wp2_with fail
    refine (right14_any _ ws top _ rs w6 (HR.out.keep HB6.out) hf ht HA6.out hfr).mono ?_
    rintro e w7 ⟨rfl, hb⟩
    rw [HE.out]
    have HB7 := Lib.hid (HB6.out.trans (hb.mono HB6.out.size))
    have HRD7 := Lib.hid (HRD6.out.keep hb)
    have y0 := below_cell hb y0
    have y1 := below_cell hb y1
    have z0 := below_cell hb z0
    have z1 := below_cell hb z1
    clear hb
    go_wp2_with fail
    refine (same13 _ _ ws top w7 HRD7.out (HR.out.keep HB7.out)).mono ?_
    rintro e w8 ⟨rfl, hb⟩
    have HB8 := Lib.hid (HB7.out.trans (hb.mono HB7.out.size))
    clear hb
    go_wp2_with fail
    go_ret
    exact ⟨rfl, HB8.out⟩
  · have hro' := hro
    have HRO := Lib.hid hro
    obtain ⟨hm, hy, tn, htt, h1, h2, ho, hou, hfree⟩ := roots_split hro hf
    subst htt
    have hml20 := mem_len hm
    obtain ⟨g, c, hv, hg, hgl, hpm⟩ := copy_pm HOWN.out hml20 h2 h1 hf
    injection hv with e1 e2 e3
    subst e1; subst e3
    rw [hw5] at hpm
    clear e2
    have hs35 : w1.heap.size ≤ w5.heap.size := HK35.out.size
    refine (collect_yes hpm hm ho h2 hfree _ rs (fun A hA => HRR1.out.keep (HK35.out.trans (hA.below hs35 hg))) hfr hy).mono ?_
    intro e w6 hco
    obtain ⟨gr, M, res, rfl, hM, hcr, b0, b1, bz, hwd, hlu, hgr, hbt⟩ := hco.out
    obtain ⟨tn2, ht2, hcl⟩ := cl_of hro' hf hM hcr
    obtain rfl : tn2 = tn := by omega
    have HB6 := Lib.hid (HB5.out.trans (hbt.below HB5.out.size (by omega) (by omega)))
    have y0 := (World.cell?_of_block (a := ⟨w.heap.size, 0, none⟩) (hbt.block _ (by dsimp only; omega) (by dsimp only; omega) (by dsimp only; omega))).trans y0
    have y1 := (World.cell?_of_block (a := ⟨w.heap.size, 1, none⟩) (hbt.block _ (by dsimp only; omega) (by dsimp only; omega) (by dsimp only; omega))).trans y1
    obtain ⟨l, hl⟩ : ∃ l, objList ws tn2 = l := ⟨_, rfl⟩
    rw [hl] at hcl hcr hlu b1 hy ho
    have HL := Lib.hid hl
    have HCL := Lib.hid hcl
    have HM := Lib.hid hM
    have HY := Lib.hid hy
    have hres := hcr.len
    have hmem := hcl.mem
    have hob2 := hcl.ob2
    have h1f : 1 ≤ frK l M (szN ws) l.length := by rw [frK_L]; exact frL_one _ _ _
    have hy2 := hcl.rootR (fun a ha => (hM a).2 ha) hy
    have hfq := hcl.fitR hfr (fun a ha => (hM a).2 ha)
    have hql : (rs.map (trR ws l M)).length = rs.length := List.length_map _
    obtain ⟨f, hff⟩ : ∃ f, frK l M (szN ws) l.length = f := ⟨_, rfl⟩
    obtain ⟨qs, hqs⟩ : ∃ qs, rs.map (trR ws l M) = qs := ⟨_, rfl⟩
    obtain ⟨lw, hlw⟩ : ∃ lw, nwL ws l M = lw := ⟨_, rfl⟩
    rw [hff] at hmem hob2 h1f b1
    rw [hqs] at hy2 hfq hql hlu
    rw [hlw] at hmem hob2 hy2
    have HFF := Lib.hid hff
    have HQS := Lib.hid hqs
    have HLW := Lib.hid hlw
    have HMEM := Lib.hid hmem.1
    have HOB2 := Lib.hid hob2
    have HY2 := Lib.hid hy2.1
    have HFQ := Lib.hid hfq
    have HFR := Lib.hid (show Fit res from hcl.fit)
    have HZ := Lib.hid (show ∀ i, f ≤ i → res.getD i 0 = 0 from fun i hi => hcr.zero i (by rw [hff]; exact hi))
    have hfle : f ≤ res.length := hob2.le
    have hmr : res.length ≤ 1048576 := hob2.most
    have HRS6 := Lib.hid (show Rd w6 (.slice (some ⟨g, 0, none⟩) ws.length c4) res by
      have := hwd.rd
      rwa [hres] at this)
    have HLU6 := Lib.hid hlu
    have HOB := Lib.hid ho
    have HFREE := Lib.hid hfree
    have hgr6 := LR.lt hlu
    have hg6 : g < w6.heap.size := hwd.lt
    have hB6 : w4.heap.size < w6.heap.size := World.block_lt_of_cell? w6 _ b0
    clear hco hM hcr hwd hlu hbt hpm hw5 hb5 z0 z1 bz hro hro' hcl hmem hob2 hy hy2 hfq hqs hff hlw ho hou hfree hl HK34 HK35 HR4 HR5 HRR1 HRD4 HOWN
    go_wp2_with fail
    have hrb := HCL.out.rootsB HM.out HY.out
    rw [HFF.out, HQS.out] at hrb
    have HQR6 := Lib.hid (rd_lenS HLU6.out hql (by omega))
    refine (sreach_good _ res f _ qs w6 HRS6.out HFR.out ⟨by omega, by omega⟩ HQR6.out HFQ.out hrb).mono ?_
    rintro e w7 ⟨u7, M2, rfl, hM2, hu7, hb⟩
    have hfl := HCL.out.filt HM.out HY.out (M2 := M2) (by rw [HQS.out]; exact hM2)
    rw [HFF.out, HLW.out] at hfl
    rw [hfl] at hu7
    have HU7 := Lib.hid hu7
    obtain ⟨p7, c7, rfl⟩ := ow_form hu7
    have HB7 := Lib.hid (HB6.out.trans (hb.mono HB6.out.size))
    have HRS7 := Lib.hid (HRS6.out.keep hb)
    have HQR7 := Lib.hid (HQR6.out.keep hb)
    have y0 := below_cell hb y0
    have y1 := below_cell hb y1
    have b0 := below_cell hb b0
    have b1 := below_cell hb b1
    clear hb hu7 hM2 hrb hfl
    simp only [List.length_map]
    go_wp2_with fail
    refine (objects _ res f w7 HRS7.out HFR.out ⟨by omega, by omega⟩).mono ?_
    rintro e w8 ⟨hb, u8, rfl, how⟩
    have hml := HCL.out.mem.2
    rw [HFF.out, HLW.out] at hml
    rw [hml] at how
    have how := ow_nat how
    have HU8 := Lib.hid how
    obtain ⟨p8, c8, rfl⟩ := ow_form how
    rw [List.length_map] at *
    have hlwl : lw.length = (l.filter M).length := by rw [← HLW.out, nw_len]
    have HB8 := Lib.hid (HB7.out.trans (hb.mono HB7.out.size))
    have HRS8 := Lib.hid (HRS7.out.keep hb)
    have HQR8 := Lib.hid (HQR7.out.keep hb)
    have HU78 := Lib.hid (OW.keep HU7.out hb)
    have y0 := below_cell hb y0
    have y1 := below_cell hb y1
    have b0 := below_cell hb b0
    have b1 := below_cell hb b1
    clear hb how hml
    go_wp2_with fail
    refine (check_any _ res f w8 HRS8.out HFR.out ⟨by omega, by omega⟩).mono ?_
    rintro e w9 ⟨rfl, hb⟩
    rw [chk_yes HMEM.out]
    have HB9 := Lib.hid (HB8.out.trans (hb.mono HB8.out.size))
    have HRS9 := Lib.hid (HRS8.out.keep hb)
    have HQR9 := Lib.hid (HQR8.out.keep hb)
    have hlm := HOB2.out.most
    have hlwm : lw.length ≤ 1048576 := by
      have := rising_len HOB2.out.rising (fun x hx => by have := (HOB2.out.in1 x hx); exact (by omega : x < f))
      omega
    have HI1 := Lib.hid (ri_ow (OW.keep HU78.out hb) (by omega))
    have HI2 := Lib.hid (ri_ow (OW.keep HU8.out hb) (by omega))
    have y0 := below_cell hb y0
    have y1 := below_cell hb y1
    have b0 := below_cell hb b0
    have b1 := below_cell hb b1
    clear hb
    rw [hlwl] at HI1 HI2
    go_wp2_with fail
    refine (sameints _ _ _ w9 HI1.out HI2.out).mono ?_
    rintro e w10 ⟨rfl, q10, rfl⟩
    obtain ⟨w10, hw10⟩ : ∃ w10, w9.drewN q10 = w10 := ⟨_, rfl⟩
    rw [hw10]
    have hb : Below w9.heap.size w9 w10 := by rw [← hw10]; exact below_drewN (Below.refl _ _) q10
    have HB10 := Lib.hid (HB9.out.trans (hb.mono HB9.out.size))
    have HRS10 := Lib.hid (HRS9.out.keep hb)
    have HQR10 := Lib.hid (HQR9.out.keep hb)
    have y0 := below_cell hb y0
    have y1 := below_cell hb y1
    have b0 := below_cell hb b0
    have b1 := below_cell hb b1
    clear hb hw10 HI1 HI2
    go_wp2_with fail
    refine (alike_any HCL.out HFF.out HM.out hfr _ _ _ _ w10 (HR.out.keep HB10.out) HRS10.out (HRR.out.keep HB10.out) (by rw [HQS.out]; exact HQR10.out)).mono ?_
    rintro e w11 ⟨rfl, hb⟩
    have HB11 := Lib.hid (HB10.out.trans (hb.mono HB10.out.size))
    have y0 := below_cell hb y0
    have y1 := below_cell hb y1
    have b0 := below_cell hb b0
    have b1 := below_cell hb b1
    clear hb
    go_wp2_with fail
    refine (sreach_good _ ws tn2 _ rs w11 (HR.out.keep HB11.out) hf ht (HRR.out.keep HB11.out) hfr HRO.out).mono ?_
    rintro e w12 ⟨u12, M3, rfl, hM3, hu12, hb⟩
    have hMM : M3 = M := by
      funext a
      rw [Bool.eq_iff_iff, hM3, HM.out]
    subst hMM
    rw [HL.out] at hu12
    have HU12 := Lib.hid hu12
    obtain ⟨p12, c12, rfl⟩ := ow_form hu12
    have HB12 := Lib.hid (HB11.out.trans (hb.mono HB11.out.size))
    have y0 := below_cell hb y0
    have y1 := below_cell hb y1
    have b0 := below_cell hb b0
    have b1 := below_cell hb b1
    have hlm2 : (l.filter M3).length ≤ 1048576 := by omega
    clear hb hu12 hM3
    simp only [List.length_map]
    go_wp2_with fail
    have HFS := Lib.hid (show frL (szN ws) (l.filter M3) (l.filter M3).length = f by rw [← frK_L]; exact HFF.out)
    obtain ⟨wB, rfl⟩ : ∃ wB : World, wB = w12 := ⟨_, rfl⟩
    go_loopw [10, 12, 13, 14, 15] (fun tv s _ _ _ wr => ∃ i : Nat, s = .int .i64 i ∧ i ≤ (l.filter M3).length ∧ tv = .int .i64 ((frL (szN ws) (l.filter M3) i : Nat) : Int) ∧ Below wB.heap.size wB wr) (fun _ s _ _ _ _ => (l.filter M3).length - (intOf s).toNat)
    case atStart => exact ⟨0, by go_num, Nat.zero_le _, by simp [frL], Below.refl _ _⟩
    case round =>
      obtain ⟨i, rfl, hi, rfl, hbe⟩ := hrel
      have HBE := Lib.hid hbe
      by_cases hlt : i < (l.filter M3).length
      · have hlz : (i : Int) < ((l.filter M3).length : Int) := Int.ofNat_lt.2 hlt
        obtain ⟨g1, c1, hv1, hg1, hg1l, hc1, _⟩ := ow_cell (OW.keep HU12.out hbe) (i := i) (by rw [List.length_map]; exact hlt)
        rw [List.length_map] at hv1
        injection hv1 with e1 e2 e3
        subst e1; subst e3
        clear e2
        rw [nat_getD] at hc1
        have y0 := below_cell hbe y0
        have y1 := below_cell hbe y1
        have hlm := HCL.out.lm hlt
        have hsz := size_ob HOB.out hlm.1 (HCL.out.kd _ hlm.1)
        have hin := HOB.out.in1 _ hlm.1
        have hsu := frL_succ (sz := szN ws) hlt
        have htp := HCL.out.top (i := i + 1) hlt
        have htn := HOB.out.le
        obtain ⟨a, ha⟩ : ∃ a, (l.filter M3).getD i 0 = a := ⟨_, rfl⟩
        rw [ha] at hc1 hsz hin hsu
        obtain ⟨F, hF⟩ : ∃ F, frL (szN ws) (l.filter M3) i = F := ⟨_, rfl⟩
        obtain ⟨F2, hF2⟩ : ∃ F2, frL (szN ws) (l.filter M3) (i + 1) = F2 := ⟨_, rfl⟩
        rw [hF, hF2] at hsu
        rw [hF2] at htp
        rw [hF]
        have HF2 := Lib.hid hF2
        have HAT := Lib.hid (fun (wx : World) (hx : Below w.heap.size w wx) => by
          have hs := asize_any _ ws tn2 a wx (HR.out.keep hx) hf (by omega)
          rw [hsz.1, hsz.2.1, hsz.2.2] at hs
          exact hs)
        obtain ⟨T, hT⟩ : ∃ T, tgN ws a = T := ⟨_, rfl⟩
        obtain ⟨R, hRR⟩ : ∃ R, szN ws a - 2 - T = R := ⟨_, rfl⟩
        rw [hT, hRR] at HAT
        rw [hT] at hin
        have hF3 : F2 = F + (2 + T + R) := by omega
        have hm2 : F2 ≤ 1048576 := by omega
        have wt1 : IntKind.i64.wrap (2 + (T : Int)) = 2 + (T : Int) := IntWalk.i64_in _ (by omega)
        have wt2 : IntKind.i64.wrap (2 + (T : Int) + (R : Int)) = 2 + (T : Int) + (R : Int) := IntWalk.i64_in _ (by omega)
        have wt3 : IntKind.i64.wrap ((F : Int) + (2 + (T : Int) + (R : Int))) = (F2 : Int) := (IntWalk.i64_in _ (by omega)).trans (by omega)
        have hBW := HB12.out.trans (hbe.mono HB12.out.size)
        have HBW := Lib.hid hBW
        have hc1' := hc1
        clear hsz hin hsu htp htn ha hF hF2 hF3 hT hRR hlm hBW hbe
        go_wp2_with fail
        go_region_held3 (fun w' => w'.cell? ⟨w.heap.size, 0, none⟩ = some (.slice pv ws.length cv) ∧ w'.cell? ⟨w.heap.size, 1, none⟩ = some (.int .i64 (tn2 : Int)) ∧ w'.cell? ⟨g1, i, none⟩ = some (.int .i64 (a : Int))) (first | ((repeat' (first | assumption | apply And.intro)); done) | go_keep | fail)
          ((go_at_call 24; (first | refine (HAT.out wr HBW.out).mono ?_ | refine (HAT.out wr.drew (show Below w.heap.size w wr.drew from ⟨HBW.out.os, HBW.out.tape, HBW.out.output, HBW.out.size, HBW.out.block⟩)).mono ?_); rintro e w14 ⟨rfl, hb⟩; have d0 : w14.cell? ⟨w.heap.size, 0, none⟩ = some (.slice pv ws.length cv) := below_cell hb (by first | assumption | exact y0); have d1 : w14.cell? ⟨w.heap.size, 1, none⟩ = some (.int .i64 (tn2 : Int)) := below_cell hb (by first | assumption | exact y1); have d2 : w14.cell? ⟨g1, i, none⟩ = some (.int .i64 (a : Int)) := below_cell hb (by first | assumption | exact hc1'); have hb14 : Below wr.heap.size wr w14 := ⟨hb.os, hb.tape, hb.output, hb.size, hb.block⟩))
        go_wp2_with fail
        go_roundw
        case rel => exact ⟨i + 1, by go_num, hlt, by rw [HF2.out], HBE.out.trans (hb14.mono HBE.out.size)⟩
        case measure => exact mk_meas hlt
      · have hke : i = (l.filter M3).length := Nat.le_antisymm hi (Nat.not_lt.1 hlt)
        subst hke
        have hlz : ¬ ((l.filter M3).length : Int) < ((l.filter M3).length : Int) := Int.lt_irrefl _
        have b0 := below_cell hbe b0
        have b1 := below_cell hbe b1
        rw [HFS.out]
        clear hlt hi hbe
        go_wp2_with fail
        go_ret
        exact ⟨rfl, HB12.out.trans (HBE.out.mono HB12.out.size)⟩
end Go.Proofs.Ytfhjpgbnojdlkaa
