/- The law SlideOrder. -/
import Derived.Test.YtfhjpgbnojdlkaaPGSlRc
import Derived.Test.YtfhjpgbnojdlkaaPLawSk
import Derived.Test.YtfhjpgbnojdlkaaPSize
import Derived.Test.YtfhjpgbnojdlkaaPObjects
namespace Go.Proofs.Ytfhjpgbnojdlkaa
open Go Go.ChangeShapes Go.WideShapes Go.ChangeAt Go.RowKit
set_option linter.unusedVariables false
set_option linter.unusedSimpArgs false
theorem ow_nat {w : World} {B : Nat} {u : Value} {l : List Nat} (h : w.ownsRow B 3 1 u l.length (natVals l)) : OW .i64 3 w B u (l.map fun n : Nat => (n : Int)) := by
  unfold OW
  rw [List.length_map, List.map_map]
  exact h
theorem nat_getD (l : List Nat) (i : Nat) : (l.map fun n : Nat => (n : Int)).getD i 0 = ((l.getD i 0 : Nat) : Int) := by
  rw [List.getD_eq_getElem?_getD, List.getElem?_map, List.getD_eq_getElem?_getD]
  cases l[i]? <;> rfl
theorem rc_a2 {a k : Nat} (h : a + 2 + k ≤ 1048576) : IntKind.i64.wrap ((a : Int) + 2) = (a : Int) + 2 ∧ IntKind.i64.wrap ((a : Int) + 2 + (k : Int)) = (a : Int) + 2 + (k : Int) := ⟨IntWalk.i64_in _ (by omega), IntWalk.i64_in _ (by omega)⟩
theorem rc_lt {a k n : Nat} (h : a + 2 + k < n) : (a : Int) + 2 + (k : Int) < (n : Int) := by omega
section
variable {ws : List Int} {tn : Nat} {l : List Nat} {M : Nat → Bool} {res : List Int}
theorem Cl.size (h : Cl ws tn l M res) {i f : Nat} (hi : i < (l.filter M).length) (hf : frL (szN ws) (l.filter M) (l.filter M).length = f) :
    tAt (res.take f) (frL (szN ws) (l.filter M) i : Nat) = (tgN ws ((l.filter M).getD i 0) : Int) ∧ rAt (res.take f) (frL (szN ws) (l.filter M) i : Nat) = ((szN ws ((l.filter M).getD i 0) - 2 - tgN ws ((l.filter M).getD i 0) : Nat) : Int) ∧ eAt (res.take f) (frL (szN ws) (l.filter M) i : Nat) = 0 := by
  subst hf
  have ho := h.okAt hi
  have hth : there (res.take (frL (szN ws) (l.filter M) (l.filter M).length)) (frL (szN ws) (l.filter M) i : Nat) = true := by
    have := ho.1
    unfold Go.Proofs.Ytfhjpgbnojdlkaa.okAt at this
    rw [Bool.and_eq_true] at this
    exact this.1
  have h1 := h.ob.in1 _ (h.lm hi).1
  have h6 := hS_lo (ws.getD ((l.filter M).getD i 0) 0)
  have h7 := hT_lo (ws.getD ((l.filter M).getD i 0) 0)
  have hsz : (szN ws ((l.filter M).getD i 0) : Int) = hS (ws.getD ((l.filter M).getD i 0) 0) := by unfold szN; omega
  have htg : (tgN ws ((l.filter M).getD i 0) : Int) = hT (ws.getD ((l.filter M).getD i 0) 0) := by unfold tgN; omega
  unfold tAt rAt eAt
  rw [if_pos hth, if_pos hth, if_pos hth, ho.2.2]
  exact ⟨by omega, by omega, rfl⟩
/-- None goes up. -/
theorem Cl.down (h : Cl ws tn l M res) {i : Nat} (hi : i < (l.filter M).length) : frL (szN ws) (l.filter M) i ≤ (l.filter M).getD i 0 := by
  obtain ⟨j, h1, h2, h3, _⟩ := filt_at l i hi
  rw [← dst_L h.ob.rising hi, ← h2, dst_at h.ob.rising h1]
  have := frK_le (M := M) h.ob.objs j (Nat.le_of_lt h1)
  rwa [nxO_lt h1] at this
theorem Cl.end_ (h : Cl ws tn l M res) {i f : Nat} (hi : i < (l.filter M).length) (hf : frL (szN ws) (l.filter M) (l.filter M).length = f) : frL (szN ws) (l.filter M) i + szN ws ((l.filter M).getD i 0) ≤ f := by
  have := frL_mono (sz := szN ws) (L := l.filter M) (i := i + 1) (j := (l.filter M).length) hi (Nat.le_refl _)
  rw [frL_succ hi, hf] at this
  exact this
/-- A word of an object, before and behind. -/
theorem Cl.pair (h : Cl ws tn l M res) {i k : Nat} (hi : i < (l.filter M).length) (hk : 2 + k < szN ws ((l.filter M).getD i 0)) :
    (k < tgN ws ((l.filter M).getD i 0) ∧ kindOf (ws.getD ((l.filter M).getD i 0 + 2 + k) 0) = 0 ∧ kindOf (res.getD (frL (szN ws) (l.filter M) i + 2 + k) 0) = 0) ∨
    ((k < tgN ws ((l.filter M).getD i 0) → kindOf (ws.getD ((l.filter M).getD i 0 + 2 + k) 0) ≠ 0) ∧ res.getD (frL (szN ws) (l.filter M) i + 2 + k) 0 = ws.getD ((l.filter M).getD i 0 + 2 + k) 0) := by
  rcases Nat.lt_or_ge k (tgN ws ((l.filter M).getD i 0)) with hj | hj
  · have ht := h.tagged hi hj
    by_cases h6 : ws.getD ((l.filter M).getD i 0 + 2 + k) 0 % 4 = 0
    · rw [if_pos h6] at ht
      have hia : (l.filter M).getD i 0 + 2 + k ∈ adrP ws ((l.filter M).getD i 0) (tgN ws ((l.filter M).getD i 0)) := adrP_mem.2 ⟨k, hj, rfl, h6⟩
      refine .inl ⟨hj, (h.ob.adr (h.lm hi).1 hia).1, ?_⟩
      rw [ht]
      unfold trn
      exact (h.four (h.cls _ (h.lm hi).2 _ hia)).1
    · rw [if_neg h6] at ht
      exact .inr ⟨fun _ g => h6 (by have := kind_nat g; omega), ht⟩
  · refine .inr ⟨fun g => absurd g (by omega), ?_⟩
    have := h.raw hi (p := 2 + k) hk (by omega)
    rwa [← Nat.add_assoc, ← Nat.add_assoc] at this
end
set_option maxRecDepth 100000 in
set_option maxHeartbeats 8000000 in
theorem law_sorder (v : Value) (ws : List Int) (top : Int) (rv : Value) (rs : List Int) (w : World) (hr : Rd w v ws) (hf : Fit ws) (ht : -9223372036854775808 ≤ top ∧ top ≤ 9223372036854775807) (hrr : Rd w rv rs) (hfr : Fit rs) :
    Calls Try.prog 6 #[.agg #[v, .int .i64 top], rv] w fun e w' => e = .returned (.bool true) ∧ Below w.heap.size w w' := by
  have HR := Lib.hid hr
  have HRR := Lib.hid hrr
  obtain ⟨pv, cv, rfl, hmv⟩ := rd_form0 hr
  obtain ⟨pr, cr, rfl, hmr⟩ := rd_form0 hrr
  have HB0 := Lib.hid (show Below w.heap.size w (w.alloc (Obj.cells #[.slice pv ws.length cv, .int .i64 top] 24)) from (Below.refl _ _).alloc (Nat.le_refl _) _)
  clear hr hrr
  go_enter Try.func6, Try.ntmps6
  go_wp2_with fail
  refine (known14 _).mono ?_
  rintro e w1 ⟨rfl, hb⟩
  have y0 := below_cell hb (a := ⟨w.heap.size, 0, none⟩) (v := .slice pv ws.length cv) (by simp)
  have y1 := below_cell hb (a := ⟨w.heap.size, 1, none⟩) (v := .int .i64 top) (by simp)
  have HB1 := Lib.hid (HB0.out.trans (hb.mono (by simp)))
  have hw1 : w.heap.size < w1.heap.size := World.block_lt_of_cell? w1 _ y0
  clear hb HB0
  go_wp2_with fail
  cases hro : rootsB ws top rs
  · have HE := Lib.hid hro
    refine (sreach_bad _ ws top _ rs w1 (HR.out.keep HB1.out) hf ht (HRR.out.keep HB1.out) hfr hro).mono ?_
    rintro e w2 ⟨rfl, hb⟩
    have HB2 := Lib.hid (HB1.out.trans (hb.mono HB1.out.size))
    have y0 := below_cell hb y0
    have y1 := below_cell hb y1
    clear hb hro
    go_wp2_with fail
    refine (right14_any _ ws top _ rs w2 (HR.out.keep HB2.out) hf ht (HRR.out.keep HB2.out) hfr).mono ?_
    rintro e w3 ⟨rfl, hb⟩
    rw [HE.out]
    have HB3 := Lib.hid (HB2.out.trans (hb.mono HB2.out.size))
    clear hb
    go_wp2_with fail
    go_ret
    exact ⟨rfl, HB3.out⟩
  · refine (sreach_good _ ws top _ rs w1 (HR.out.keep HB1.out) hf ht (HRR.out.keep HB1.out) hfr hro).mono ?_
    rintro e w2 ⟨u, M, rfl, hM, hu, hb⟩
    have HB2 := Lib.hid (HB1.out.trans (hb.mono HB1.out.size))
    have hs12 := hb.size
    have HU := Lib.hid hu
    obtain ⟨pu, cu, rfl⟩ := ow_form hu
    have y0 := below_cell hb y0
    have y1 := below_cell hb y1
    clear hb hu
    simp only [List.length_map]
    go_wp2_with fail
    refine (copy13_any _ ws top w2 (HR.out.keep HB2.out)).mono ?_
    rintro e w3 ⟨v3, rfl, hown, hb⟩
    obtain ⟨hm, hy, tn, htt, h1, h2, ho, hou, hfree⟩ := roots_split hro hf
    subst htt
    have hml20 := mem_len hm
    obtain ⟨g, c, rfl, hg, hgl, hpm⟩ := copy_pm hown hml20 h2 h1 hf
    obtain ⟨pb, off, cc, hv, hlc, _, hcellw⟩ := HR.out.some (by omega)
    injection hv with e1 e2 e3
    subst e1; subst e3
    have HCW := Lib.hid hcellw
    clear hcellw e2
    have HB3 := Lib.hid (HB2.out.trans (hb.mono HB2.out.size))
    have HU3 := Lib.hid (OW.keep HU.out hb)
    have y0 := below_cell hb y0
    have y1 := below_cell hb y1
    have y0a := fun o => alloc_cell y0 o
    have y1a := fun o => alloc_cell y1 o
    clear hb hown
    go_wp2_with fail
    obtain ⟨w4, hw4⟩ : ∃ w4, w3.alloc (Obj.cells #[.slice (some ⟨g, 0, none⟩) ws.length c, .int .i64 (tn : Int)] 24) = w4 := ⟨_, rfl⟩
    rw [hw4]
    rw [hw4] at hpm
    have hb4 : Below w3.heap.size w3 w4 := by rw [← hw4]; exact (Below.refl _ _).alloc (Nat.le_refl _) _
    have y0 := below_cell hb4 y0
    have y1 := below_cell hb4 y1
    have HB4 := Lib.hid (HB3.out.trans (hb4.mono HB3.out.size))
    have HU4 := Lib.hid (OW.keep HU3.out hb4)
    have hs4 : w4.heap.size = w3.heap.size + 1 := by rw [← hw4]; simp
    have hw34 : w.heap.size < w3.heap.size := by have := HU3.out; have := World.block_lt_of_cell? w4 _ y0; omega
    clear y0a y1a hw4 hb4
    refine (collect_yes hpm hm ho h2 hfree _ rs (fun A hA => HRR.out.keep (HB4.out.trans (hA.below HB4.out.size (by omega)))) hfr hy).mono ?_
    intro e w5 hco
    obtain ⟨gr, M2, res, rfl, hM2, hcr, b0, b1, bz, hwd, hlu, hgr, hbt⟩ := hco.out
    have hMM : M2 = M := by
      funext a
      rw [Bool.eq_iff_iff, hM2, hM]
    subst hMM
    obtain ⟨tn2, ht2, hcl⟩ := cl_of hro hf hM2 hcr
    obtain rfl : tn2 = tn := by omega
    have HCL := Lib.hid hcl
    have HB5 := Lib.hid (HB4.out.trans (hbt.below HB4.out.size (by omega) (by omega)))
    have y0 := (World.cell?_of_block (a := ⟨w.heap.size, 0, none⟩) (hbt.block _ (by dsimp only; omega) (by dsimp only; omega) (by dsimp only; omega))).trans y0
    have y1 := (World.cell?_of_block (a := ⟨w.heap.size, 1, none⟩) (hbt.block _ (by dsimp only; omega) (by dsimp only; omega) (by dsimp only; omega))).trans y1
    have HU5 := Lib.hid (show OW .i64 3 w5 w1.heap.size (.slice pu ((objList ws tn2).filter M2).length cu) (((objList ws tn2).filter M2).map fun n : Nat => (n : Int)) from by
      have h := HU4.out
      rw [List.length_map] at h
      refine OW.block h (fun gg hgg => hbt.block gg ?_ ?_ ?_)
      · exact (OW.lt h hgg).2
      · have := (OW.lt HU.out (g := gg) (by simpa using hgg)).2; omega
      · have := (OW.lt HU.out (g := gg) (by simpa using hgg)).2; omega)
    have HWD := Lib.hid hwd
    clear hco hM hM2 hcr hwd hlu hbt hpm bz hro hm hy ho hou hfree HU HU3 HU4
    have hres := hcl.co.len
    have hmem := hcl.mem
    have hfit := hcl.fit
    have htop := hcl.top (Nat.le_refl _)
    rw [← frK_L] at htop
    have HRR5 := Lib.hid (show Rd w5 (.slice (some ⟨g, 0, none⟩) ws.length c) res by
      have := HWD.out.rd
      rwa [hres] at this)
    obtain ⟨l, hl⟩ : ∃ l, objList ws tn2 = l := ⟨_, rfl⟩
    rw [hl] at HCL HU5 b1 hmem htop ⊢
    obtain ⟨f, hff⟩ : ∃ f, frK l M2 (szN ws) l.length = f := ⟨_, rfl⟩
    rw [hff] at b1 hmem htop
    have HFF := Lib.hid (show frL (szN ws) (l.filter M2) (l.filter M2).length = f by rw [← frK_L]; exact hff)
    have HMEM := Lib.hid hmem
    have HLL := Lib.hid (show (l.filter M2).length ≤ 1048576 by
      have := objs_len ws tn2
      rw [hl] at this
      have := List.length_filter_le M2 l
      omega)
    clear hmem hff hl hcl
    go_wp2_with fail
    refine (objects _ res f w5 HRR5.out hfit ⟨by omega, by omega⟩).mono ?_
    rintro e w6 ⟨hb, u6, rfl, how⟩
    rw [HMEM.out.2] at how
    have how := ow_nat how
    have HU6 := Lib.hid how
    obtain ⟨p6, c6, rfl⟩ := ow_form how
    rw [List.length_map, nw_len] at *
    have HB6 := Lib.hid (HB5.out.trans (hb.mono HB5.out.size))
    have HU56 := Lib.hid (OW.keep HU5.out hb)
    have HR6 := Lib.hid (HRR5.out.keep hb)
    have y0 := below_cell hb y0
    have y1 := below_cell hb y1
    have b0 := below_cell hb b0
    have b1 := below_cell hb b1
    clear hb how
    go_wp2_with fail
    go_loopw [9, 10, 11, 12, 13, 14, 15, 16, 17] (fun s _ _ _ _ _ _ _ _ wr => ∃ i : Nat, s = .int .i64 i ∧ i ≤ (l.filter M2).length ∧ Below w6.heap.size w6 wr) (fun s _ _ _ _ _ _ _ _ _ => (l.filter M2).length - (intOf s).toNat)
    case atStart => exact ⟨0, by go_num, Nat.zero_le _, Below.refl _ _⟩
    case round =>
      obtain ⟨i, rfl, hi, hbe⟩ := hrel
      have HBE := Lib.hid hbe
      have hll := HLL.out
      by_cases hlt : i < (l.filter M2).length
      · have hlz : (i : Int) < ((l.filter M2).length : Int) := Int.ofNat_lt.2 hlt
        obtain ⟨g1, c1, hv1, hg1, _, hc1, _⟩ := ow_cell (OW.keep HU56.out hbe) (i := i) (by rw [List.length_map]; exact hlt)
        obtain ⟨g2, c2, hv2, hg2, _, hc2, _⟩ := ow_cell (OW.keep HU6.out hbe) (i := i) (by rw [List.length_map, nw_len]; exact hlt)
        rw [List.length_map] at hv1
        rw [List.length_map, nw_len] at hv2
        injection hv1 with e1 e2 e3
        subst e1; subst e3
        clear e2
        injection hv2 with e1 e2 e3
        subst e1; subst e3
        clear e2
        rw [nat_getD] at hc1 hc2
        rw [nw_getD hlt] at hc2
        have HSZ := Lib.hid (HCL.out.size hlt HFF.out)
        have HDN := Lib.hid (HCL.out.down hlt)
        have HEN := Lib.hid (HCL.out.end_ hlt HFF.out)
        have HHD := Lib.hid (HCL.out.head hlt)
        have HPR := Lib.hid (fun k hk => HCL.out.pair (k := k) hlt hk)
        have HIN := Lib.hid (HCL.out.ob.in1 _ (HCL.out.lm hlt).1)
        obtain ⟨a, ha⟩ : ∃ a, (l.filter M2).getD i 0 = a := ⟨_, rfl⟩
        obtain ⟨b, hb⟩ : ∃ b, frL (szN ws) (l.filter M2) i = b := ⟨_, rfl⟩
        rw [ha] at hc1 HSZ HDN HEN HHD HPR HIN
        rw [hb] at hc2 HSZ HDN HEN HHD HPR
        have HA := Lib.hid ha
        have y0 := below_cell hbe y0
        have y1 := below_cell hbe y1
        have b0 := below_cell hbe b0
        have b1 := below_cell hbe b1
        have HRx := Lib.hid (HR6.out.keep hbe)
        have HRw := Lib.hid (HR.out.keep (HB6.out.trans (hbe.mono HB6.out.size)))
        clear ha hb hbe
        go_wp2_with fail
        go_quiet (fail)
        go_wp2_with fail
        have hs := asize_any _ res f b (wr.drewN nq) (show Rd (wr.drewN nq) _ res from HRx.out) hfit (by omega)
        rw [HSZ.out.1, HSZ.out.2.1, HSZ.out.2.2] at hs
        refine hs.mono ?_
        clear hs
        rintro e w7 ⟨rfl, hb⟩
        have hb7 : Below w6.heap.size w6 w7 := (below_drewN HBE.out nq).trans (hb.mono HBE.out.size)
        have y0 := below_cell (W := wr.drewN nq) hb y0
        have y1 := below_cell (W := wr.drewN nq) hb y1
        have b0 := below_cell (W := wr.drewN nq) hb b0
        have b1 := below_cell (W := wr.drewN nq) hb b1
        have HB7 := Lib.hid hb7
        have HB7w := Lib.hid (HB6.out.trans (hb7.mono HB6.out.size))
        have hin := HIN.out
        have hen := HEN.out
        have hdn := HDN.out
        have ca := below_cell HB7w.out (HCW.out a (by omega))
        have HR7 := Lib.hid (HR6.out.keep hb7)
        obtain ⟨_, _, _, hv3, _, _, hcr⟩ := HR7.out.some (by omega)
        injection hv3 with e1 e2 e3
        injection e1 with e1
        injection e1 with e1 e4
        subst e1; subst e4; subst e3
        clear e2
        have HCR := Lib.hid hcr
        have cb := hcr b (by omega)
        rw [Nat.zero_add, HHD.out] at cb
        generalize ws.getD a 0 = x0 at ca cb
        have hbz : (b : Int) < (ws.length : Int) := by omega
        have haz : (a : Int) < (ws.length : Int) := by omega
        have hba : decide (a < b) = false := decide_eq_false (by omega)
        obtain ⟨T, hT⟩ : ∃ T, tgN ws a = T := ⟨_, rfl⟩
        obtain ⟨R, hRR⟩ : ∃ R, szN ws a - 2 - T = R := ⟨_, rfl⟩
        rw [hT, hRR]
        have HTR := Lib.hid (And.intro hT hRR)
        have hTm : T ≤ 1048576 := by omega
        have hRm : R ≤ 1048576 := by omega
        have HSIZ := Lib.hid (show szN ws a = 2 + T + R by omega)
        clear hb hb7 hcr hT hRR hc1 hc2 hin hen hdn
        have HRES := Lib.hid hres
        have hTR := rc_ak (a := T) (k := R) (by have := HSIZ.out; have := HIN.out; omega)
        clear hres
        go_wp2_with fail
        go_quiet (fail)
        go_wp2_with fail
        have HFI := Lib.hid (And.intro HCL.out.ob.fit hfit)
        have hmz := HIN.out
        have hmost := htop
        clear ca cb hba
        go_loopw [15, 16, 17, 18] (fun s _ _ _ wr => ∃ k q : Nat, s = .int .i64 k ∧ k ≤ T + R ∧ wr = w7.drewN q) (fun s _ _ _ _ => T + R - (intOf s).toNat)
        case atStart => exact ⟨0, nq, by go_num, Nat.zero_le _, rfl⟩
        case round =>
          obtain ⟨k, q, rfl, hk, rfl⟩ := hrel
          by_cases hlt2 : k < T + R
          · have hkz : (k : Int) < (T : Int) + (R : Int) := by omega
            have hsz := HSIZ.out
            have hen := HEN.out
            have ca := below_cell HB7w.out (HCW.out (a + 2 + k) (by omega))
            have cb := HCR.out (b + 2 + k) (by have := HRES.out; omega)
            rw [Nat.zero_add] at cb
            have hpr := HPR.out k (by omega)
            have hvb := HFI.out.1 (a + 2 + k)
            have hwb := HFI.out.2 (b + 2 + k)
            obtain ⟨x, hx⟩ : ∃ x, ws.getD (a + 2 + k) 0 = x := ⟨_, rfl⟩
            obtain ⟨y, hy⟩ : ∃ y, res.getD (b + 2 + k) 0 = y := ⟨_, rfl⟩
            rw [hx] at ca hpr hvb
            rw [hy] at cb hpr hwb
            rw [HTR.out.1] at hpr
            have hwx := wfu_mk hvb
            have hwy := wfu_mk hwb
            have wa := rc_a2 (a := a) (k := k) (by omega)
            have wb := rc_a2 (a := b) (k := k) (by omega)
            have wa1 := wa.1
            have wa2 := wa.2
            have wb1 := wb.1
            have wb2 := wb.2
            have la := rc_lt (a := a) (k := k) (n := ws.length) (by omega)
            have lb := rc_lt (a := b) (k := k) (n := ws.length) (by omega)
            have HPP := Lib.hid hpr
            clear hx hy hpr wa wb hvb hwb hsz hen hmz
            go_wp2_with fail
            go_quiet (fail)
            clear ca cb wa1 wa2 wb1 wb2 la lb
            rcases HPP.out with ⟨hkT, hkx, hky⟩ | ⟨hkx, hyx⟩
            · have hkTz : (k : Int) < (T : Int) := Int.ofNat_lt.2 hkT
              go_wp2_with fail
              refine (kind_ref x hwx _).mono ?_
              rintro e w9 ⟨rfl, rfl⟩
              rw [hkx]
              go_wp2_with fail
              refine (kind_ref y hwy _).mono ?_
              rintro e w9 ⟨rfl, rfl⟩
              rw [hky]
              go_wp2_with fail
              go_roundw
              case rel => exact ⟨k + 1, _, by go_num, hlt2, rfl⟩
              case measure => exact mk_meas hlt2
            · subst hyx
              by_cases hkT : k < T
              · have hkTz : (k : Int) < (T : Int) := Int.ofNat_lt.2 hkT
                have hk0 : (kindOf y == 0) = false := by simpa using hkx hkT
                clear hkx
                go_wp2_with fail
                refine (kind_ref y hwy _).mono ?_
                rintro e w9 ⟨rfl, rfl⟩
                go_wp2_with fail
                go_roundw
                case rel => exact ⟨k + 1, _, by go_num, hlt2, rfl⟩
                case measure => exact mk_meas hlt2
              · have hkTz : ¬ (k : Int) < (T : Int) := by omega
                clear hkx
                go_wp2_with fail
                go_roundw
                case rel => exact ⟨k + 1, _, by go_num, hlt2, rfl⟩
                case measure => exact mk_meas hlt2
          · have hkz : ¬ (k : Int) < (T : Int) + (R : Int) := by omega
            have HBX := Lib.hid (below_drewN HB7.out q)
            go_wp2_with fail
            go_roundw
            case rel => exact ⟨i + 1, by go_num, hlt, HBX.out⟩
            case measure => exact mk_meas hlt
      · have hlz : ¬ (i : Int) < ((l.filter M2).length : Int) := by omega
        have HBX := Lib.hid (HB6.out.trans (hbe.mono HB6.out.size))
        clear hbe
        go_wp2_with fail
        go_ret
        exact ⟨rfl, HBX.out⟩
end Go.Proofs.Ytfhjpgbnojdlkaa
