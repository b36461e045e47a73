/- The law SlideTwice. -/
import Derived.Test.YtfhjpgbnojdlkaaPGSlRc
import Derived.Test.YtfhjpgbnojdlkaaPLawSo
namespace Go.Proofs.Ytfhjpgbnojdlkaa
open Go Go.ChangeShapes Go.WideShapes Go.ChangeAt Go.RowKit
set_option linter.unusedVariables false
set_option linter.unusedSimpArgs false
theorem Qu.rd {w : World} {B : Nat} {v : Value} {xs : List Int} (h : Qu w B v xs) (hm : xs.length ≤ 17592186043904) : Rd w v xs := by
  rcases h with ⟨p, rfl, rfl⟩ | ⟨g, off, c, cur, rfl, h1, h2, h3, h4, h5⟩
  · exact .inl ⟨p, rfl, rfl⟩
  · exact .inr ⟨g, off, c, rfl, h3, hm, fun i hi => by simp [World.cell?, h2, h5 i hi]⟩
theorem rd_none {w : World} {p : Option Addr} {c : Nat} {ws : List Int} (h : Rd w (.slice p ws.length c) ws) : p = none → ws.length = 0 ∧ c = 0 := fun e => by
  subst e
  rcases h with ⟨p, hv, rfl⟩ | ⟨b, o, c, hv, _⟩
  · injection hv with e1 e2 e3
    exact ⟨rfl, e3⟩
  · cases hv
theorem rd_src {w : World} {p : Option Addr} {c : Nat} {ws : List Int} (h : Rd w (.slice p ws.length c) ws) : Src w (.slice p ws.length c) ws.length (ws.map (Value.int .u64)) := src_rd' h (rd_none h)
theorem tw_below {w w1 w2 : World} (hb : Below w.heap.size w w1) {o : Obj} (h2 : Below w1.heap.size (w1.alloc o) w2) : Below w.heap.size w w2 ∧ w1.heap.size ≤ w2.heap.size :=
  ⟨(hb.trans (((Below.refl _ _).alloc (Nat.le_refl _) o).mono hb.size)).trans (h2.mono hb.size), Nat.le_trans (by simp) h2.size⟩
theorem tw_cell {S : Nat} {A B : World} (h : Below S A B) {a : Addr} {v : Value} (hb : a.block < S) (hc : A.cell? a = some v) : B.cell? a = some v := (World.cell?_of_block (h.block _ hb)).trans hc
theorem fit_app {a b : List Int} (h : Fit a) (k : Fit b) : Fit (a ++ b) := fun i => by
  rcases Nat.lt_or_ge i a.length with hi | hi
  · have := h i
    rwa [show (a ++ b).getD i 0 = a.getD i 0 by rw [List.getD_eq_getElem?_getD, List.getD_eq_getElem?_getD, List.getElem?_append_left hi]]
  · have := k (i - a.length)
    rwa [show (a ++ b).getD i 0 = b.getD (i - a.length) 0 by rw [List.getD_eq_getElem?_getD, List.getD_eq_getElem?_getD, List.getElem?_append_right hi]]
theorem rch_sub {ws ss ms : List Int} {a : Nat} (h : Rch ws ss a) : Rch ws (ss ++ ms) a := by
  induction h with
  | root hx h0 => exact .root (List.mem_append_left _ hx) h0
  | step _ h1 ih => exact .step ih h1
theorem all_sub {ss ms : List Int} {l : List Nat} (h : (ss ++ ms).all (rightW l) = true) : ss.all (rightW l) = true := by
  rw [List.all_append, Bool.and_eq_true] at h
  exact h.1
theorem fw_of {ws res ss al ms : List Int} {tn : Nat} {l : List Nat} {M M3 M4 : Nat → Bool} (hal : ss ++ ms = al) (hcl : Cl ws tn l M res) (hM : ∀ a, M a = true ↔ Rch ws al a) (hy : al.all (rightW l) = true) (h3 : ∀ b, M3 b = true ↔ Rch res (ss.map (trR ws l M)) b) (h4 : ∀ a, M4 a = true ↔ Rch ws ss a) : Fw ws tn l M res ss M3 M4 := by
  subst hal
  exact ⟨hcl, fun a ha => (hM a).2 (rch_sub ha), all_sub hy, h4, h3⟩
theorem rd_front {w : World} {g n k : Nat} {qs xs ys : List Int} (h : LU w g qs) (hq : qs = xs ++ ys) (hn : qs.length = n) (hk : xs.length = k) (hm : k ≤ 17592186043904) : Rd w (.slice (some ⟨g, 0, none⟩) k n) xs := by
  subst hn; subst hq; subst hk
  refine .inr ⟨g, 0, _, rfl, by simp, hm, fun i hi => ?_⟩
  rw [Nat.zero_add, LR.cell h (by simp; omega), List.getD_eq_getElem?_getD, List.getD_eq_getElem?_getD, List.getElem?_append_left hi]
theorem le_of {ws ss ms al : List Int} {M : Nat → Bool} (hal : ss ++ ms = al) (hM : ∀ a, M a = true ↔ Rch ws al a) : ∀ a, Rch ws ss a → M a = true := by
  subst hal
  exact fun a ha => (hM a).2 (rch_sub ha)
theorem all_of {ss ms al : List Int} {l : List Nat} (hal : ss ++ ms = al) (h : al.all (rightW l) = true) : ss.all (rightW l) = true := by
  subst hal
  exact all_sub h
theorem pm_mk {w : World} {B g c tn : Nat} {ws : List Int} (h0 : w.cell? ⟨B, 0, none⟩ = some (.slice (some ⟨g, 0, none⟩) ws.length c)) (h1 : w.cell? ⟨B, 1, none⟩ = some (.int .i64 tn)) (hz : w.frozen? ⟨B, 1, none⟩ = false) (hwd : Wd w g c ws) (hne : B ≠ g) (hf : Fit ws) (ht : tn ≤ ws.length) : PM w B g c tn ws :=
  ⟨⟨h0, h1, hz, hwd.row, hwd.le, hwd.max, hne⟩, hf, ht⟩
theorem rd_len {w : World} {g n : Nat} {qs : List Int} (h : LU w g qs) (hn : qs.length = n) (hm : n ≤ 17592186043904) : Rd w (.slice (some ⟨g, 0, none⟩) n n) qs := by
  subst hn
  exact (h.mine (B0 := 0) (Nat.zero_le _)).rd hm
theorem tw_len {a b : Nat} (h : a ≤ 1048576) (k : b ≤ 1048576) : (a + b) * 8 ≤ 140737488355328 := by omega
theorem tw_len0 {a : Nat} (h : a ≤ 1048576) : (([] : List Int).length + a) * 8 ≤ 140737488355328 := by simp; omega
set_option maxRecDepth 100000 in
set_option maxHeartbeats 8000000 in
theorem law_stwice (v : Value) (ws : List Int) (top : Int) (sv : Value) (ss : List Int) (mv : Value) (ms : List Int) (w : World) (hr : Rd w v ws) (hf : Fit ws) (ht : -9223372036854775808 ≤ top ∧ top ≤ 9223372036854775807) (hsr : Rd w sv ss) (hfs : Fit ss) (hsl : ss.length ≤ 1048576) (hmr : Rd w mv ms) (hfm : Fit ms) (hml : ms.length ≤ 1048576) :
    Calls Try.prog 7 #[.agg #[v, .int .i64 top], sv, mv] w fun e w' => e = .returned (.bool true) ∧ Below w.heap.size w w' := by
  have HR := Lib.hid hr
  have HSR := Lib.hid hsr
  have HMR := Lib.hid hmr
  obtain ⟨pv, cv, rfl, hmv⟩ := rd_form0 hr
  obtain ⟨ps, cs, rfl, hms⟩ := rd_form0 hsr
  obtain ⟨pm, cm, rfl, hmm⟩ := rd_form0 hmr
  have HB0 := Lib.hid (show Below w.heap.size w (w.alloc (Obj.cells #[.slice pv ws.length cv, .int .i64 top] 24)) from (Below.refl _ _).alloc (Nat.le_refl _) _)
  clear hr hsr hmr
  go_enter Try.func7, Try.ntmps7
  go_wp2_with fail
  refine (known14 _).mono ?_
  rintro e w1 ⟨rfl, hb⟩
  have y0 := below_cell hb (a := ⟨w.heap.size, 0, none⟩) (v := .slice pv ws.length cv) (by simp)
  have y1 := below_cell hb (a := ⟨w.heap.size, 1, none⟩) (v := .int .i64 top) (by simp)
  have HB1 := Lib.hid (HB0.out.trans (hb.mono (by simp)))
  have hw1 : w.heap.size < w1.heap.size := World.block_lt_of_cell? w1 _ y0
  clear hb HB0
  go_wp2_with first
    | (with_reducible refine wpList_qu (B := w1.heap.size) (xs := []) (ns := ss) (m := ss.length) rfl (.tmp 19) (.tmp 20) rfl rfl rfl (Qu.zero _ _ _) (rd_src ((HSR.out.keep HB1.out).keep ((Below.refl _ _).alloc (Nat.le_refl _) _))) (tw_len0 hsl) (by simp) ?_; intro a1 w2 hqp; rw [List.nil_append] at hqp; obtain ⟨p2, c2, rfl, _⟩ := hqp.qu.form; have HB2 := Lib.hid (tw_below HB1.out hqp.below).1; have hs2 := (tw_below HB1.out hqp.below).2; have y0 := tw_cell hqp.below hw1 (alloc_cell y0 _); have y1 := tw_cell hqp.below hw1 (alloc_cell y1 _); have HQ2 := Lib.hid hqp.qu; have HS2 := Lib.hid (rd_src (HMR.out.keep HB2.out)); clear hqp)
    | (with_reducible refine wpList_qu (B := w1.heap.size) (xs := ss) (ns := ms) (m := ms.length) rfl (.tmp 21) (.tmp 22) rfl rfl rfl ?_ ?_ ?_ ?_ ?_; rotate_left 4)
  rotate_left 1
  · exact HQ2.out
  · exact HS2.out
  · exact tw_len hsl hml
  · exact hs2
  intro a2 w3 hqp
  obtain ⟨p3, c3, rfl, _⟩ := hqp.qu.form
  have HB3 := Lib.hid (HB2.out.trans (hqp.below.mono HB1.out.size))
  have y0 := tw_cell hqp.below hw1 y0
  have y1 := tw_cell hqp.below hw1 y1
  have HQ3 := Lib.hid hqp.qu
  clear hqp
  obtain ⟨al, has⟩ : ∃ al, ss ++ ms = al := ⟨_, rfl⟩
  rw [has] at HQ3 ⊢
  have hal : al.length = ss.length + ms.length := by rw [← has, List.length_append]
  have HAL := Lib.hid hal
  have HR3 := Lib.hid (HQ3.out.rd (by omega))
  have HFA := Lib.hid (show Fit al by rw [← has]; exact fit_app hfs hfm)
  have HAS := Lib.hid has
  clear hal has
  go_wp2_with fail
  refine (copy13_any _ ws top w3 (HR.out.keep HB3.out)).mono ?_
  rintro e w4 ⟨v4, rfl, hown, hb⟩
  have hw3 : w.heap.size < w3.heap.size := World.block_lt_of_cell? w3 _ y0
  have y0 := below_cell hb y0
  have y1 := below_cell hb y1
  have HB4 := Lib.hid (HB3.out.trans (hb.mono HB3.out.size))
  have HR4 := Lib.hid (HR3.out.keep hb)
  have hs34 := hb.size
  have hw4 : w.heap.size < w4.heap.size := World.block_lt_of_cell? w4 _ y0
  have HOWN := Lib.hid hown
  have hv2 : ∃ p c, v4 = .slice p ws.length c := by
    rcases hown.2 with ⟨e, e2⟩ | ⟨g, cap, cur, e, _⟩
    · exact ⟨none, 0, by rw [e, e2]⟩
    · exact ⟨_, _, e⟩
  obtain ⟨p4, c4, rfl⟩ := hv2
  have HRD4 := Lib.hid (rd_own hown hmv)
  have y0a := fun o => alloc_cell y0 o
  have y1a := fun o => alloc_cell y1 o
  have HK34 := Lib.hid hb
  clear hb hown HQ2 HS2 HQ3
  go_wp2_with fail
  obtain ⟨w5, hw5⟩ : ∃ w5, w4.alloc (Obj.cells #[.slice p4 ws.length c4, .int .i64 top] 24) = w5 := ⟨_, rfl⟩
  rw [hw5]
  have hb5 : Below w4.heap.size w4 w5 := by rw [← hw5]; exact (Below.refl _ _).alloc (Nat.le_refl _) _
  have z0 : w5.cell? ⟨w4.heap.size, 0, none⟩ = some (.slice p4 ws.length c4) := by rw [← hw5]; simp
  have z1 : w5.cell? ⟨w4.heap.size, 1, none⟩ = some (.int .i64 top) := by rw [← hw5]; simp
  have y0 := below_cell hb5 y0
  have y1 := below_cell hb5 y1
  have HB5 := Lib.hid (HB4.out.trans (hb5.mono HB4.out.size))
  have HR5 := Lib.hid (HR4.out.keep hb5)
  have hs5 : w5.heap.size = w4.heap.size + 1 := by rw [← hw5]; simp
  have HK35 := Lib.hid (HK34.out.trans (hb5.mono HK34.out.size))
  clear y0a y1a
  cases hro : rootsB ws top al
  · have HE := Lib.hid hro
    refine (collect_bad _ _ ws top _ al w5 z0 z1 (HRD4.out.keep hb5) hf ht HR5.out HFA.out hro).mono ?_
    rintro e w6 ⟨rfl, hb⟩
    have HB6 := Lib.hid (HB5.out.trans (hb.mono HB5.out.size))
    have HA6 := Lib.hid (HR5.out.keep hb)
    have y0 := below_cell hb y0
    have y1 := below_cell hb y1
    clear hb hro hw5 hb5
    go_wp2_with fail
    refine (right14_any _ ws top _ al w6 (HR.out.keep HB6.out) hf ht HA6.out HFA.out).mono ?_
    rintro e w7 ⟨rfl, hb⟩
    rw [HE.out]
    have HB7 := Lib.hid (HB6.out.trans (hb.mono HB6.out.size))
    clear hb
    go_wp2_with fail
    go_ret
    exact ⟨rfl, HB7.out⟩
  · have hro' := hro
    obtain ⟨hm, hy, tn, htt, h1, h2, ho, hou, hfree⟩ := roots_split hro hf
    subst htt
    have hml20 := mem_len hm
    obtain ⟨g, c, hv, hg, hgl, hpm⟩ := copy_pm HOWN.out hml20 h2 h1 hf
    injection hv with e1 e2 e3
    subst e1; subst e3
    rw [hw5] at hpm
    clear e2
    have hs35 : w3.heap.size ≤ w5.heap.size := HK35.out.size
    refine (collect_yes hpm hm ho h2 hfree _ al (fun A hA => HR3.out.keep (HK35.out.trans (hA.below hs35 hg))) HFA.out hy).mono ?_
    intro e w6 hco
    obtain ⟨gr, M, res, rfl, hM, hcr, b0, b1, bz, hwd, hlu, hgr, hbt⟩ := hco.out
    obtain ⟨tn2, ht2, hcl⟩ := cl_of hro' hf hM hcr
    obtain rfl : tn2 = tn := by omega
    have HB6 := Lib.hid (HB5.out.trans (hbt.below HB5.out.size (by omega) (by omega)))
    have y0 := (World.cell?_of_block (a := ⟨w.heap.size, 0, none⟩) (hbt.block _ (by dsimp only; omega) (by dsimp only; omega) (by dsimp only; omega))).trans y0
    have y1 := (World.cell?_of_block (a := ⟨w.heap.size, 1, none⟩) (hbt.block _ (by dsimp only; omega) (by dsimp only; omega) (by dsimp only; omega))).trans y1
    obtain ⟨l, hl⟩ : ∃ l, objList ws tn2 = l := ⟨_, rfl⟩
    rw [hl] at hcl hcr hlu b1 hy ho
    have HCL := Lib.hid hcl
    have HM := Lib.hid hM
    have HY := Lib.hid hy
    have hres := hcr.len
    have hmem := hcl.mem
    have hob2 := hcl.ob2
    have h1f : 1 ≤ frK l M (szN ws) l.length := by rw [frK_L]; exact frL_one _ _ _
    have hy2 := hcl.rootR (fun a ha => (hM a).2 ha) hy
    have hfq := hcl.fitR HFA.out (fun a ha => (hM a).2 ha)
    have hql : (al.map (trR ws l M)).length = al.length := List.length_map _
    obtain ⟨f, hff⟩ : ∃ f, frK l M (szN ws) l.length = f := ⟨_, rfl⟩
    obtain ⟨qs, hqs⟩ : ∃ qs, al.map (trR ws l M) = qs := ⟨_, rfl⟩
    obtain ⟨lw, hlw⟩ : ∃ lw, nwL ws l M = lw := ⟨_, rfl⟩
    rw [hff] at hmem hob2 h1f b1
    rw [hqs] at hy2 hfq hql hlu
    rw [hlw] at hmem hob2 hy2
    have HFF := Lib.hid hff
    have HQS := Lib.hid hqs
    have HLW := Lib.hid hlw
    have HMEM := Lib.hid hmem.1
    have HOB2 := Lib.hid hob2
    have HY2 := Lib.hid hy2.1
    have HFQ := Lib.hid hfq
    have HFR := Lib.hid (show Fit res from hcl.fit)
    have HZ := Lib.hid (show ∀ i, f ≤ i → res.getD i 0 = 0 from fun i hi => hcr.zero i (by rw [hff]; exact hi))
    have hfle : f ≤ res.length := hob2.le
    have hmr : res.length ≤ 1048576 := hob2.most
    have HRS6 := Lib.hid (show Rd w6 (.slice (some ⟨g, 0, none⟩) ws.length c4) res by
      have := hwd.rd
      rwa [hres] at this)
    have HLU6 := Lib.hid hlu
    have HOB := Lib.hid ho
    have HFREE := Lib.hid hfree
    have hgr6 := LR.lt hlu
    have hg6 : g < w6.heap.size := hwd.lt
    have hB6 : w4.heap.size < w6.heap.size := World.block_lt_of_cell? w6 _ b0
    clear hco hM hcr hwd hlu hbt hpm hw5 hb5 z0 z1 bz hro hro' hcl hmem hob2 hy hy2 hfq hqs hff hlw ho hou hfree hl HK34 HK35 HR4 HR5 HR3 HRD4 HOWN
    go_wp2_with fail
    refine (copy13_any _ res f w6 HRS6.out).mono ?_
    rintro e w7 ⟨v7, rfl, hown, hb⟩
    have y06 := y0
    have y16 := y1
    have b06 := b0
    have b16 := b1
    have y0 := below_cell hb y0
    have y1 := below_cell hb y1
    have b0 := below_cell hb b0
    have b1 := below_cell hb b1
    have HK67 := Lib.hid hb
    have hs67 := hb.size
    obtain ⟨gd, cd, rfl, hgd, hgdl, hpm⟩ := copy_pm hown hmr h1f hfle HFR.out
    have y0a := fun o => alloc_cell y0 o
    have y1a := fun o => alloc_cell y1 o
    have b0a := fun o => alloc_cell b0 o
    have b1a := fun o => alloc_cell b1 o
    have HPM := Lib.hid hpm
    clear hb hown hpm
    go_wp2_with fail
    obtain ⟨w8, hw8⟩ : ∃ w8, w7.alloc (Obj.cells #[.slice (some ⟨gd, 0, none⟩) ws.length cd, .int .i64 (f : Int)] 24) = w8 := ⟨_, rfl⟩
    have hpm := HPM.out
    rw [hres, hw8] at hpm
    rw [hw8]
    have hb8 : Below w7.heap.size w7 w8 := by rw [← hw8]; exact (Below.refl _ _).alloc (Nat.le_refl _) _
    have hall : al.length ≤ 2097152 := by have := HAL.out; omega
    have hs8 : w8.heap.size = w7.heap.size + 1 := by rw [← hw8]; simp
    have HK68 := Lib.hid (HK67.out.trans (hb8.mono HK67.out.size))
    have hs68 := HK68.out.size
    have hl8 := LR.keep HLU6.out HK68.out
    clear y0a y1a b0a b1a y0 y1 HPM hw8 hb8
    refine (collect_yes hpm HMEM.out HOB2.out h1f HZ.out _ qs (fun A hA => rd_len (LR.block hl8 (hA.block gr (by omega) (by omega))) hql (by omega)) HFQ.out HY2.out).mono ?_
    intro e w9 hco
    obtain ⟨gr2, M2, res2, rfl, hM2, hcr2, d0, d1, dz, hwd, hlu, hgr2, hbt⟩ := hco.out
    obtain ⟨rfl, hf2, hq2⟩ := HCL.out.again HM.out HY.out (M2 := M2) (res2 := res2) (by rw [HQS.out]; exact hM2) (by rw [HLW.out]; exact hcr2)
    rw [HLW.out, HFF.out] at hf2
    rw [HLW.out, HQS.out] at hq2
    rw [hf2] at d1
    rw [hq2] at hlu
    rw [hres] at d0
    have hK69 := HK68.out.trans (hbt.below (by omega) (by omega) (by omega))
    have hs69 := hK69.size
    have y0 := tw_cell hK69 (by dsimp only; omega) y06
    have y1 := tw_cell hK69 (by dsimp only; omega) y16
    have b0 := tw_cell hK69 (by dsimp only; omega) b06
    have b1 := tw_cell hK69 (by dsimp only; omega) b16
    have HK69 := Lib.hid hK69
    have HRC := Lib.hid (HRS6.out.keep hK69)
    have HRD := Lib.hid (show Rd w9 (.slice (some ⟨gd, 0, none⟩) ws.length cd) res2 by
      have := hwd.rd
      rwa [hres] at this)
    have HWD9 := Lib.hid hwd
    have HL9 := Lib.hid (LR.keep HLU6.out hK69)
    have HQ9 := Lib.hid hlu
    have hgd9 := hwd.lt
    have DZ := Lib.hid dz
    have hBd9 : w7.heap.size < w9.heap.size := World.block_lt_of_cell? w9 _ d0
    clear hco hM2 hcr2 hwd hlu hbt hpm hf2 hq2 dz hK69 hl8 HRS6 HLU6
    go_wp2_with fail
    refine (same13 _ _ res2 f w9 HRC.out HRD.out).mono ?_
    rintro e w10 ⟨rfl, hb⟩
    have HK10 := Lib.hid (HK69.out.trans (hb.mono hs69))
    have HK90 := Lib.hid hb
    have y0 := below_cell hb y0
    have y1 := below_cell hb y1
    have b0 := below_cell hb b0
    have b1 := below_cell hb b1
    have d0 := below_cell hb d0
    have d1 := below_cell hb d1
    have hsle : ss.length ≤ al.length := by have := HAL.out; omega
    clear hb
    go_wp2_with fail
    refine (samew _ _ qs w10 (rd_len (LR.keep HQ9.out HK90.out) hql (by omega)) (rd_len (LR.keep HL9.out HK90.out) hql (by omega))).mono ?_
    rintro e w11 ⟨rfl, q, rfl⟩
    obtain ⟨w11, hw11⟩ : ∃ w11, w10.drewN q = w11 := ⟨_, rfl⟩
    rw [hw11]
    have hb : Below w10.heap.size w10 w11 := by rw [← hw11]; exact below_drewN (Below.refl _ _) q
    have hsle2 : (ss.length : Int) ≤ (al.length : Int) := Int.ofNat_le.2 hsle
    have HK11 := Lib.hid (HK10.out.trans (hb.mono HK10.out.size))
    have HK91 := Lib.hid (HK90.out.trans (hb.mono HK90.out.size))
    have y0 := below_cell hb y0
    have y1 := below_cell hb y1
    have b0 := below_cell hb b0
    have b1 := below_cell hb b1
    have d0 := below_cell hb d0
    have d1 := below_cell hb d1
    clear hb hw11
    go_wp2_with fail
    have hpm := pm_mk (by rw [hres]; exact d0) d1 (by rw [World.frozen?_of_block (a := ⟨w7.heap.size, 1, none⟩) (HK91.out.block _ (by dsimp only; omega))]; exact DZ.out) (HWD9.out.keep HK91.out) (by omega) HFR.out hfle
    have hle1 := le_of HAS.out HM.out
    have hy1 := all_of HAS.out HY.out
    have hy3 := (HCL.out.rootR hle1 hy1).1
    have hfq1 := HCL.out.fitR hfs hle1
    have hl11 := LR.keep HL9.out HK91.out
    have hs11 := HK11.out.size
    have hq1 : qs = ss.map (trR ws l M) ++ ms.map (trR ws l M) := by rw [← HQS.out, ← HAS.out, List.map_append]
    have hs91 := HK91.out.size
    rw [HLW.out] at hy3
    refine (collect_yes hpm HMEM.out HOB2.out h1f HZ.out _ (ss.map (trR ws l M)) (fun A hA => rd_front (LR.block hl11 (hA.block gr (by omega) (by omega))) hq1 hql (List.length_map _) (by omega)) hfq1 hy3).mono ?_
    intro e w12 hco
    obtain ⟨gr3, M3, res3, rfl, hM3, hcr3, d0, d1, dz, hwd, hlu, hgr3, hbt⟩ := hco.out
    rw [List.length_map]
    rw [hres] at d0
    have d02 := d0
    have d12 := d1
    have hK12 := HK11.out.trans (hbt.below (by omega) (by omega) (by omega))
    have hs12 := hK12.size
    have y0 := tw_cell hK12 (by dsimp only; omega) y06
    have y1 := tw_cell hK12 (by dsimp only; omega) y16
    have HB12 := Lib.hid (HB6.out.trans (hK12.mono HB6.out.size))
    have HM3 := Lib.hid hM3
    have HCR3 := Lib.hid hcr3
    have hres3 := hcr3.len
    rw [hres] at hres3
    have HRD12 := Lib.hid (show Rd w12 (.slice (some ⟨gd, 0, none⟩) ws.length cd) res3 by
      have := hwd.rd
      rwa [hres3] at this)
    have HL12 := Lib.hid hlu
    have hB12 : w7.heap.size < w12.heap.size := World.block_lt_of_cell? w12 _ d0
    clear hco hpm hM3 hcr3 hwd hlu hbt hK12 hl11 hq1 hy3 hfq1 hle1 dz HL9 HQ9 HWD9 HRC HRD DZ b0 b1 b06 b16
    go_wp2_with fail
    refine (copy13_any _ ws tn2 w12 (HR.out.keep HB12.out)).mono ?_
    rintro e w13 ⟨v13, rfl, hown, hb⟩
    have y0 := below_cell hb y0
    have y1 := below_cell hb y1
    have d0 := below_cell hb d0
    have d1 := below_cell hb d1
    have HK13 := Lib.hid hb
    have hs13 := hb.size
    obtain ⟨gf, cf, rfl, hgf, hgfl, hpm⟩ := copy_pm hown hml20 h2 h1 hf
    have y0a := fun o => alloc_cell y0 o
    have y1a := fun o => alloc_cell y1 o
    have d0a := fun o => alloc_cell d0 o
    have d1a := fun o => alloc_cell d1 o
    have HPM := Lib.hid hpm
    clear hb hown hpm
    go_wp2_with fail
    obtain ⟨w14, hw14⟩ : ∃ w14, w13.alloc (Obj.cells #[.slice (some ⟨gf, 0, none⟩) ws.length cf, .int .i64 (tn2 : Int)] 24) = w14 := ⟨_, rfl⟩
    have hpm := HPM.out
    rw [hw14] at hpm
    rw [hw14]
    have hb14 : Below w13.heap.size w13 w14 := by rw [← hw14]; exact (Below.refl _ _).alloc (Nat.le_refl _) _
    have hs14 : w14.heap.size = w13.heap.size + 1 := by rw [← hw14]; simp
    have HK14 := Lib.hid (HK13.out.trans (hb14.mono HK13.out.size))
    have HB14 := Lib.hid (HB12.out.trans (HK14.out.mono HB12.out.size))
    clear y0a y1a d0a d1a HPM hw14 hb14
    refine (collect_yes hpm hm HOB.out h2 HFREE.out _ ss (fun A hA => HSR.out.keep (HB14.out.trans (hA.below HB14.out.size (by omega)))) hfs hy1).mono ?_
    intro e w15 hco
    obtain ⟨gr4, M4, res4, rfl, hM4, hcr4, f0, f1, fz, hwd, hlu, hgr4, hbt⟩ := hco.out
    have hfw := fw_of HAS.out HCL.out HM.out HY.out HM3.out hM4
    have hco3 := hfw.co (by rw [HLW.out]; exact HCR3.out)
    obtain rfl := CO.unique hcr4 hco3
    have htp := hfw.top
    have hrt := hfw.roots
    rw [HLW.out] at htp hrt
    rw [htp] at d12
    have hl12 := HL12.out
    rw [hrt] at hl12
    have hK15 := HK14.out.trans (hbt.below HK14.out.size (by omega) (by omega))
    have HB15 := Lib.hid (HB12.out.trans (hK15.mono HB12.out.size))
    have d0 := tw_cell hK15 (by dsimp only; omega) d02
    have d1 := tw_cell hK15 (by dsimp only; omega) d12
    have HRD15 := Lib.hid (HRD12.out.keep hK15)
    have HRF15 := Lib.hid (show Rd w15 (.slice (some ⟨gf, 0, none⟩) ws.length cf) res4 by
      have := hwd.rd
      rwa [hres3] at this)
    have HP15 := Lib.hid (rd_len (LR.keep hl12 hK15) (by rw [List.length_map]) (Nat.le_trans hsl (by omega)))
    have HS15 := Lib.hid (rd_len hlu (by rw [List.length_map]) (Nat.le_trans hsl (by omega)))
    clear hco hpm hM4 hcr4 hwd hlu hbt hfw hco3 htp hrt hl12 hK15 d02 d12 fz y0 y1 HM3 HCR3 HL12
    generalize frK l M4 (szN ws) l.length = tp at *
    generalize ss.map (trR ws l M4) = q4 at *
    go_wp2_with fail
    refine (same13 _ _ res4 tp w15 HRD15.out HRF15.out).mono ?_
    rintro e w16 ⟨rfl, hb⟩
    have HB16 := Lib.hid (HB15.out.trans (hb.mono HB15.out.size))
    have HP16 := Lib.hid (HP15.out.keep hb)
    have HS16 := Lib.hid (HS15.out.keep hb)
    clear hb d0 d1 f0 f1
    go_wp2_with fail
    refine (samew _ _ q4 w16 HP16.out HS16.out).mono ?_
    rintro e w17 ⟨rfl, q2, rfl⟩
    go_wp2_with fail
    go_ret
    exact ⟨rfl, below_drewN HB16.out q2⟩
end Go.Proofs.Ytfhjpgbnojdlkaa
