/- The law SlideReaches. The law SlideCollects. -/
import Derived.Test.YtfhjpgbnojdlkaaPGSlRf
import Derived.Test.YtfhjpgbnojdlkaaPHas
import Derived.Test.YtfhjpgbnojdlkaaPSameInts
import Derived.Test.YtfhjpgbnojdlkaaPGSlRc
import Derived.Test.YtfhjpgbnojdlkaaPSame13
namespace Go.Proofs.Ytfhjpgbnojdlkaa
section
open Go Go.ChangeShapes Go.WideShapes Go.ChangeAt Go.RowKit
set_option linter.unusedVariables false
set_option linter.unusedSimpArgs false
theorem potN_take {ws : List Int} {tn : Nat} {l : List Nat} (ho : Ob ws tn l) : ∀ k, k ≤ l.length → potN (l.take k) (tgN ws) (fun _ => false) + 1 ≤ nxO l tn k := by
  intro k
  induction k with
  | zero => intro _; rw [ho.one]; simp [potN]
  | succ k ih =>
    intro hk
    have hk' : k < l.length := hk
    have h1 := ih (by omega)
    have h2 := ho.step k hk'
    have h3 := ho.in1 _ (mem_getD hk')
    rw [nxO_lt hk'] at h1
    have e : l.getD k 0 = l[k] := by rw [List.getD_eq_getElem?_getD, List.getElem?_eq_getElem hk']; rfl
    rw [List.take_succ_eq_append_getElem hk', ← e]
    have : potN (l.take k ++ [l.getD k 0]) (tgN ws) (fun _ => false) = potN (l.take k) (tgN ws) (fun _ => false) + (tgN ws (l.getD k 0) + 1) := by
      unfold potN; rw [List.map_append, List.sum_append]; simp
    rw [this, h2]; omega
theorem potN_le {ws : List Int} {tn : Nat} {l : List Nat} (ho : Ob ws tn l) : potN l (tgN ws) (fun _ => false) ≤ 1048576 + 1048576 := by
  have := potN_take ho l.length (Nat.le_refl _)
  rw [List.take_length, nxO_ge (Nat.lt_irrefl _)] at this
  have := ho.le; have := ho.most
  omega
/-- Reach, whatever it is given. -/
theorem sreach_bad (v : Value) (ws : List Int) (top : Int) (rv : Value) (rs : List Int) (w : World) (hr : Rd w v ws) (hf : Fit ws) (ht : -9223372036854775808 ≤ top ∧ top ≤ 9223372036854775807) (hrr : Rd w rv rs) (hfr : Fit rs) (h : rootsB ws top rs = false) :
    Calls Try.prog 12 #[.agg #[v, .int .i64 top], rv] w fun e w' => e = .returned (.tuple #[.slice none 0 0, .int .i64 3]) ∧ Below w.heap.size w w' := by
  cases hm : memOk ws top
  · exact sreach_no1 v ws top rv w hr hf ht hm
  · unfold rootsB at h
    rw [hm, Bool.true_and] at h
    obtain ⟨tn, rfl, h1, h2, ho, _, _⟩ := ob_mem hm hf
    exact sreach_no2 v ws tn rv rs w hr hf ht hm hrr hfr ho h
theorem roots_split {ws : List Int} {top : Int} {rs : List Int} (h : rootsB ws top rs = true) (hf : Fit ws) : memOk ws top = true ∧ rs.all (rightW (objList ws top)) = true ∧ ∃ tn : Nat, top = (tn : Int) ∧ tn ≤ ws.length ∧ 1 ≤ tn ∧ Ob ws tn (objList ws top) ∧ Ob (ws.take tn) tn (objList ws top) ∧ ∀ i, tn ≤ i → ws.getD i 0 = 0 := by
  unfold rootsB at h
  rw [Bool.and_eq_true] at h
  exact ⟨h.1, h.2, ob_mem h.1 hf⟩
theorem sreach_good (v : Value) (ws : List Int) (top : Int) (rv : Value) (rs : List Int) (w : World) (hr : Rd w v ws) (hf : Fit ws) (ht : -9223372036854775808 ≤ top ∧ top ≤ 9223372036854775807) (hrr : Rd w rv rs) (hfr : Fit rs) (h : rootsB ws top rs = true) :
    Calls Try.prog 12 #[.agg #[v, .int .i64 top], rv] w (RePost ws (objList ws top) rs w) := by
  obtain ⟨hm, hy, tn, rfl, h1, h2, ho, hou, _⟩ := roots_split h hf
  exact sreach_yes v ws tn _ rv rs w hr hf ht hm hrr hfr ho hou h2 hy
theorem ri_ow {w : World} {B : Nat} {u : Value} {l : List Nat} (h : OW .i64 3 w B u (l.map fun n : Nat => (n : Int))) (hm : l.length ≤ 9223372036854775807) : Ri w u l := by
  refine ri_own (B := B) ?_ hm
  unfold OW at h
  rw [List.length_map, List.map_map] at h
  exact h
set_option maxRecDepth 100000 in
set_option maxHeartbeats 1000000 in
theorem law_sreach (v : Value) (ws : List Int) (top : Int) (rv : Value) (rs : List Int) (w : World) (hr : Rd w v ws) (hf : Fit ws) (ht : -9223372036854775808 ≤ top ∧ top ≤ 9223372036854775807) (hrr : Rd w rv rs) (hfr : Fit rs) (hml : rs.length ≤ 1048576) :
    Calls Try.prog 3 #[.agg #[v, .int .i64 top], rv] w fun e w' => e = .returned (.bool true) ∧ Below w.heap.size w w' := by
  have HR := Lib.hid hr
  have HRR := Lib.hid hrr
  obtain ⟨pv, cv, rfl, hmv⟩ := rd_form0 hr
  obtain ⟨pr, cr, rfl, hmr⟩ := rd_form0 hrr
  have HB0 := Lib.hid (show Below w.heap.size w (w.alloc (Obj.cells #[.slice pv ws.length cv, .int .i64 top] 24)) from (Below.refl _ _).alloc (Nat.le_refl _) _)
  clear hr hrr
  go_enter Try.func3, Try.ntmps3
  go_wp2_with fail
  refine (known14 _).mono ?_
  rintro e w1 ⟨rfl, hb⟩
  have y0 := below_cell hb (a := ⟨w.heap.size, 0, none⟩) (v := .slice pv ws.length cv) (by simp)
  have y1 := below_cell hb (a := ⟨w.heap.size, 1, none⟩) (v := .int .i64 top) (by simp)
  have HB1 := Lib.hid (HB0.out.trans (hb.mono (by simp)))
  clear hb HB0
  go_wp2_with fail
  cases hro : rootsB ws top rs
  · have HE := Lib.hid hro
    refine (sreach_bad _ ws top _ rs w1 (HR.out.keep HB1.out) hf ht (HRR.out.keep HB1.out) hfr hro).mono ?_
    rintro e w2 ⟨rfl, hb⟩
    have HB2 := Lib.hid (HB1.out.trans (hb.mono HB1.out.size))
    have y0 := below_cell hb y0
    have y1 := below_cell hb y1
    clear hb hro
    go_wp2_with fail
    refine (right14_any _ ws top _ rs w2 (HR.out.keep HB2.out) hf ht (HRR.out.keep HB2.out) hfr).mono ?_
    rintro e w3 ⟨rfl, hb⟩
    rw [HE.out]
    have HB3 := Lib.hid (HB2.out.trans (hb.mono HB2.out.size))
    clear hb
    go_wp2_with fail
    go_ret
    exact ⟨rfl, HB3.out⟩
  · have HE := Lib.hid hro
    refine (sreach_good _ ws top _ rs w1 (HR.out.keep HB1.out) hf ht (HRR.out.keep HB1.out) hfr hro).mono ?_
    rintro e w2 ⟨u, M, rfl, hM, hu, hb⟩
    have HB2 := Lib.hid (HB1.out.trans (hb.mono HB1.out.size))
    have HM := Lib.hid hM
    have HU := Lib.hid hu
    obtain ⟨pu, cu, rfl⟩ := ow_form hu
    have y0 := below_cell hb y0
    have y1 := below_cell hb y1
    clear hb hro hM hu
    simp only [List.length_map]
    go_wp2_with fail
    refine (right14_any _ ws top _ rs w2 (HR.out.keep HB2.out) hf ht (HRR.out.keep HB2.out) hfr).mono ?_
    rintro e w3 ⟨rfl, hb⟩
    rw [HE.out]
    have HB3 := Lib.hid (HB2.out.trans (hb.mono HB2.out.size))
    have HU3 := Lib.hid (OW.keep HU.out hb)
    have y0 := below_cell hb y0
    have y1 := below_cell hb y1
    clear hb
    go_wp2_with fail
    obtain ⟨hm, hy, tn, htt, h1, h2, ho, hou, _⟩ := roots_split HE.out hf
    subst htt
    refine (rreach14_any ho _ w3 (HR.out.keep HB3.out) _ rs (HRR.out.keep HB3.out) hfr hy h2 hml (potN_le ho)).mono ?_
    rintro e w4 ⟨u4, N, rfl, hN, hu4, hb⟩
    have hNM : N = M := by
      funext a
      rw [Bool.eq_iff_iff, hN, HM.out]
    subst hNM
    have HB4 := Lib.hid (HB3.out.trans (hb.mono HB3.out.size))
    have hln : ((objList ws tn).filter N).length ≤ 9223372036854775807 := by
      have := objs_len ws tn
      have := List.length_filter_le N (objList ws tn)
      omega
    have HI1 := Lib.hid (ri_ow (OW.keep HU3.out hb) hln)
    have HI2 := Lib.hid (ri_ow hu4 hln)
    rw [List.length_map] at HI1
    clear hb hu4 hN hm hy h1 h2 ho hou hln
    go_wp2_with fail
    refine (sameints _ _ _ w4 HI1.out HI2.out).mono ?_
    rintro e w5 ⟨rfl, q, rfl⟩
    go_wp2_with fail
    go_ret
    exact ⟨rfl, below_drewN HB4.out q⟩
end
section
open Go Go.ChangeShapes Go.WideShapes Go.ChangeAt Go.RowKit
set_option linter.unusedVariables false
set_option linter.unusedSimpArgs false
/-- Collect, where memory or roots aren't right. -/
theorem collect_bad (B : Nat) (v : Value) (ws : List Int) (top : Int) (rv : Value) (rs : List Int) (w : World) (h0 : w.cell? ⟨B, 0, none⟩ = some v) (h1 : w.cell? ⟨B, 1, none⟩ = some (.int .i64 top)) (hr : Rd w v ws) (hf : Fit ws) (ht : -9223372036854775808 ≤ top ∧ top ≤ 9223372036854775807) (hrr : Rd w rv rs) (hfr : Fit rs) (h : rootsB ws top rs = false) :
    Calls Try.prog 17 #[.pointer (some ⟨B, 0, none⟩), rv] w fun e w' => e = .returned (.tuple #[.slice none 0 0, .int .i64 3]) ∧ Below w.heap.size w w' := by
  cases hm : memOk ws top
  · exact collect_no1 B v ws top rv w h0 h1 hr hf ht hm
  · unfold rootsB at h
    rw [hm, Bool.true_and] at h
    obtain ⟨tn, rfl, h2, h3, ho, _, _⟩ := ob_mem hm hf
    exact collect_no2 B v ws tn rv rs w h0 h1 hr hf ht hm hrr hfr ho h
/-- A copy lies in memory of the call's own. -/
theorem copy_pm {w1 : World} {B0 tn : Nat} {v' : Value} {ws : List Int} (h : w1.ownsRow B0 46 1 v' ws.length (ws.map (Value.int .u64))) (hm : ws.length ≤ 1048576) (h1 : 1 ≤ tn) (h2 : tn ≤ ws.length) (hf : Fit ws) :
    ∃ g c, v' = .slice (some ⟨g, 0, none⟩) ws.length c ∧ B0 ≤ g ∧ g < w1.heap.size ∧ PM (w1.alloc (.cells #[v', .int .i64 tn] 24)) w1.heap.size g c tn ws := by
  obtain ⟨g, c, rfl, hg, hwd⟩ := wd_own h (by omega) (by omega)
  have hgl := hwd.lt
  have hwk := hwd.keep ((Below.refl _ _).alloc (Nat.le_refl _) (Obj.cells #[.slice (some ⟨g, 0, none⟩) ws.length c, .int .i64 (tn : Int)] 24))
  refine ⟨g, c, rfl, hg, hgl, ⟨by simp, by simp, by simp, hwk.row, hwk.le, hwk.max, by omega⟩, hf, h2⟩
theorem rd_own {w1 : World} {B0 : Nat} {v' : Value} {ws : List Int} (h : w1.ownsRow B0 46 1 v' ws.length (ws.map (Value.int .u64))) (hm : ws.length ≤ 17592186043904) : Rd w1 v' ws := OW.rd h hm
theorem CoPost.out {B g c tn : Nat} {ws : List Int} {l : List Nat} {rs : List Int} {w w' : World} {e : Ending} (h : CoPost B g c tn ws l rs w e w') : ∃ gr M res, e = .returned (.tuple #[.slice (some ⟨gr, 0, none⟩) rs.length rs.length, .int .i64 0]) ∧ (∀ a, M a = true ↔ Rch ws rs a) ∧ CO ws l M res ∧ w'.cell? ⟨B, 0, none⟩ = some (.slice (some ⟨g, 0, none⟩) ws.length c) ∧ w'.cell? ⟨B, 1, none⟩ = some (.int .i64 (frK l M (szN ws) l.length)) ∧ w'.frozen? ⟨B, 1, none⟩ = false ∧ Wd w' g c res ∧
    LU w' gr (rs.map (trR ws l M)) ∧ w.heap.size ≤ gr ∧ ButB B g w w' := h
theorem ButB.below {B g X : Nat} {a b : World} (h : ButB B g a b) (hX : X ≤ a.heap.size) (hB : X ≤ B) (hg : X ≤ g) : Below X a b :=
  ⟨h.os, h.tape, h.output, h.size, fun q hq => h.block q (by omega) (by omega) (by omega)⟩
set_option maxRecDepth 100000 in
set_option maxHeartbeats 1000000 in
theorem law_scollect (v : Value) (ws : List Int) (top : Int) (rv : Value) (rs : List Int) (w : World) (hr : Rd w v ws) (hf : Fit ws) (ht : -9223372036854775808 ≤ top ∧ top ≤ 9223372036854775807) (hrr : Rd w rv rs) (hfr : Fit rs) (hml : rs.length ≤ 1048576) :
    Calls Try.prog 4 #[.agg #[v, .int .i64 top], rv] w fun e w' => e = .returned (.bool true) ∧ Below w.heap.size w w' := by
  have HR := Lib.hid hr
  have HRR := Lib.hid hrr
  obtain ⟨pv, cv, rfl, hmv⟩ := rd_form0 hr
  obtain ⟨pr, cr, rfl, hmr⟩ := rd_form0 hrr
  have HB0 := Lib.hid (show Below w.heap.size w (w.alloc (Obj.cells #[.slice pv ws.length cv, .int .i64 top] 24)) from (Below.refl _ _).alloc (Nat.le_refl _) _)
  clear hr hrr
  go_enter Try.func4, Try.ntmps4
  go_wp2_with fail
  refine (known14 _).mono ?_
  rintro e w1 ⟨rfl, hb⟩
  have y0 := below_cell hb (a := ⟨w.heap.size, 0, none⟩) (v := .slice pv ws.length cv) (by simp)
  have y1 := below_cell hb (a := ⟨w.heap.size, 1, none⟩) (v := .int .i64 top) (by simp)
  have HB1 := Lib.hid (HB0.out.trans (hb.mono (by simp)))
  have hw1 : w.heap.size < w1.heap.size := World.block_lt_of_cell? w1 _ y0
  clear hb HB0
  go_wp2_with fail
  refine (copy13_any _ ws top w1 (HR.out.keep HB1.out)).mono ?_
  rintro e w2 ⟨v2, rfl, hown, hb⟩
  have y0 := below_cell hb y0
  have y1 := below_cell hb y1
  have HB2 := Lib.hid (HB1.out.trans (hb.mono HB1.out.size))
  have HB12 := Lib.hid hb
  have hw2 : w.heap.size < w2.heap.size := World.block_lt_of_cell? w2 _ y0
  have HOWN := Lib.hid hown
  have hv2 : ∃ p c, v2 = .slice p ws.length c := by
    rcases hown.2 with ⟨e, e2⟩ | ⟨g, cap, cur, e, _⟩
    · exact ⟨none, 0, by rw [e, e2]⟩
    · exact ⟨_, _, e⟩
  obtain ⟨p2, c2, rfl⟩ := hv2
  have HRD2 := Lib.hid (rd_own hown hmv)
  have y0a := fun o => alloc_cell y0 o
  have y1a := fun o => alloc_cell y1 o
  clear hb hown
  go_wp2_with fail
  obtain ⟨w3, hw3⟩ : ∃ w3, w2.alloc (Obj.cells #[.slice p2 ws.length c2, .int .i64 top] 24) = w3 := ⟨_, rfl⟩
  rw [hw3]
  have hb3 : Below w2.heap.size w2 w3 := by rw [← hw3]; exact (Below.refl _ _).alloc (Nat.le_refl _) _
  have z0 : w3.cell? ⟨w2.heap.size, 0, none⟩ = some (.slice p2 ws.length c2) := by rw [← hw3]; simp
  have z1 : w3.cell? ⟨w2.heap.size, 1, none⟩ = some (.int .i64 top) := by rw [← hw3]; simp
  have y0 := below_cell hb3 y0
  have y1 := below_cell hb3 y1
  have HB3 := Lib.hid (HB2.out.trans (hb3.mono HB2.out.size))
  clear y0a y1a
  cases hro : rootsB ws top rs
  · have HE := Lib.hid hro
    refine (collect_bad _ _ ws top _ rs w3 z0 z1 (HRD2.out.keep hb3) hf ht (HRR.out.keep HB3.out) hfr hro).mono ?_
    rintro e w4 ⟨rfl, hb⟩
    have HB4 := Lib.hid (HB3.out.trans (hb.mono HB3.out.size))
    have HRD4 := Lib.hid ((HRD2.out.keep hb3).keep hb)
    have y0 := below_cell hb y0
    have y1 := below_cell hb y1
    have z0 := below_cell hb z0
    have z1 := below_cell hb z1
    clear hb hro hw3 hb3
    go_wp2_with fail
    refine (collect_nil _ w4).mono ?_
    rintro e w5 ⟨rfl, rfl⟩
    go_wp2_with fail
    refine (right14_any _ ws top _ rs w5 (HR.out.keep HB4.out) hf ht (HRR.out.keep HB4.out) hfr).mono ?_
    rintro e w6 ⟨rfl, hb⟩
    rw [HE.out]
    have HB6 := Lib.hid (HB4.out.trans (hb.mono HB4.out.size))
    have HRD6 := Lib.hid (HRD4.out.keep hb)
    have y0 := below_cell hb y0
    have y1 := below_cell hb y1
    have z0 := below_cell hb z0
    have z1 := below_cell hb z1
    clear hb
    go_wp2_with fail
    refine (same13 _ _ ws top w6 HRD6.out (HR.out.keep HB6.out)).mono ?_
    rintro e w7 ⟨rfl, hb⟩
    have HB7 := Lib.hid (HB6.out.trans (hb.mono HB6.out.size))
    clear hb
    go_wp2_with fail
    go_ret
    exact ⟨rfl, HB7.out⟩
  · have HE := Lib.hid hro
    obtain ⟨hm, hy, tn, htt, h1, h2, ho, hou, hfree⟩ := roots_split hro hf
    subst htt
    have hml20 := mem_len hm
    obtain ⟨g, c, hv, hg, hgl, hpm⟩ := copy_pm HOWN.out hml20 h2 h1 hf
    injection hv with e1 e2 e3
    subst e1; subst e3
    rw [hw3] at hpm
    have HBW3 := HB3.out.size
    have hwg : w.heap.size ≤ g := Nat.le_trans HB1.out.size hg
    refine (collect_yes hpm hm ho h2 hfree _ rs (fun A hA => HRR.out.keep (HB3.out.trans (hA.below HBW3 hwg))) hfr hy).mono ?_
    intro e w4 hco
    obtain ⟨gr, M, res, rfl, hM, hcr, b0, b1, bz, hwd, hlu, hgr, hbt⟩ := hco.out
    have HB4 := Lib.hid (HB3.out.trans (hbt.below HBW3 (by omega) hwg))
    have HM := Lib.hid hM
    have HCR := Lib.hid hcr
    have HRS := Lib.hid (show Rd w4 (.slice (some ⟨g, 0, none⟩) ws.length c2) res by
      have := hwd.rd
      rwa [hcr.len] at this)
    have HLU := Lib.hid hlu
    have hs4 : w.heap.size < w3.heap.size := World.block_lt_of_cell? w3 _ y0
    have y0 := (World.cell?_of_block (a := ⟨w.heap.size, 0, none⟩) (hbt.block _ (by dsimp only; omega) (by dsimp only; omega) (by dsimp only; omega))).trans y0
    have y1 := (World.cell?_of_block (a := ⟨w.heap.size, 1, none⟩) (hbt.block _ (by dsimp only; omega) (by dsimp only; omega) (by dsimp only; omega))).trans y1
    clear hco hM hcr hwd hlu hbt hpm hw3 hb3 z0 z1 bz hro
    go_wp2_with fail
    refine (collect_nil _ w4).mono ?_
    rintro e w5 ⟨rfl, rfl⟩
    go_wp2_with fail
    refine (right14_any _ ws tn _ rs w5 (HR.out.keep HB4.out) hf ht (HRR.out.keep HB4.out) hfr).mono ?_
    rintro e w6 ⟨rfl, hb⟩
    rw [HE.out]
    have HB6 := Lib.hid (HB4.out.trans (hb.mono HB4.out.size))
    have HRS6 := Lib.hid (HRS.out.keep hb)
    have HLU6 := Lib.hid (LR.keep HLU.out hb)
    have y0 := below_cell hb y0
    have y1 := below_cell hb y1
    have b0 := below_cell hb b0
    have b1 := below_cell hb b1
    clear hb
    have hn0 : ws.getD 0 0 = 0 := by
      have := hm
      unfold memOk sizesOk at this
      simp only [Bool.and_eq_true, decide_eq_true_eq] at this
      omega
    go_wp2_with fail
    refine (rcollect_any ho _ w6 (HR.out.keep HB6.out) _ rs (HRR.out.keep HB6.out) hfr hy h2 hn0 hml (potN_le ho)).mono ?_
    rintro e w7 ⟨go, N, res2, rv2, rfl, hN, hcr2, hlu2, how2, hb⟩
    have hNM : N = M := by
      funext a
      rw [Bool.eq_iff_iff, hN, HM.out]
    subst hNM
    obtain rfl := CO.unique hcr2 HCR.out
    have hres := hcr2.len
    have HB7 := Lib.hid (HB6.out.trans (hb.mono HB6.out.size))
    have HRS7 := Lib.hid (HRS6.out.keep hb)
    have HR2 := Lib.hid (show Rd w7 (.slice (some ⟨go, 0, none⟩) ws.length ws.length) res2 by
      have := (hlu2.mine (B0 := 0) (Nat.zero_le _)).rd (by omega)
      rwa [hres] at this)
    have HLU7 := Lib.hid (show Rd w7 (.slice (some ⟨gr, 0, none⟩) rs.length rs.length) (rs.map (trR ws (objList ws tn) N)) by
      have := ((LR.keep HLU6.out hb).mine (B0 := 0) (Nat.zero_le _)).rd (by rw [List.length_map]; omega)
      rwa [List.length_map] at this)
    have HO2 := Lib.hid (show Rd w7 rv2 (rs.map (trR ws (objList ws tn) N)) from OW.rd how2 (by rw [List.length_map]; omega))
    have b0 := below_cell hb b0
    have b1 := below_cell hb b1
    clear hb hN hcr2 hlu2 how2 hres hn0 y0 y1 hm hy ho hou hfree
    generalize frK (objList ws tn) N (szN ws) (objList ws tn).length = tp at *
    generalize rs.map (trR ws (objList ws tn) N) = qs at *
    have b0a := fun o => alloc_cell b0 o
    have b1a := fun o => alloc_cell b1 o
    go_wp2_with fail
    obtain ⟨w8, hw8⟩ : ∃ w8, w7.alloc (Obj.cells #[.slice (some ⟨go, 0, none⟩) ws.length ws.length, .int .i64 (tp : Int)] 24) = w8 := ⟨_, rfl⟩
    rw [hw8]
    have hb8 : Below w7.heap.size w7 w8 := by rw [← hw8]; exact (Below.refl _ _).alloc (Nat.le_refl _) _
    have HB8 := Lib.hid (HB7.out.trans (hb8.mono HB7.out.size))
    refine (same13 _ _ res2 tp w8 (HRS7.out.keep hb8) (HR2.out.keep hb8)).mono ?_
    rintro e w9 ⟨rfl, hb9⟩
    have HB9 := Lib.hid (HB8.out.trans (hb9.mono HB8.out.size))
    have HL9 := Lib.hid ((HLU7.out.keep hb8).keep hb9)
    have HO9 := Lib.hid ((HO2.out.keep hb8).keep hb9)
    clear hb8 hb9 hw8 b0 b1 b0a b1a
    go_wp2_with fail
    refine (samew _ _ qs w9 HL9.out HO9.out).mono ?_
    rintro e w10 ⟨rfl, q, rfl⟩
    go_wp2_with fail
    go_ret
    exact ⟨rfl, below_drewN HB9.out q⟩
end
end Go.Proofs.Ytfhjpgbnojdlkaa
