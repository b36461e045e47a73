/- The law SlideReaches. -/
import Derived.Test.YtfhjpgbnojdlkaaPGSlRf
import Derived.Test.YtfhjpgbnojdlkaaPHas
import Derived.Test.YtfhjpgbnojdlkaaPSameInts
namespace Go.Proofs.Ytfhjpgbnojdlkaa
open Go Go.ChangeShapes Go.WideShapes Go.ChangeAt Go.RowKit
set_option linter.unusedVariables false
set_option linter.unusedSimpArgs false
theorem potN_take {ws : List Int} {tn : Nat} {l : List Nat} (ho : Ob ws tn l) : ∀ k, k ≤ l.length → potN (l.take k) (tgN ws) (fun _ => false) + 1 ≤ nxO l tn k := by
  intro k
  induction k with
  | zero => intro _; rw [ho.one]; simp [potN]
  | succ k ih =>
    intro hk
    have hk' : k < l.length := hk
    have h1 := ih (by omega)
    have h2 := ho.step k hk'
    have h3 := ho.in1 _ (mem_getD hk')
    rw [nxO_lt hk'] at h1
    have e : l.getD k 0 = l[k] := by rw [List.getD_eq_getElem?_getD, List.getElem?_eq_getElem hk']; rfl
    rw [List.take_succ_eq_append_getElem hk', ← e]
    have : potN (l.take k ++ [l.getD k 0]) (tgN ws) (fun _ => false) = potN (l.take k) (tgN ws) (fun _ => false) + (tgN ws (l.getD k 0) + 1) := by
      unfold potN; rw [List.map_append, List.sum_append]; simp
    rw [this, h2]; omega
theorem potN_le {ws : List Int} {tn : Nat} {l : List Nat} (ho : Ob ws tn l) : potN l (tgN ws) (fun _ => false) ≤ 1048576 + 1048576 := by
  have := potN_take ho l.length (Nat.le_refl _)
  rw [List.take_length, nxO_ge (Nat.lt_irrefl _)] at this
  have := ho.le; have := ho.most
  omega
/-- Reach, whatever it is given. -/
theorem sreach_bad (v : Value) (ws : List Int) (top : Int) (rv : Value) (rs : List Int) (w : World) (hr : Rd w v ws) (hf : Fit ws) (ht : -9223372036854775808 ≤ top ∧ top ≤ 9223372036854775807) (hrr : Rd w rv rs) (hfr : Fit rs) (h : rootsB ws top rs = false) :
    Calls Try.prog 12 #[.agg #[v, .int .i64 top], rv] w fun e w' => e = .returned (.tuple #[.slice none 0 0, .int .i64 3]) ∧ Below w.heap.size w w' := by
  cases hm : memOk ws top
  · exact sreach_no1 v ws top rv w hr hf ht hm
  · unfold rootsB at h
    rw [hm, Bool.true_and] at h
    obtain ⟨tn, rfl, h1, h2, ho, _, _⟩ := ob_mem hm hf
    exact sreach_no2 v ws tn rv rs w hr hf ht hm hrr hfr ho h
theorem roots_split {ws : List Int} {top : Int} {rs : List Int} (h : rootsB ws top rs = true) (hf : Fit ws) : memOk ws top = true ∧ rs.all (rightW (objList ws top)) = true ∧ ∃ tn : Nat, top = (tn : Int) ∧ tn ≤ ws.length ∧ 1 ≤ tn ∧ Ob ws tn (objList ws top) ∧ Ob (ws.take tn) tn (objList ws top) ∧ ∀ i, tn ≤ i → ws.getD i 0 = 0 := by
  unfold rootsB at h
  rw [Bool.and_eq_true] at h
  exact ⟨h.1, h.2, ob_mem h.1 hf⟩
theorem sreach_good (v : Value) (ws : List Int) (top : Int) (rv : Value) (rs : List Int) (w : World) (hr : Rd w v ws) (hf : Fit ws) (ht : -9223372036854775808 ≤ top ∧ top ≤ 9223372036854775807) (hrr : Rd w rv rs) (hfr : Fit rs) (h : rootsB ws top rs = true) :
    Calls Try.prog 12 #[.agg #[v, .int .i64 top], rv] w (RePost ws (objList ws top) rs w) := by
  obtain ⟨hm, hy, tn, rfl, h1, h2, ho, hou, _⟩ := roots_split h hf
  exact sreach_yes v ws tn _ rv rs w hr hf ht hm hrr hfr ho hou h2 hy
theorem ri_ow {w : World} {B : Nat} {u : Value} {l : List Nat} (h : OW .i64 3 w B u (l.map fun n : Nat => (n : Int))) (hm : l.length ≤ 9223372036854775807) : Ri w u l := by
  refine ri_own (B := B) ?_ hm
  unfold OW at h
  rw [List.length_map, List.map_map] at h
  exact h
set_option maxRecDepth 100000 in
set_option maxHeartbeats 1000000 in
theorem law_sreach (v : Value) (ws : List Int) (top : Int) (rv : Value) (rs : List Int) (w : World) (hr : Rd w v ws) (hf : Fit ws) (ht : -9223372036854775808 ≤ top ∧ top ≤ 9223372036854775807) (hrr : Rd w rv rs) (hfr : Fit rs) (hml : rs.length ≤ 1048576) :
    Calls Try.prog 3 #[.agg #[v, .int .i64 top], rv] w fun e w' => e = .returned (.bool true) ∧ Below w.heap.size w w' := by
  have HR := Lib.hid hr
  have HRR := Lib.hid hrr
  obtain ⟨pv, cv, rfl, hmv⟩ := rd_form0 hr
  obtain ⟨pr, cr, rfl, hmr⟩ := rd_form0 hrr
  have HB0 := Lib.hid (show Below w.heap.size w (w.alloc (Obj.cells #[.slice pv ws.length cv, .int .i64 top] 24)) from (Below.refl _ _).alloc (Nat.le_refl _) _)
  clear hr hrr
  go_enter Try.func3, Try.ntmps3
  go_wp2_with fail
  refine (known14 _).mono ?_
  rintro e w1 ⟨rfl, hb⟩
  have y0 := below_cell hb (a := ⟨w.heap.size, 0, none⟩) (v := .slice pv ws.length cv) (by simp)
  have y1 := below_cell hb (a := ⟨w.heap.size, 1, none⟩) (v := .int .i64 top) (by simp)
  have HB1 := Lib.hid (HB0.out.trans (hb.mono (by simp)))
  clear hb HB0
  go_wp2_with fail
  cases hro : rootsB ws top rs
  · have HE := Lib.hid hro
    refine (sreach_bad _ ws top _ rs w1 (HR.out.keep HB1.out) hf ht (HRR.out.keep HB1.out) hfr hro).mono ?_
    rintro e w2 ⟨rfl, hb⟩
    have HB2 := Lib.hid (HB1.out.trans (hb.mono HB1.out.size))
    have y0 := below_cell hb y0
    have y1 := below_cell hb y1
    clear hb hro
    go_wp2_with fail
    refine (right14_any _ ws top _ rs w2 (HR.out.keep HB2.out) hf ht (HRR.out.keep HB2.out) hfr).mono ?_
    rintro e w3 ⟨rfl, hb⟩
    rw [HE.out]
    have HB3 := Lib.hid (HB2.out.trans (hb.mono HB2.out.size))
    clear hb
    go_wp2_with fail
    go_ret
    exact ⟨rfl, HB3.out⟩
  · have HE := Lib.hid hro
    refine (sreach_good _ ws top _ rs w1 (HR.out.keep HB1.out) hf ht (HRR.out.keep HB1.out) hfr hro).mono ?_
    rintro e w2 ⟨u, M, rfl, hM, hu, hb⟩
    have HB2 := Lib.hid (HB1.out.trans (hb.mono HB1.out.size))
    have HM := Lib.hid hM
    have HU := Lib.hid hu
    obtain ⟨pu, cu, rfl⟩ := ow_form hu
    have y0 := below_cell hb y0
    have y1 := below_cell hb y1
    clear hb hro hM hu
    simp only [List.length_map]
    go_wp2_with fail
    refine (right14_any _ ws top _ rs w2 (HR.out.keep HB2.out) hf ht (HRR.out.keep HB2.out) hfr).mono ?_
    rintro e w3 ⟨rfl, hb⟩
    rw [HE.out]
    have HB3 := Lib.hid (HB2.out.trans (hb.mono HB2.out.size))
    have HU3 := Lib.hid (OW.keep HU.out hb)
    have y0 := below_cell hb y0
    have y1 := below_cell hb y1
    clear hb
    go_wp2_with fail
    obtain ⟨hm, hy, tn, htt, h1, h2, ho, hou, _⟩ := roots_split HE.out hf
    subst htt
    refine (rreach14_any ho _ w3 (HR.out.keep HB3.out) _ rs (HRR.out.keep HB3.out) hfr hy h2 hml (potN_le ho)).mono ?_
    rintro e w4 ⟨u4, N, rfl, hN, hu4, hb⟩
    have hNM : N = M := by
      funext a
      rw [Bool.eq_iff_iff, hN, HM.out]
    subst hNM
    have HB4 := Lib.hid (HB3.out.trans (hb.mono HB3.out.size))
    have hln : ((objList ws tn).filter N).length ≤ 9223372036854775807 := by
      have := objs_len ws tn
      have := List.length_filter_le N (objList ws tn)
      omega
    have HI1 := Lib.hid (ri_ow (OW.keep HU3.out hb) hln)
    have HI2 := Lib.hid (ri_ow hu4 hln)
    rw [List.length_map] at HI1
    clear hb hu4 hN hm hy h1 h2 ho hou hln
    go_wp2_with fail
    refine (sameints _ _ _ w4 HI1.out HI2.out).mono ?_
    rintro e w5 ⟨rfl, q, rfl⟩
    go_wp2_with fail
    go_ret
    exact ⟨rfl, below_drewN HB4.out q⟩
end Go.Proofs.Ytfhjpgbnojdlkaa
