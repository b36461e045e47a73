/- Layer 14: Reach: what is reached from the roots, rising. -/
import Derived.Test.YtfhjpgbnojdlkaaPGSlRr
import Derived.Test.YtfhjpgbnojdlkaaPGSlCl
import Derived.Test.YtfhjpgbnojdlkaaPGSlE
namespace Go.Proofs.Ytfhjpgbnojdlkaa
open Go Go.ChangeShapes Go.WideShapes Go.ChangeAt Go.RowKit
set_option linter.unusedVariables false
set_option linter.unusedSimpArgs false
attribute [local go_sem] Oper.semAt_some
theorem chk_no {ws : List Int} {top : Int} (h : memOk ws top = false) : checkE ws top = 3 := by unfold checkE; rw [h]; rfl
theorem chk_yes {ws : List Int} {top : Int} (h : memOk ws top = true) : checkE ws top = 0 := by unfold checkE; rw [h]; rfl
theorem mem_len {ws : List Int} {top : Int} (h : memOk ws top = true) : ws.length ≤ 1048576 := by
  unfold memOk sizesOk at h
  simp only [Bool.and_eq_true, decide_eq_true_eq] at h
  omega
theorem ob_mem {ws : List Int} {top : Int} (h : memOk ws top = true) (hf : Fit ws) : ∃ tn : Nat, top = (tn : Int) ∧ tn ≤ ws.length ∧ 1 ≤ tn ∧ Ob ws tn (objList ws top) ∧ Ob (ws.take tn) tn (objList ws top) ∧ ∀ i, tn ≤ i → ws.getD i 0 = 0 := by
  obtain ⟨tn, e, hfo⟩ := form_of h
  have hm := mem_len h
  have h0 := h
  unfold memOk sizesOk at h0
  simp only [Bool.and_eq_true, decide_eq_true_eq] at h0
  have h1 : tn ≤ ws.length := by omega
  refine ⟨tn, e, h1, by omega, ob_of hfo hf ws (fun _ _ => rfl) h1 hm hf, ob_of hfo hf (ws.take tn) (fun i hi => by rw [getD_take, if_pos hi]) (by rw [List.length_take]; omega) (by rw [List.length_take]; omega) (hf.take tn), fun i hi => hfo.free i hi⟩
set_option maxRecDepth 100000 in
set_option maxHeartbeats 1000000 in
theorem sreach_no1 (v : Value) (ws : List Int) (top : Int) (rv : Value) (w : World) (hr : Rd w v ws) (hf : Fit ws) (ht : -9223372036854775808 ≤ top ∧ top ≤ 9223372036854775807) (hm : memOk ws top = false) :
    Calls Try.prog 12 #[.agg #[v, .int .i64 top], rv] w fun e w' => e = .returned (.tuple #[.slice none 0 0, .int .i64 3]) ∧ Below w.heap.size w w' := by
  have hce := chk_no hm
  obtain ⟨pv, cv, rfl, hmv⟩ := rd_form0 hr
  have HC := Lib.hid (fun (wx : World) (hb : Below w.heap.size w wx) => check_any _ ws top wx (hr.keep hb) hf ht)
  rw [hce] at HC
  clear hr hm hf
  refine calls_of_marks Try.func12 rfl ?_
  simp only [Try.ntmps12, List.size_toArray, List.length_cons, List.length_nil, Nat.reduceAdd, Nat.reduceSub, Array.replicate_succ, Array.replicate_zero, List.push_toArray, List.append_toArray, List.nil_append, List.cons_append]
  go_wp2_with fail
  refine (HC.out _ (by ((repeat' (first | with_reducible assumption | with_reducible exact Below.refl _ _ | with_reducible refine Below.drew ?_ | with_reducible refine Below.alloc ?_ (by first | omega | (simp; omega) | (simp; done) | fail) _ | with_reducible refine Below.setCell ?_ (by first | omega | (simp; omega) | (simp; done) | fail) _ | fail)); (first | done | fail)))).mono ?_
  rintro e w1 ⟨rfl, hb⟩
  have HB := Lib.hid (((Below.refl w.heap.size w).alloc (Nat.le_refl _) (Obj.cells #[.slice pv ws.length cv, .int .i64 top] 24)).trans (hb.mono (by simp)))
  clear hb
  go_wp2_with fail
  refine leaves_marks (S := w.heap.size) _ _ ⟨[], rfl, by simp, fun D hm => by simp at hm⟩ ?_
  intro W' hk
  exact ⟨_, results_tmp2 rfl _ _ _, rfl, HB.out.trans (hk.below HB.out.size (fun b hb => .inl hb))⟩
set_option maxRecDepth 100000 in
set_option maxHeartbeats 1000000 in
theorem sreach_no2 (v : Value) (ws : List Int) (tn : Nat) (rv : Value) (rs : List Int) (w : World) (hr : Rd w v ws) (hf : Fit ws) (ht : -9223372036854775808 ≤ (tn : Int) ∧ (tn : Int) ≤ 9223372036854775807) (hm : memOk ws tn = true) (hrr : Rd w rv rs) (hfr : Fit rs) (ho : Ob ws tn (objList ws tn)) (hno : rs.all (rightW (objList ws tn)) = false) :
    Calls Try.prog 12 #[.agg #[v, .int .i64 tn], rv] w fun e w' => e = .returned (.tuple #[.slice none 0 0, .int .i64 3]) ∧ Below w.heap.size w w' := by
  have hce := chk_yes hm
  obtain ⟨pv, cv, rfl, hmv⟩ := rd_form0 hr
  have HC := Lib.hid (fun (wx : World) (hb : Below w.heap.size w wx) => check_any _ ws tn wx (hr.keep hb) hf ht)
  rw [hce] at HC
  have HRR := Lib.hid (fun (wx : World) (hb : Below w.heap.size w wx) => rroots_any ho _ wx (hr.keep hb) rv rs (hrr.keep hb) hfr)
  rw [hno] at HRR
  clear hr hm hf hrr hfr ho hno
  refine calls_of_marks Try.func12 rfl ?_
  simp only [Try.ntmps12, List.size_toArray, List.length_cons, List.length_nil, Nat.reduceAdd, Nat.reduceSub, Array.replicate_succ, Array.replicate_zero, List.push_toArray, List.append_toArray, List.nil_append, List.cons_append]
  go_wp2_with fail
  refine (HC.out _ (by ((repeat' (first | with_reducible assumption | with_reducible exact Below.refl _ _ | with_reducible refine Below.drew ?_ | with_reducible refine Below.alloc ?_ (by first | omega | (simp; omega) | (simp; done) | fail) _ | with_reducible refine Below.setCell ?_ (by first | omega | (simp; omega) | (simp; done) | fail) _ | fail)); (first | done | fail)))).mono ?_
  rintro e w1 ⟨rfl, hb⟩
  have HB := Lib.hid (((Below.refl w.heap.size w).alloc (Nat.le_refl _) (Obj.cells #[.slice pv ws.length cv, .int .i64 (tn : Int)] 24)).trans (hb.mono (by simp)))
  have y0 := below_cell hb (a := ⟨w.heap.size, 0, none⟩) (v := .slice pv ws.length cv) (by simp)
  have y1 := below_cell hb (a := ⟨w.heap.size, 1, none⟩) (v := .int .i64 (tn : Int)) (by simp)
  clear hb
  go_wp2_with fail
  refine (HRR.out _ HB.out).mono ?_
  rintro e w2 ⟨rfl, hb⟩
  have HB2 := Lib.hid (HB.out.trans (hb.mono HB.out.size))
  clear hb y0 y1
  go_wp2_with fail
  refine leaves_marks (S := w.heap.size) _ _ ⟨[], rfl, by simp, fun D hm => by simp at hm⟩ ?_
  intro W' hk
  exact ⟨_, results_tmp2 rfl _ _ _, rfl, HB2.out.trans (hk.below HB2.out.size (fun b hb => .inl hb))⟩
theorem slr_to {P : Program} (t : TypeId) (ht : P.underlying t = some (.slice (P.elem t))) (hsz : ∀ wx, (sizeOf (P.elem t)).run P wx = .ok 1 wx) (b off n c hi : Nat) (h : hi ≤ c) :
    ∀ wx, (Instr.slice t (.slice (some ⟨b, off, none⟩) n c) none (some (.int .i64 (hi : Int))) none).run P wx = .ok (.slice (some ⟨b, off, none⟩) hi c) wx := fun wx => by
  rw [run_slice_h wx t _ n c ht .i64 (hi : Int) (by omega) (by omega), hsz]
  simp [Result.andThen, sliced, Addr.add]
theorem Rch.congr {ws us rs : List Int} {tn : Nat} {l : List Nat} (ho : Ob ws tn l) (hu : Ob us tn l) (he : ∀ i, i < tn → us.getD i 0 = ws.getD i 0) (hr : rs.all (rightW l) = true) {a : Nat} (h : Rch us rs a) : Rch ws rs a := by
  induction h with
  | root hx hk => exact .root hx hk
  | @step a b h1 hb ih =>
    refine .step ih ?_
    have hal := Rch.mem hu hr h1
    have hi1 := ho.in1 a hal
    have ht : tgN us a = tgN ws a := by unfold tgN; rw [he a (by omega)]
    unfold sucs at hb ⊢
    obtain ⟨i, hi, rfl⟩ := List.mem_map.1 hb
    obtain ⟨j, h2, rfl, h3⟩ := adrP_mem.1 hi
    rw [ht] at h2
    have e := he (a + 2 + j) (by omega)
    rw [e] at h3
    exact List.mem_map.2 ⟨a + 2 + j, adrP_mem.2 ⟨j, h2, rfl, h3⟩, by rw [e]⟩
def flN (l : List Nat) (M : Nat → Bool) (k : Nat) : List Int := ((l.take k).filter M).map fun n : Nat => (n : Int)
theorem flN_yes {l : List Nat} {M : Nat → Bool} {k : Nat} (hk : k < l.length) (h : M (l.getD k 0) = true) : flN l M (k + 1) = flN l M k ++ [((l.getD k 0 : Nat) : Int)] := by
  unfold flN
  rw [List.take_succ_eq_append_getElem hk, List.filter_append, List.map_append]
  have e : l.getD k 0 = l[k] := by rw [List.getD_eq_getElem?_getD, List.getElem?_eq_getElem hk]; rfl
  rw [e] at h ⊢
  rw [List.filter_cons_of_pos h]; rfl
theorem flN_no {l : List Nat} {M : Nat → Bool} {k : Nat} (hk : k < l.length) (h : M (l.getD k 0) = false) : flN l M (k + 1) = flN l M k := by
  unfold flN
  rw [List.take_succ_eq_append_getElem hk, List.filter_append, List.map_append]
  have e : l.getD k 0 = l[k] := by rw [List.getD_eq_getElem?_getD, List.getElem?_eq_getElem hk]; rfl
  rw [e] at h
  rw [List.filter_cons_of_neg (by simp [h])]; simp
theorem flN_len (l : List Nat) (M : Nat → Bool) (k : Nat) : (flN l M k).length ≤ l.length := by
  unfold flN
  rw [List.length_map]
  exact Nat.le_trans (List.length_filter_le _ _) (by rw [List.length_take]; omega)
/-- What the rounds of Reach's last loop hold. -/
structure ZJ (l : List Nat) (M : Nat → Bool) (WL : World) (bo E k : Nat) (A : World) (u : Value) : Prop where
  kw : Kw (fun b => b < WL.heap.size ∧ b ≠ bo) WL A
  box : Boxed A bo 26 u
  own : OW .i64 3 A E u (flN l M k)
/-- What Reach answers where memory and roots are right. -/
def RePost (ws : List Int) (l : List Nat) (rs : List Int) (w : World) (e : Ending) (w' : World) : Prop :=
  ∃ u M, e = .returned (.tuple #[u, .int .i64 0]) ∧ (∀ a, M a = true ↔ Rch ws rs a) ∧ OW .i64 3 w' w.heap.size u ((l.filter M).map fun n : Nat => (n : Int)) ∧ Below w.heap.size w w'
set_option maxRecDepth 100000 in
set_option maxHeartbeats 4000000 in
theorem sreach_yes (v : Value) (ws : List Int) (tn : Nat) (l : List Nat) (rv : Value) (rs : List Int) (w : World) (hr : Rd w v ws) (hf : Fit ws) (ht : -9223372036854775808 ≤ (tn : Int) ∧ (tn : Int) ≤ 9223372036854775807) (hm : memOk ws tn = true) (hrr : Rd w rv rs) (hfr : Fit rs) (ho : Ob ws tn l) (hou : Ob (ws.take tn) tn l) (h1 : 1 ≤ tn) (hyes : rs.all (rightW l) = true) :
    Calls Try.prog 12 #[.agg #[v, .int .i64 tn], rv] w (RePost ws l rs w) := by
  have hce := chk_yes hm
  have htl := ho.le
  have hmost := ho.most
  have hul : (ws.take tn).length = tn := by rw [List.length_take]; omega
  have HC := Lib.hid (fun (wx : World) (hb : Below w.heap.size w wx) => check_any _ ws tn wx (hr.keep hb) hf ht)
  rw [hce] at HC
  have HRR := Lib.hid (fun (wx : World) (hb : Below w.heap.size w wx) => rroots_any ho _ wx (hr.keep hb) rv rs (hrr.keep hb) hfr)
  rw [hyes] at HRR
  obtain ⟨pb, off, cv, rfl, hlc, hmv, _⟩ := hr.some (by omega)
  have HCL := Lib.hid (fun (wx : World) (hb : Below w.heap.size w wx) => by
    have := clone_any _ (ws.take tn) wx ((hr.keep hb).take tn htl) (by omega)
    rw [hul] at this
    exact this)
  have HCG := Lib.hid (fun (a : Nat) (h : Rch (ws.take tn) rs a) => Rch.congr ho hou (fun i hi => by rw [getD_take, if_pos hi]) hyes h)
  have HCG2 := Lib.hid (fun (a : Nat) (h : Rch ws rs a) => Rch.congr hou ho (fun i hi => by rw [getD_take, if_pos hi]) hyes h)
  have HRV := Lib.hid hrr
  have HFR := Lib.hid hfr
  have HO := Lib.hid hou
  have HY := Lib.hid hyes
  have hsl := slr_to 22 sliceU64 sizeU64 pb off ws.length cv tn (by omega)
  clear hr hm hf hrr hfr ho hyes hou
  generalize ws.take tn = us at *
  have HUL := Lib.hid hul
  refine calls_of_marks Try.func12 rfl ?_
  simp only [Try.ntmps12, List.size_toArray, List.length_cons, List.length_nil, Nat.reduceAdd, Nat.reduceSub, Array.replicate_succ, Array.replicate_zero, List.push_toArray, List.append_toArray, List.nil_append, List.cons_append]
  go_wp2_with fail
  refine (HC.out _ (by ((repeat' (first | with_reducible assumption | with_reducible exact Below.refl _ _ | with_reducible refine Below.drew ?_ | with_reducible refine Below.alloc ?_ (by first | omega | (simp; omega) | (simp; done) | fail) _ | with_reducible refine Below.setCell ?_ (by first | omega | (simp; omega) | (simp; done) | fail) _ | fail)); (first | done | fail)))).mono ?_
  rintro e w1 ⟨rfl, hb⟩
  have HB := Lib.hid (((Below.refl w.heap.size w).alloc (Nat.le_refl _) (Obj.cells #[.slice (some ⟨pb, off, none⟩) ws.length cv, .int .i64 (tn : Int)] 24)).trans (hb.mono (by simp)))
  have y0 := below_cell hb (a := ⟨w.heap.size, 0, none⟩) (v := .slice (some ⟨pb, off, none⟩) ws.length cv) (by simp)
  have y1 := below_cell hb (a := ⟨w.heap.size, 1, none⟩) (v := .int .i64 (tn : Int)) (by simp)
  clear hb
  go_wp2_with fail
  refine (HRR.out _ HB.out).mono ?_
  rintro e w2 ⟨rfl, hb⟩
  have HB2 := Lib.hid (HB.out.trans (hb.mono HB.out.size))
  have y0 := below_cell hb y0
  have y1 := below_cell hb y1
  clear hb
  go_wp2_with fail
  refine (HCL.out _ HB2.out).mono ?_
  rintro e w3 ⟨g, c, rfl, hg, hwd, hb⟩
  have HB3 := Lib.hid (HB2.out.trans (hb.mono HB2.out.size))
  have hg1 : w.heap.size < g := Nat.lt_of_lt_of_le (World.block_lt_of_cell? w2 _ y0) hg
  have y0 := alloc_cell (below_cell hb y0) (Obj.cells #[.slice (some ⟨g, 0, none⟩) tn c] 22)
  have y1 := alloc_cell (below_cell hb y1) (Obj.cells #[.slice (some ⟨g, 0, none⟩) tn c] 22)
  have hg0 : w.heap.size ≤ g := by have := HB2.out.size; omega
  have hgl := hwd.lt
  have HWD := Lib.hid hwd
  clear hb hwd HB HB2 hg HC HRR HCL
  go_wp2_with fail
  obtain ⟨w4, hw4⟩ : ∃ w4, w3.alloc (Obj.cells #[Value.slice (some ⟨g, 0, none⟩) tn c] 22) = w4 := ⟨_, rfl⟩
  have hb4 : Below w3.heap.size w3 w4 := by rw [← hw4]; exact (Below.refl _ _).alloc (Nat.le_refl _) _
  have y2 : w4.cell? ⟨w3.heap.size, 0, none⟩ = some (.slice (some ⟨g, 0, none⟩) tn c) := by rw [← hw4]; simp
  have hs4 : w4.heap.size = w3.heap.size + 1 := by rw [← hw4]; simp
  rw [hw4] at y0 y1 ⊢
  have HB4 := Lib.hid (HB3.out.trans (hb4.mono HB3.out.size))
  have HWD4 := Lib.hid (HWD.out.keep hb4)
  have hmk := markall_any HO.out HWD4.out rv rs (fun A hA => HRV.out.keep (HB4.out.trans (hA.below HB4.out.size hg0))) HFR.out HY.out
  rw [HUL.out] at hmk
  refine hmk.mono ?_
  rintro e w5 ⟨rfl, ⟨xs, M, hwd5, hmkd, hMR⟩, hbt⟩
  have y0 := hbt.cell y0 (by omega)
  have y1 := hbt.cell y1 (by omega)
  have y2 := hbt.cell y2 (by omega)
  have hs5 := hbt.size
  have HB5 := Lib.hid (HB4.out.trans (hbt.below HB4.out.size hg0))
  have HWD5 := Lib.hid hwd5
  have HMK := Lib.hid hmkd
  have HMR := Lib.hid hMR
  have hxl := hmkd.len
  rw [HUL.out] at hxl
  have y0a := fun o => alloc_cell y0 o
  have y1a := fun o => alloc_cell y1 o
  have y2a := fun o => alloc_cell y2 o
  clear hw4 hmk hwd5 hmkd hMR hbt HB3 HB4 HWD HWD4 HRV HFR HY hsl
  go_wp2_with (go_at_call 45; (with_reducible refine (objects_any _ _ _ _ _).mono ?_); rintro e w9 ⟨rfl, rfl⟩)
  obtain ⟨WL, hWL⟩ : ∃ WL, ((w5.alloc (Obj.cells #[Value.slice none 0 0] 26)).alloc (Obj.cells #[Value.slice (some ⟨g, 0, none⟩) tn c] 22)).alloc (Obj.cells #[Value.int .i64 (tn : Int)] 3) = WL := ⟨_, rfl⟩
  rw [hWL]
  have hbl : Below w5.heap.size w5 WL := by rw [← hWL]; exact (((Below.refl _ _).alloc (Nat.le_refl _) _).alloc (by simp) _).alloc (by simp; omega) _
  have hszL : WL.heap.size = w5.heap.size + 3 := by rw [← hWL]; simp
  have yb : WL.cell? ⟨w5.heap.size + 1, 0, none⟩ = some (.slice (some ⟨g, 0, none⟩) tn c) := by
    rw [← hWL]
    exact alloc_cell (by
      have := cell_newK (w := w5.alloc (Obj.cells #[Value.slice none 0 0] 26)) (cs := #[.slice (some ⟨g, 0, none⟩) tn c]) (T := 22) (k := 0) rfl
      rwa [World.size_alloc] at this) _
  have ya : WL.cell? ⟨w5.heap.size + 1 + 1, 0, none⟩ = some (.int .i64 tn) := by
    rw [← hWL]
    have := cell_newK (w := (w5.alloc (Obj.cells #[Value.slice none 0 0] 26)).alloc (Obj.cells #[Value.slice (some ⟨g, 0, none⟩) tn c] 22)) (cs := #[.int .i64 (tn : Int)]) (T := 3) (k := 0) rfl
    rwa [World.size_alloc, World.size_alloc] at this
  have HBX := Lib.hid (show Boxed WL w5.heap.size 26 (.slice none 0 0) by
    rw [← hWL]
    exact (Below.heap_alloc _ _ _ (by simp; omega)).trans ((Below.heap_alloc _ _ _ (by simp)).trans (World.alloc_heap_new w5 _)))
  have HBL := Lib.hid (HB5.out.trans (hbl.mono HB5.out.size))
  have HWL := Lib.hid (HWD5.out.keep hbl)
  have y2 := below_cell hbl y2
  clear hWL hbl y0a y1a y2a y0 y1
  refine wp_rangeJ (K := fun b => b < WL.heap.size ∧ b ≠ w5.heap.size) (It := ItO l) (R := RO l (szN us) (.slice (some ⟨g, 0, none⟩) tn c)) (N := l.length) (by rfl) (fun _ _ => enter_objs _ _) ?hseq ?hKs ?hps
    (fun E k A => ∃ u, ZJ l M WL w5.heap.size E k A u) ?hR ?hJ ?hIt ?h0 ?hround ?hdone
  case hseq =>
    intro W hk hs
    refine objs_gives HO.out.objs _ _ _ W (w5.heap.size + 1 + 1) (w5.heap.size + 1) _ ?_ ?_ ⟨by omega, by omega⟩ ⟨by omega, by omega⟩
    · exact (World.cell?_of_block (a := ⟨w5.heap.size + 1 + 1, 0, none⟩) (hk.block _ trivial (by dsimp only; omega))).trans ya
    · exact (World.cell?_of_block (a := ⟨w5.heap.size + 1, 0, none⟩) (hk.block _ trivial (by dsimp only; omega))).trans yb
  case hKs => intro b hb; exact hb.1
  case hps => rintro k A args rfl; rfl
  case hR =>
    rintro E k A hE ⟨u, hz⟩ hk
    have h1 := HMK.out.head HO.out (mem_getD hk)
    have h2 := HO.out.in1 _ (mem_getD hk)
    have hwd := HWL.out.of (hz.kw.block g ⟨by omega, by omega⟩ (by omega))
    have hrd := hwd.rd
    rw [hxl] at hrd
    exact ⟨xs, hrd, by omega, h1.2.2.2.2.1, h1.2.2.1, h1.2.2.2.1⟩
  case hJ =>
    rintro E k A A' hE ⟨u, h1, h2, h3⟩ hk
    exact ⟨u, h1.trans (hk.mono fun b hb _ => ⟨by omega, by omega⟩), Boxed.kw h2 hk ⟨by omega, by omega⟩, h3.kw hk (fun g hg => by have := (h3.lt hg).1; omega)⟩
  case hIt => rintro k A A' args rfl hk; rfl
  case h0 => exact fun E => ⟨_, Kw.refl _ _, HBX.out, OW.nil _ _⟩
  case hround =>
    rintro q E k args A hE hEA hkn hj rfl
    clear hj
    have hal := mem_getD hkn
    have HFY := Lib.hid (flN_yes (M := M) hkn)
    have HFN := Lib.hid (flN_no (M := M) hkn)
    obtain ⟨a, hak⟩ : ∃ a, l.getD k 0 = a := ⟨_, rfl⟩
    rw [hak] at hal HFY HFN
    rw [hak]
    clear hak
    gi_wp2
    (try refine ⟨trivial, ?_⟩)
    intro A5 hEA5 hj hit
    obtain ⟨u, hz⟩ := hj
    have HZ := Lib.hid hz
    have HH := Lib.hid (HMK.out.head HO.out hal)
    have hi1 := HO.out.in1 a hal
    have hwd := HWL.out.of (hz.kw.block g ⟨by omega, by omega⟩ (by omega))
    have c0 := hwd.cell (i := a) (by omega)
    have yw : A5.cell? ⟨w3.heap.size, 0, none⟩ = some (.slice (some ⟨g, 0, none⟩) tn c) := (World.cell?_of_block (a := ⟨w3.heap.size, 0, none⟩) (hz.kw.block _ ⟨by dsimp only; omega, by dsimp only; omega⟩ (by dsimp only; omega))).trans y2
    have bc := hz.box.cell
    have bf := hz.box.frozen
    obtain ⟨pu, cu, rfl⟩ := ow_form hz.own
    have haz : (a : Int) < (tn : Int) := by omega
    obtain ⟨x, hx⟩ : ∃ x, xs.getD a 0 = x := ⟨_, rfl⟩
    rw [hx] at HH c0
    have hfl := flN_len l M k
    have hln : l.length ≤ 1048576 := by have := rising_len HO.out.rising (fun x hx => by have := (HO.out.in1 x hx); exact (by omega : x < tn)); omega
    clear hz hwd hit hx
    cases hM : M a
    · have e1 := and_mk_lo HH.out.2.2.1 (HH.out.2.1 hM)
      have HMM := Lib.hid hM
      clear hM
      gi_wp2
      refine ⟨⟨_, HZ.out.kw, HZ.out.box, ?_⟩, Kw.refl _ _⟩
      rw [HFN.out HMM.out]; exact HZ.out.own
    · have e1 := and_mk_hi (HH.out.1 hM) HH.out.2.2.2.1
      have HMM := Lib.hid hM
      clear hM
      have HF1 := Lib.hid (HFY.out HMM.out)
      obtain ⟨zk, zb, zo⟩ := HZ.out
      have ZK := Lib.hid zk
      have ZB := Lib.hid zb
      have ZO := Lib.hid zo
      clear zk zb zo HZ HFY HFN
      generalize flN l M k = ys at *
      gi_wp2_with (gi_at_builtin; refine wpListIn_app (l := q) rfl (.tmp 38) (.tmp 40) rfl Try.underlying26 infoI64 rfl rfl (v := .slice pu ys.length cu) (base := E) (n := ys.length) (m := 1) (xs := ys.map (Value.int .i64)) (news := [.int .i64 (a : Int)]) (OW.keep ZO.out ((Below.refl _ _).alloc (Nat.le_refl _) _)) rfl (src_one rfl) (by simp [Value.oneCell']) (by unfold maxLen; omega) (by omega) (by simp; omega) ?_; intro v' w1 hap; have HAP := Lib.hid hap; clear hap; have hb1 := ZB.out.alloc (.cells #[.int .i64 (a : Int)] 3) |>.kept HAP.out.grown (fun e => by have := OW.lt ZO.out (g := w5.heap.size) (by rw [← e]); omega); have HB1 := Lib.hid hb1; have hc1' := hb1.cell; have hf1' := hb1.frozen; clear hb1; obtain ⟨pv', cv', rfl⟩ := ow_form (own_apd HAP.out))
      have hoa : OW .i64 3 w1 E (.slice pv' (ys ++ [(a : Int)]).length cv') (ys ++ [(a : Int)]) := own_apd HAP.out
      rw [List.length_append, List.length_singleton] at hoa
      have HOA := Lib.hid hoa
      have hrow : ∀ g, (Value.slice pu ys.length cu).ownBlock = some g → E ≤ g := fun g hg => (OW.lt ZO.out hg).1
      refine ⟨⟨_, ?_, HB1.out.set _, ?_⟩, ?_⟩
      · exact ((ZK.out.alloc _).grown HAP.out.grown (fun g hg hr => by have := hrow g hg; omega)).setCell _ _ (fun h => h.2 rfl)
      · rw [HF1.out]
        exact OW.block HOA.out (fun g hg => Below.heap_setCell _ _ _ g (by have := OW.lt HOA.out hg; dsimp only; omega))
      · exact (((Kw.refl _ A5).alloc _).grown HAP.out.grown (fun g hg hr => by have := hrow g hg; rcases hr with h | h | h | h <;> omega)).setCell _ _ (fun hr => by dsimp only at hr; rcases hr with h | h | h | h <;> omega)
  case hdone =>
    rintro E W hE ⟨u, hz⟩ hD
    have bc := hz.box.cell
    have HZ := Lib.hid hz
    have HD := Lib.hid hD
    obtain ⟨pu, cu, rfl⟩ := ow_form hz.own
    have HAL := Lib.hid (show flN l M l.length = (l.filter M).map fun n : Nat => (n : Int) by unfold flN; rw [List.take_length])
    clear hz hD
    generalize hys : flN l M l.length = ys at *
    go_wp2_with fail
    refine leaves_marks (S := WL.heap.size) _ _ ⟨[WL.heap.size], rfl, by simp, fun D hm => by simp at hm; subst hm; exact ⟨Nat.le_refl _, HD.out⟩⟩ ?_
    intro W' hk
    have hszz := HZ.out.kw.size
    have hwl := HBL.out.size
    have ho := HZ.out.own
    rw [hys] at ho
    refine ⟨_, results_tmp2 rfl _ _ _, _, M, rfl, fun a => ⟨fun h => HCG.out a ((HMR.out a).1 h), fun h => (HMR.out a).2 (HCG2.out a h)⟩, ?_, ?_⟩
    · rw [← HAL.out]
      exact OW.low (OW.leave ho hk) (by omega)
    · exact (HBL.out.trans (HZ.out.kw.below hwl fun b hb => ⟨by omega, by omega⟩)).trans (hk.below (by omega) fun b hb => .inl (by omega))
end Go.Proofs.Ytfhjpgbnojdlkaa
