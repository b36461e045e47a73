/- Layer 14: Collect. Layer 14: SameWords; the chapter's example. -/
import Derived.Test.YtfhjpgbnojdlkaaPSlRe
import Derived.Test.YtfhjpgbnojdlkaaPGSlDn
import Derived.Test.YtfhjpgbnojdlkaaPGSlFw
import Derived.Test.YtfhjpgbnojdlkaaPRoomS
import Derived.Lib.SliceRun
import Derived.Test.YtfhjpgbnojdlkaaPSameInts
namespace Go.Proofs.Ytfhjpgbnojdlkaa
section
open Go Go.ChangeShapes Go.WideShapes Go.ChangeAt Go.RowKit
set_option linter.unusedVariables false
set_option linter.unusedSimpArgs false
set_option maxRecDepth 100000 in
theorem collect_nil (rv : Value) (w : World) :
    Calls Try.prog 17 #[.pointer none, rv] w fun e w' => e = .returned (.tuple #[.slice none 0 0, .int .i64 3]) ∧ w' = w := by
  go_enter Try.func17, Try.ntmps17
  go_wp2_with fail
  exact bodyPost_ret (results_tmp2 rfl _ _ _) rfl ⟨rfl, rfl⟩
set_option maxRecDepth 100000 in
theorem collect_no1 (B : Nat) (v : Value) (ws : List Int) (top : Int) (rv : Value) (w : World) (h0 : w.cell? ⟨B, 0, none⟩ = some v) (h1 : w.cell? ⟨B, 1, none⟩ = some (.int .i64 top)) (hr : Rd w v ws) (hf : Fit ws) (ht : -9223372036854775808 ≤ top ∧ top ≤ 9223372036854775807) (hm : memOk ws top = false) :
    Calls Try.prog 17 #[.pointer (some ⟨B, 0, none⟩), rv] w fun e w' => e = .returned (.tuple #[.slice none 0 0, .int .i64 3]) ∧ Below w.heap.size w w' := by
  have hce := chk_no hm
  have HC := Lib.hid (check_any _ ws top w hr hf ht)
  rw [hce] at HC
  obtain ⟨pv, cv, rfl, hmv⟩ := rd_form0 hr
  clear hr hm hf
  go_enter Try.func17, Try.ntmps17
  go_wp2_with fail
  refine HC.out.mono ?_
  rintro e w1 ⟨rfl, hb⟩
  have HB := Lib.hid hb
  clear hb
  go_wp2_with fail
  exact bodyPost_ret (results_tmp2 rfl _ _ _) rfl ⟨rfl, HB.out⟩
set_option maxRecDepth 100000 in
theorem collect_no2 (B : Nat) (v : Value) (ws : List Int) (tn : Nat) (rv : Value) (rs : List Int) (w : World) (h0 : w.cell? ⟨B, 0, none⟩ = some v) (h1 : w.cell? ⟨B, 1, none⟩ = some (.int .i64 tn)) (hr : Rd w v ws) (hf : Fit ws) (ht : -9223372036854775808 ≤ (tn : Int) ∧ (tn : Int) ≤ 9223372036854775807) (hm : memOk ws tn = true) (hrr : Rd w rv rs) (hfr : Fit rs) (ho : Ob ws tn (objList ws tn)) (hno : rs.all (rightW (objList ws tn)) = false) :
    Calls Try.prog 17 #[.pointer (some ⟨B, 0, none⟩), rv] w fun e w' => e = .returned (.tuple #[.slice none 0 0, .int .i64 3]) ∧ Below w.heap.size w w' := by
  have hce := chk_yes hm
  have HC := Lib.hid (check_any _ ws tn w hr hf ht)
  rw [hce] at HC
  have HRR := Lib.hid (fun (wx : World) (hb : Below w.heap.size w wx) => rroots_any ho _ wx (hr.keep hb) rv rs (hrr.keep hb) hfr)
  rw [hno] at HRR
  obtain ⟨pv, cv, rfl, hmv⟩ := rd_form0 hr
  clear hr hm hf hrr hfr ho hno
  go_enter Try.func17, Try.ntmps17
  go_wp2_with fail
  refine HC.out.mono ?_
  rintro e w1 ⟨rfl, hb⟩
  have HB := Lib.hid hb
  have h0 := below_cell hb h0
  have h1 := below_cell hb h1
  clear hb
  go_wp2_with fail
  refine (HRR.out _ HB.out).mono ?_
  rintro e w2 ⟨rfl, hb⟩
  have HB2 := Lib.hid (HB.out.trans (hb.mono HB.out.size))
  clear hb
  go_wp2_with fail
  exact bodyPost_ret (results_tmp2 rfl _ _ _) rfl ⟨rfl, HB2.out⟩
/-- What a root becomes. -/
def trR (ws : List Int) (l : List Nat) (M : Nat → Bool) (x : Int) : Int := if kindOf x = 0 then 4 * (dstA l M (szN ws) (x / 4).toNat : Int) else x
/-- All blocks but B and g are as they were. -/
structure ButB (B g : Nat) (w w' : World) : Prop where
  os : w'.os = w.os
  tape : w'.tape = w.tape
  output : w'.output = w.output
  size : w.heap.size ≤ w'.heap.size
  block : ∀ k, k < w.heap.size → k ≠ B → k ≠ g → w'.heap[k]? = w.heap[k]?
/-- What Collect answers where memory and roots are right. -/
def CoPost (B g c tn : Nat) (ws : List Int) (l : List Nat) (rs : List Int) (w : World) (e : Ending) (w' : World) : Prop :=
  ∃ gr M res, e = .returned (.tuple #[.slice (some ⟨gr, 0, none⟩) rs.length rs.length, .int .i64 0]) ∧ (∀ a, M a = true ↔ Rch ws rs a) ∧ CO ws l M res ∧ w'.cell? ⟨B, 0, none⟩ = some (.slice (some ⟨g, 0, none⟩) ws.length c) ∧ w'.cell? ⟨B, 1, none⟩ = some (.int .i64 (frK l M (szN ws) l.length)) ∧ w'.frozen? ⟨B, 1, none⟩ = false ∧ Wd w' g c res ∧
    LU w' gr (rs.map (trR ws l M)) ∧ w.heap.size ≤ gr ∧ ButB B g w w'
theorem wd_clear {g c : Nat} : ∀ (m o : Nat) (w : World) (xs : List Int), Wd w g c xs → o + m ≤ xs.length →
    ∃ ys, Wd (w.setCells g o (List.replicate m (.int .u64 0))) g c ys ∧ ys.length = xs.length ∧ (∀ i, ys.getD i 0 = if o ≤ i ∧ i < o + m then 0 else xs.getD i 0) ∧ But1 g w (w.setCells g o (List.replicate m (.int .u64 0))) := by
  intro m
  induction m with
  | zero => intro o w xs h hl; exact ⟨xs, h, rfl, fun i => by rw [if_neg (by omega)], But1.of (Below.refl _ _)⟩
  | succ m ih =>
    intro o w xs h hl
    obtain ⟨ys, h1, h2, h3, h4⟩ := ih (o + 1) (w.setCell ⟨g, o, none⟩ (.int .u64 0)) (xs.set o 0) (h.set o 0 (by omega)) (by rw [List.length_set]; omega)
    refine ⟨ys, h1, by rw [h2, List.length_set], fun i => ?_, (But1.set g w o _).trans h4⟩
    rw [h3, getD_set]
    by_cases e2 : o + 1 ≤ i ∧ i < o + 1 + m
    · rw [if_pos e2, if_pos (by omega)]
    · rw [if_neg e2]
      by_cases e : i = o
      · rw [if_pos ⟨e, by omega⟩, if_pos (by omega)]
      · rw [if_neg (fun h => e h.1), if_neg (by omega)]
theorem CO.ext {ws : List Int} {l : List Nat} {M : Nat → Bool} {res ys : List Int} (h : CO ws l M res) (hl : ys.length = res.length) (he : ∀ i, ys.getD i 0 = res.getD i 0) : CO ws l M ys :=
  ⟨hl.trans h.len, (he 0).trans h.nought, fun j hj hm p hp => (he _).trans (h.low j hj hm p hp), fun i hi => (he i).trans (h.zero i hi)⟩
/-- While the roots are turned. -/
def trL (ws : List Int) (l : List Nat) (M : Nat → Bool) (rs : List Int) (k : Nat) : List Int := (rs.take k).map (trR ws l M) ++ rs.drop k
theorem trL_len (ws : List Int) (l : List Nat) (M : Nat → Bool) (rs : List Int) (k : Nat) : (trL ws l M rs k).length = rs.length := by
  unfold trL
  rw [List.length_append, List.length_map, List.length_take, List.length_drop]; omega
theorem trL_zero (ws : List Int) (l : List Nat) (M : Nat → Bool) (rs : List Int) : trL ws l M rs 0 = rs := by unfold trL; simp
theorem trL_all (ws : List Int) (l : List Nat) (M : Nat → Bool) (rs : List Int) : trL ws l M rs rs.length = rs.map (trR ws l M) := by unfold trL; simp
theorem trL_getD (ws : List Int) (l : List Nat) (M : Nat → Bool) (rs : List Int) (k i : Nat) (hi : i < rs.length) : (trL ws l M rs k).getD i 0 = if i < k then trR ws l M (rs.getD i 0) else rs.getD i 0 := by
  unfold trL
  by_cases h : i < k
  · rw [if_pos h, List.getD_eq_getElem?_getD, List.getElem?_append_left (by simp; omega), List.getElem?_map, List.getElem?_take, if_pos h, List.getElem?_eq_getElem hi]
    simp [List.getD_eq_getElem?_getD, hi]
  · rw [if_neg h, List.getD_eq_getElem?_getD, List.getElem?_append_right (by simp; omega), List.getElem?_drop]
    simp only [List.length_map, List.length_take]
    rw [List.getD_eq_getElem?_getD]
    congr 2; omega
theorem trL_set {ws : List Int} {l : List Nat} {M : Nat → Bool} {rs : List Int} {k : Nat} (hk : k < rs.length) {y : Int} (hy : trR ws l M (rs.getD k 0) = y) : (trL ws l M rs k).set k y = trL ws l M rs (k + 1) := by
  refine list_ext_getD (by rw [List.length_set, trL_len, trL_len]) fun i hi => ?_
  rw [List.length_set, trL_len] at hi
  rw [getD_set, trL_getD _ _ _ _ _ _ hi, trL_getD _ _ _ _ _ _ hi]
  by_cases e : i = k
  · subst e
    rw [if_pos ⟨rfl, by rw [trL_len]; exact hi⟩, if_pos (Nat.lt_succ_self i), hy]
  · rw [if_neg (fun h => e h.1)]
    by_cases h : i < k
    · rw [if_pos h, if_pos (by omega)]
    · rw [if_neg h, if_neg (by omega)]
theorem trL_same {ws : List Int} {l : List Nat} {M : Nat → Bool} {rs : List Int} {k : Nat} (hk : k < rs.length) (hn : kindOf (rs.getD k 0) ≠ 0) : trL ws l M rs k = trL ws l M rs (k + 1) := by
  have := trL_set (ws := ws) (l := l) (M := M) hk (y := rs.getD k 0) (by unfold trR; rw [if_neg hn])
  rw [← this]
  refine list_ext_getD (by rw [List.length_set]) fun i hi => ?_
  rw [getD_set]
  by_cases e : i = k
  · subst e
    rw [trL_len] at hi
    rw [if_pos ⟨rfl, by rw [trL_len]; exact hi⟩, trL_getD _ _ _ _ _ _ hi, if_neg (Nat.lt_irrefl _)]
  · rw [if_neg (fun h => e h.1)]
theorem But1.wd {g gr : Nat} {a b : World} {c : Nat} {xs : List Int} (h : But1 g a b) (hw : Wd a gr c xs) (hn : gr ≠ g) : Wd b gr c xs := hw.of (h.block _ hw.lt hn)
theorem But1.lu {g gr : Nat} {a b : World} {xs : List Int} (h : But1 g a b) (hw : LU a gr xs) (hn : gr ≠ g) : LU b gr xs := LR.block hw (h.block _ (LR.lt hw) hn)
theorem But1.bt {g B : Nat} {a b : World} (h : But1 g a b) : ButB B g a b := ⟨h.os, h.tape, h.output, h.size, fun k hk _ hn => h.block k hk hn⟩
theorem But1.fz {g : Nat} {w w' : World} (h : But1 g w w') {q o : Nat} (hq : q < w.heap.size) (hn : q ≠ g) : w'.frozen? ⟨q, o, none⟩ = w.frozen? ⟨q, o, none⟩ := World.frozen?_of_block (a := ⟨q, o, none⟩) (h.block q hq hn)
theorem zeroU64 : ∀ wx, (zeroValue 46).run Try.prog wx = .ok (.int .u64 0) wx := fun wx => by kernel_rfl
theorem wpList_clearWd {ops : Array Oper} {rest : List Oper} {o : Oper} {a : Act} {Q : Exit → Act → World → Prop} {w : World} {g c cc off lo m : Nat} {xs : List Int} (hgd : o.guard = none) (s : Operand) (ho : o.op = .call { callee := .builtin .clear, args := #[s], argTypes := #[22] })
    (hv : a.eval s = .slice (some ⟨g, off, none⟩) m cc) (hoff : 0 < m → off = lo) (hw : Wd w g c xs) (hl : lo + m ≤ xs.length)
    (h : ∀ w' ys, Wd w' g c ys → ys.length = xs.length → (∀ i, ys.getD i 0 = if lo ≤ i ∧ i < lo + m then 0 else xs.getD i 0) → But1 g w w' → wpList Try.prog ops Q rest (a.put o.dst (.tuple #[])) w') : wpList Try.prog ops Q (o :: rest) a w := by
  obtain ⟨ys, h1, h2, h3, h4⟩ := wd_clear m lo w xs hw hl
  refine wpList_plain hgd fun K hK => ?_
  unfold Oper.wp
  rcases Nat.eq_zero_or_pos m with h0 | h0
  · subst h0
    have hrun : (Builtin.clear_ #[22] o.type #[.slice (some ⟨g, off, none⟩) 0 cc]).run Try.prog w = .ok (.tuple #[]) w := by
      simp [Builtin.clear_, run_underlying Try.underlying22, zeroU64]
    simp [execOp, ho, resolve, invoke, builtin, hv, hrun, Result.andThen]
    exact hK _ _ (h w xs hw rfl (fun i => by rw [if_neg (by omega)]) (But1.of (Below.refl _ _)))
  · obtain rfl := hoff h0
    have hrun := Lib.run_clear_slice (P := Try.prog) w 22 46 o.type (.int .u64 0) Try.underlying22 zeroU64 rfl rfl g off m cc h0 (fun j hj => by rw [hw.cell (i := off + j) (by omega)]; rfl) (fun j hj => hw.frozen _)
    simp [execOp, ho, resolve, invoke, builtin, hv, hrun, Result.andThen]
    exact hK _ _ (h _ ys h1 h2 h3 h4)
theorem co_end {B g c tn f gr : Nat} {ws : List Int} {l : List Nat} {rs : List Int} {M : Nat → Bool} {res : List Int} {w w9 : World} {y : Value} (hB : But1 g w w9) (h0 : w9.cell? ⟨B, 0, none⟩ = some (.slice (some ⟨g, 0, none⟩) ws.length c)) (h2 : w9.cell? ⟨B, 1, none⟩ = some y) (hz : w9.frozen? ⟨B, 1, none⟩ = false)
    (hwd : Wd w9 g c res) (hco : CO ws l M res) (hlu : LU w9 gr (rs.map (trR ws l M))) (hgr : w.heap.size ≤ gr) (hf : frK l M (szN ws) l.length = f) (hMR : ∀ a, M a = true ↔ Rch ws rs a) (hBg : B ≠ g) (hBl : B < w.heap.size) :
    CoPost B g c tn ws l rs w (.returned (.tuple #[.slice (some ⟨gr, 0, none⟩) rs.length rs.length, .int .i64 0])) (w9.setCell ⟨B, 1, none⟩ (.int .i64 f)) := by
  have hset : ∀ x, x ≠ B → (w9.setCell ⟨B, 1, none⟩ (.int .i64 f)).heap[x]? = w9.heap[x]? := fun x hx => Below.heap_setCell _ _ _ x hx
  refine ⟨gr, M, res, rfl, hMR, hco, ?_, ?_, ?_, hwd.of (hset g (Ne.symm hBg)), LR.block hlu (hset gr (by omega)), hgr, hB.os, hB.tape, hB.output, Nat.le_trans hB.size (KeepsWalks.setCell _ _ _).size, fun k hk h1 h3 => (hset k h1).trans (hB.block k hk h3)⟩
  · exact (World.cell?_setCell_other _ _ _ _ (by simp)).trans h0
  · rw [hf]; exact World.cell?_setCell_same _ _ _ h2
  · rw [World.frozen?_setCell]; exact hz
set_option maxRecDepth 100000 in
set_option maxHeartbeats 4000000 in
theorem collect_yes {B g c tn : Nat} {ws : List Int} {l : List Nat} {w : World} (hp : PM w B g c tn ws) (hm : memOk ws tn = true) (ho : Ob ws tn l) (h1 : 1 ≤ tn) (hfree : ∀ i, tn ≤ i → ws.getD i 0 = 0) (rv : Value) (rs : List Int) (hrs : ∀ A, But1 g w A → Rd A rv rs) (hfr : Fit rs) (hyes : rs.all (rightW l) = true) :
    Calls Try.prog 17 #[.pointer (some ⟨B, 0, none⟩), rv] w (CoPost B g c tn ws l rs w) := by
  have hce := chk_yes hm
  have htl := hp.t1
  have hmost := ho.most
  have hBg := hp.ma.ne
  have hBl := hp.ltB
  have hgl := hp.ltg
  have HC := Lib.hid (check_any _ ws tn w hp.rd hp.fit ⟨by omega, by omega⟩)
  rw [hce] at HC
  have HRR := Lib.hid (fun (wx : World) (hb : Below w.heap.size w wx) => rroots_any ho _ wx (hp.rd.keep hb) rv rs (hrs _ (But1.of hb)) hfr)
  rw [hyes] at HRR
  obtain ⟨pr, cr, rfl, hmr⟩ := rd_form0 (hrs w (But1.of (Below.refl _ _)))
  have h0 := hp.ma.box0
  have h2 := hp.ma.box1
  have z2 := hp.ma.fr
  have HO := Lib.hid ho
  have HRS := Lib.hid hrs
  have HFR := Lib.hid hfr
  have HY := Lib.hid hyes
  have HFE := Lib.hid hfree
  have HW := Lib.hid (show Wd w g c ws from ⟨hp.ma.row, hp.ma.le, hp.ma.max⟩)
  clear hp hm ho hrs hfr hyes hfree hce
  go_enter Try.func17, Try.ntmps17
  go_wp2_with fail
  refine HC.out.mono ?_
  rintro e w1 ⟨rfl, hb⟩
  have HB := Lib.hid hb
  have h0 := below_cell hb h0
  have h2 := below_cell hb h2
  clear hb
  go_wp2_with fail
  refine (HRR.out _ HB.out).mono ?_
  rintro e w2 ⟨rfl, hb⟩
  have HB2 := Lib.hid (show But1 g w w2 from (But1.of HB.out).trans (But1.of hb))
  have HW2 := Lib.hid ((HW.out.keep HB.out).keep hb)
  have h0 := below_cell hb h0
  have h2 := below_cell hb h2
  clear hb HB HC HRR HW
  go_wp2_with fail
  have hmk := markall_any HO.out HW2.out _ rs (fun A hA => HRS.out A (HB2.out.trans hA)) HFR.out HY.out
  refine hmk.mono ?_
  clear hmk
  rintro e w3 ⟨rfl, ⟨xs, M, hwd, hmkd, hMR⟩, hbt⟩
  have HMR := Lib.hid hMR
  have HMK := Lib.hid hmkd
  have HWD := Lib.hid hwd
  have HB3 := Lib.hid (HB2.out.trans hbt)
  have h0 := hbt.cell h0 hBg
  have h2 := hbt.cell h2 hBg
  clear hMR hmkd hwd hbt HW2 HB2
  go_wp2_with fail
  refine (forward_any HO.out HMK.out HWD.out).mono ?_
  rintro e w4 ⟨rfl, ⟨ys, hwd, hfw⟩, hbt⟩
  have HFW := Lib.hid hfw
  have HWD4 := Lib.hid hwd
  have HB4 := Lib.hid (HB3.out.trans hbt)
  have h0 := hbt.cell h0 hBg
  have h2 := hbt.cell h2 hBg
  clear hfw hwd hbt HWD HB3
  go_wp2_with fail
  refine (turn_any HO.out (clo_of HMR.out) HFW.out HWD4.out).mono ?_
  rintro e w5 ⟨rfl, ⟨zs, hwd, htn⟩, hbt⟩
  have HTN := Lib.hid htn
  have HWD5 := Lib.hid hwd
  have HB5 := Lib.hid (HB4.out.trans hbt)
  have h0 := hbt.cell h0 hBg
  have h2 := hbt.cell h2 hBg
  clear htn hwd hbt HWD4 HB4 HFW
  have hmk := run_make_row' (P := Try.prog) 22 46 (.int .u64 0) 8 Try.underlying22 infoU64 rfl .i64 .i64 rs.length (by omega) (by omega)
  have hgm : (w5.alloc (.cells (madeCells #[Value.int .u64 0] rs.length) 46)).heap[w5.heap.size]? = some (.cells ((List.replicate (rs.length + 0) (0 : Int)).map (Value.int .u64)).toArray 46 (0, 0)) := LR.made (k := .u64) (T := 46) w5 rs.length
  have HGG := Lib.hid hgm
  have HBB := Lib.hid (show Below w5.heap.size w5 (w5.alloc (.cells (madeCells #[Value.int .u64 0] rs.length) 46)) from (Below.refl _ _).alloc (Nat.le_refl _) _)
  have HSR := Lib.hid (fun (h : 0 < rs.length) => show ∃ b off, pr = some ⟨b, off, none⟩ ∧ ∀ i, i < rs.length → (w5.alloc (.cells (madeCells #[Value.int .u64 0] rs.length) 46)).cell? ⟨b, off + i, none⟩ = some (.int .u64 (rs.getD i 0)) by
    obtain ⟨b, off, c2, hv, _, _, hcell⟩ := (HRS.out w5 HB5.out).some h
    cases hv
    exact ⟨b, off, rfl, fun i hi => alloc_cell (hcell i hi) _⟩)
  clear hgm
  go_wp2_with (with_reducible refine wpList_copy_splice rfl (.tmp 52) (.tmp 53) 22 22 rfl 46 Try.underlying22 sizeU64r (some ⟨w5.heap.size, 0, none⟩) pr rs.length rs.length rs.length cr rfl rfl w5.heap.size 0 _ 46 HGG.out (rs.map (Value.int .u64)) (by simp) (fun h0 => ⟨rfl, src_cells HSR.out h0⟩) (by simp) (one_cells rs) w5.heap.size w5 HBB.out (Nat.le_refl _) ?_; intro w6 hrow hb6)
  have hL := LU.of_splice (m := 0) rfl hrow
  rw [List.replicate_zero, List.append_nil] at hL
  have HL := Lib.hid hL
  have HB6 := Lib.hid hb6
  have hgr : g < w5.heap.size := Nat.lt_of_lt_of_le hgl HB5.out.size
  have hBr : B < w5.heap.size := Nat.lt_of_lt_of_le hBl HB5.out.size
  have HBT := Lib.hid hBl
  clear hL hrow hb6 hmk HGG HBB HSR
  go_loopw [9, 10, 11, 12, 57] (fun _ _ _ _ s wr => ∃ k : Nat, s = .int .i64 k ∧ k ≤ rs.length ∧ LU wr w5.heap.size (trL ws l M rs k) ∧ Below w5.heap.size w5 wr) (fun _ _ _ _ s _ => rs.length - (intOf s).toNat)
  case atStart => exact ⟨0, by go_num, Nat.zero_le _, by rw [trL_zero]; exact HL.out, HB6.out⟩
  case round =>
    obtain ⟨k, rfl, hk, hlu, hbel⟩ := hrel
    have HLU := Lib.hid hlu
    have HBL := Lib.hid hbel
    by_cases hlt : k < rs.length
    · have hlz : (k : Int) < (rs.length : Int) := Int.ofNat_lt.2 hlt
      obtain ⟨b0, off, c2, hv, hcc, hmm, hcell⟩ := ((HRS.out w5 HB5.out).keep hbel).some (Nat.lt_of_le_of_lt (Nat.zero_le _) hlt)
      cases hv
      have hck := hcell k hlt
      have hxb := HFR.out k
      have HRW := Lib.hid (List.all_eq_true.1 HY.out _ (getD_mem hlt))
      have HSM := Lib.hid (fun h => trL_same (ws := ws) (l := l) (M := M) hlt h)
      have HST := Lib.hid (fun (y : Int) (h : trR ws l M (rs.getD k 0) = y) => trL_set hlt h)
      have HRT := Lib.hid (fun h => Rch.root (ws := ws) (getD_mem hlt) h)
      have gc := hlu.cell (i := k) (by rw [trL_len]; exact hlt)
      have gf := hlu.frozen k
      generalize (trL ws l M rs k).getD k 0 = z9 at gc
      obtain ⟨x, hx⟩ : ∃ x, rs.getD k 0 = x := ⟨_, rfl⟩
      rw [hx] at hck hxb HRW HSM HST HRT
      have hwf := wfu_mk hxb
      clear hlu hbel hcell hcc hmm hx
      by_cases hk0 : kindOf x = 0
      · have hkn := kind_nat hk0
        obtain ⟨b, hb⟩ : ∃ b : Nat, x / 4 = (b : Int) := ⟨(x / 4).toNat, by omega⟩
        have hbn : (x / 4).toNat = b := by rw [hb, Int.toNat_natCast]
        have e1 : atV x = (b : Int) := by unfold atV; rw [if_pos hk0, hb]
        have e2 : atE x = 0 := by unfold atE; rw [if_pos hk0]
        have hrt := HRT.out hk0
        rw [hbn] at hrt
        have hMb := (HMR.out b).2 hrt
        have hbl := HTN.out.sub b hMb
        have hbi := HO.out.in1 b hbl
        have hD := HTN.out.fwd b hMb
        have hwg := HWD5.out.of (HBL.out.block g hgr)
        have hzl := HTN.out.len
        have cg := hwg.cell (i := b + 1) (by have := HO.out.le; omega)
        rw [hD] at cg
        have hDl : dstA l M (szN ws) b ≤ 1048576 := by
          obtain ⟨i, hi, rfl⟩ := getD_of_mem hbl
          rw [dst_at HO.out.rising hi]
          have h1 := frK_le (M := M) HO.out.objs i (Nat.le_of_lt hi)
          have h2 := HO.out.objs.le i
          have := HO.out.objs.top
          omega
        have HTR := Lib.hid (show trR ws l M x = (dstA l M (szN ws) b : Int) * 4 by unfold trR; rw [if_pos hk0, hbn, Int.mul_comm])
        obtain ⟨D, hDD⟩ : ∃ D, dstA l M (szN ws) b = D := ⟨_, rfl⟩
        rw [hDD] at cg hDl HTR
        have hsh : IntKind.u64.wrap ((D : Int) * 4) = (D : Int) * 4 := by rw [u64w]; omega
        have hbz : (b : Int) + 1 < (ws.length : Int) := by have := HO.out.le; omega
        have hbm : (b : Int) ≤ 1048576 := by omega
        have HN := Lib.hid (HST.out _ HTR.out)
        have HLW := Lib.hid (HLU.out.set k ((D : Int) * 4))
        clear hk0 hkn hb hbn hrt hMb hbi hD hwg hzl hDD hxb hDl hbl
        go_wp2_with (go_at_call 52; (with_reducible refine (at_any x hwf _).mono ?_); rintro e w9 ⟨rfl, rfl⟩; rw [e1, e2])
        go_roundw
        case rel => exact ⟨k + 1, by go_num, hlt, by rw [← HN.out]; exact HLW.out, HBL.out.setCell (Nat.le_refl _) _⟩
        case measure => exact mk_meas hlt
      · have e2 : atE x = 9 := by unfold atE; rw [if_neg hk0]
        have HN := Lib.hid (HSM.out hk0)
        clear hk0 hxb
        go_wp2_with (go_at_call 52; (with_reducible refine (at_any x hwf _).mono ?_); rintro e w9 ⟨rfl, rfl⟩; rw [e2])
        go_roundw
        case rel => exact ⟨k + 1, by go_num, hlt, by rw [← HN.out]; exact HLU.out, HBL.out⟩
        case measure => exact mk_meas hlt
    · have hke : k = rs.length := Nat.le_antisymm hk (Nat.not_lt.1 hlt)
      subst hke
      have hlz : ¬ (rs.length : Int) < (rs.length : Int) := Int.lt_irrefl _
      have h0 := (World.cell?_of_block (a := ⟨B, 0, none⟩) (HBL.out.block B hBr)).trans h0
      have h2 := (World.cell?_of_block (a := ⟨B, 1, none⟩) (HBL.out.block B hBr)).trans h2
      have HW7 := Lib.hid (HWD5.out.of (HBL.out.block g hgr))
      have HB7 := Lib.hid (HB5.out.trans (But1.of HBL.out))
      have HL7 := Lib.hid (show LU wr w5.heap.size (rs.map (trR ws l M)) by rw [← trL_all]; exact HLU.out)
      clear hlu hbel HLU
      go_wp2_with fail
      refine (slide_any HO.out HTN.out HW7.out).mono ?_
      rintro e w8 ⟨rfl, ⟨vs, hwd, hsd⟩, hbt⟩
      have HSD := Lib.hid hsd
      have HW8 := Lib.hid hwd
      have HB8 := Lib.hid (HB7.out.trans hbt)
      have h0 := hbt.cell h0 hBg
      have h2 := hbt.cell h2 hBg
      have HL8 := Lib.hid (hbt.lu HL7.out (by omega))
      have HGL := Lib.hid (show w5.heap.size < w8.heap.size from Nat.lt_of_lt_of_le (LR.lt HL7.out) hbt.size)
      have HFZ := Lib.hid (show w8.frozen? ⟨B, 1, none⟩ = false by rw [HB8.out.fz HBT.out hBg]; exact z2)
      have hvl := hsd.len
      have hfl : frK l M (szN ws) l.length ≤ tn := by
        have := frK_le (M := M) HO.out.objs l.length (Nat.le_refl _)
        rw [nxO_ge (Nat.lt_irrefl _)] at this; exact this
      have HCO := Lib.hid (hsd.co HTN.out HO.out h1 HFE.out)
      have hwc := hwd.le
      clear hwd hsd hbt HW7 HB7 HL7 HTN HWD5
      obtain ⟨f, hf⟩ : ∃ f, frK l M (szN ws) l.length = f := ⟨_, rfl⟩
      rw [hf] at hfl HCO
      have HF := Lib.hid hf
      rw [hf]
      obtain ⟨m, hm⟩ : ∃ m, tn = f + m := ⟨tn - f, by omega⟩
      obtain ⟨o', ho', hsl⟩ := sl_mid 22 sliceU64 sizeU64 g 0 ws.length c f m (by omega)
      rw [show (f : Int) + (m : Int) = (tn : Int) by omega] at hsl
      have hlo : (f : Int) ≤ (tn : Int) := by omega
      have HLO := Lib.hid (show 0 < m → o' = f from fun h => by rw [ho' (by omega), Nat.zero_add])
      have HM := Lib.hid hm
      clear ho' hf hm
      go_wp2_with (with_reducible refine wpList_clearWd rfl (.tmp 91) rfl rfl HLO.out HW8.out (by have := HM.out; omega) ?_; intro w9 res hwd hrl hrg hbt; have k2 := hbt.cell h2 hBg; have k0 := hbt.cell h0 hBg; have kz : w9.frozen? ⟨B, 1, none⟩ = false := (by rw [hbt.fz (Nat.lt_of_lt_of_le HBT.out HB8.out.size) hBg]; exact HFZ.out); have HW9 := Lib.hid hwd; have HR9 := Lib.hid (And.intro hrl hrg); have HB9 := Lib.hid hbt; clear hwd hrl hrg hbt h0 h2)
      refine bodyPost_ret (results_tmp2 rfl _ _ _) rfl ?_
      refine co_end (HB8.out.trans HB9.out) k0 k2 kz HW9.out (HCO.out.ext ?_ ?_) (HB9.out.lu HL8.out (by omega)) HB5.out.size HF.out HMR.out hBg HBT.out
      · rw [HR9.out.1, cleared_len (by have := HM.out; omega) (by omega)]
      · intro i
        rw [HR9.out.2, cleared_getD (by have := HM.out; omega) (by omega)]
        have := HM.out
        by_cases h : f ≤ i ∧ i < f + m
        · rw [if_pos h, if_pos (by omega)]
        · rw [if_neg h, if_neg (by omega)]
end
section
open Go Go.ChangeShapes Go.WideShapes Go.ChangeAt Go.RowKit
set_option linter.unusedVariables false
set_option linter.unusedSimpArgs false
set_option maxRecDepth 100000 in
set_option maxHeartbeats 1000000 in
theorem samew (v1 v2 : Value) (ws : List Int) (w : World) (h1 : Rd w v1 ws) (h2 : Rd w v2 ws) :
    Calls Try.prog 20 #[v1, v2] w fun e w' => e = .returned (.bool true) ∧ ∃ q, w' = w.drewN q := by
  obtain ⟨p1, c1, rfl, hc1, hm1, hp1⟩ := rd_form h1
  obtain ⟨p2, c2, rfl, hc2, hm2, hp2⟩ := rd_form h2
  have HP1 := Lib.hid hp1
  have HP2 := Lib.hid hp2
  clear h1 h2 hp1 hp2
  go_enter Try.func20, Try.ntmps20
  go_wp2_with fail
  go_loopw [5] (fun s wr => ∃ k q : Nat, s = .int .i64 k ∧ k ≤ ws.length ∧ wr = w.drewN q) (fun s _ => ws.length - (intOf s).toNat)
  case atStart => exact ⟨0, 0, by go_num, Nat.zero_le _, rfl⟩
  case round =>
    obtain ⟨k, q, rfl, hk, rfl⟩ := hrel
    by_cases hlt : k < ws.length
    · obtain ⟨b1, o1, rfl, e1⟩ := HP1.out (by omega)
      obtain ⟨b2, o2, rfl, e2⟩ := HP2.out (by omega)
      have e1 := e1 k hlt
      have e2 := e2 k hlt
      have hlz : (k : Int) < (ws.length : Int) := by omega
      go_wp2_with fail
      go_quiet (fail)
      go_wp2_with fail
      go_roundw
      case rel => exact ⟨k + 1, _, by go_num, by omega, rfl⟩
      case measure => simp [intOf]; omega
    · go_wp2_with fail
      go_ret
      exact ⟨rfl, _, rfl⟩
theorem LU.wd {w : World} {g : Nat} {ws : List Int} (h : LU w g ws) (hm : ws.length ≤ 17592186043904) : Wd w g ws.length ws := by
  refine ⟨⟨fun i => (ws.map (Value.int .u64)).getD i undef, ⟨_, h, by simp, fun i hi => ?_⟩, fun i hi => ?_⟩, Nat.le_refl _, hm⟩
  · simp [List.getD_eq_getElem?_getD, hi]
  · simp [List.getD_eq_getElem?_getD, hi]
def w14 : List Int := [0, 12884902149, 0, 28, 12884901889, 0, 7, 12884901889, 0, 99]
def l14 : List Nat := [1, 4, 7]
def m14 (a : Nat) : Bool := decide (a = 1 ∨ a = 7)
theorem k14_ok : memOk w14 10 = true ∧ objList w14 10 = l14 := by decide +kernel
theorem k14_fit : Fit w14 := by
  intro i
  match i with
  | 0 => decide
  | 1 => decide
  | 2 => decide
  | 3 => decide
  | 4 => decide
  | 5 => decide
  | 6 => decide
  | 7 => decide
  | 8 => decide
  | 9 => decide
  | i + 10 => simp [w14]
theorem k14_suc : sucs w14 1 = [7] ∧ sucs w14 7 = [] ∧ kindOf 4 = 0 ∧ kindOf 2 ≠ 0 := by decide +kernel
theorem k14_rch (a : Nat) : Rch w14 [4, 2] a ↔ m14 a = true := by
  obtain ⟨s1, s7, k4, k2⟩ := k14_suc
  unfold m14
  rw [decide_eq_true_eq]
  constructor
  · intro h
    induction h with
    | root hx hk =>
      simp only [List.mem_cons, List.not_mem_nil, or_false] at hx
      rcases hx with rfl | rfl
      · exact .inl rfl
      · exact absurd hk k2
    | step h1 hb ih =>
      rcases ih with rfl | rfl
      · rw [s1] at hb; simp at hb; exact .inr hb
      · rw [s7] at hb; simp at hb
  · have h1 : Rch w14 [4, 2] 1 := Rch.root (x := 4) (by simp) k4
    rintro (rfl | rfl)
    · exact h1
    · exact .step h1 (by rw [s1]; simp)
theorem k14_res : frK l14 m14 (szN w14) 0 = 1 ∧ frK l14 m14 (szN w14) 2 = 4 ∧ frK l14 m14 (szN w14) 3 = 7 ∧ szN w14 1 = 3 ∧ szN w14 7 = 3 ∧ outT w14 l14 m14 1 2 = 16 ∧ outT w14 l14 m14 7 2 = 99 ∧ [4, 2].map (trR w14 l14 m14) = [4, 2] ∧ [4, 2].all (rightW l14) = true := by decide +kernel
set_option maxRecDepth 100000 in
set_option maxHeartbeats 2000000 in
theorem small14 (w : World) :
    Calls Try.prog 41 #[] w fun e w' => e = .returned (.agg #[.slice (some ⟨w.heap.size + 1, 0, none⟩) 10 10, .int .i64 10]) ∧ Wd w' (w.heap.size + 1) 10 w14 ∧ Below w.heap.size w w' := by
  go_enter Try.func41, Try.ntmps41
  go_wp2_with fail
  obtain ⟨w1, hw1⟩ : ∃ w1, w.alloc (Obj.cells #[.slice (some ⟨w.heap.size + 1, 0, none⟩) 10 10, .int .i64 10] 24) = w1 := ⟨_, rfl⟩
  have hs1 : w1.heap.size = w.heap.size + 1 := by rw [← hw1]; simp
  have hb1 : Below w.heap.size w w1 := by rw [← hw1]; exact (Below.refl _ _).alloc (Nat.le_refl _) _
  have c0 : w1.cell? ⟨w.heap.size, 0, none⟩ = some (.slice (some ⟨w.heap.size + 1, 0, none⟩) 10 10) := by rw [← hw1]; simp
  have c1 : w1.cell? ⟨w.heap.size, 1, none⟩ = some (.int .i64 10) := by rw [← hw1]; simp
  rw [hw1]
  have hlu : LU (w1.alloc (Obj.cells #[.int .u64 0, .int .u64 12884902149, .int .u64 0, .int .u64 28, .int .u64 12884901889, .int .u64 0, .int .u64 7, .int .u64 12884901889, .int .u64 0, .int .u64 99] 46)) w1.heap.size w14 := heap_alloc_new w1 _
  have hwd := hlu.wd (by decide)
  rw [hs1] at hwd
  refine bodyPost_ret (v := .agg #[.slice (some ⟨w.heap.size + 1, 0, none⟩) 10 10, .int .i64 10]) (by simp [results, Try.results41, go_sem, alloc_cell c0, alloc_cell c1]) rfl ⟨rfl, hwd, hb1.alloc hb1.size _⟩
set_option maxRecDepth 100000 in
set_option maxHeartbeats 2000000 in
theorem known14 (w : World) :
    Calls Try.prog 11 #[] w fun e w' => e = .returned (.bool true) ∧ Below w.heap.size w w' := by
  go_enter Try.func11, Try.ntmps11
  go_wp2_with fail
  refine (small14 _).mono ?_
  rintro e w1 ⟨rfl, hwd, hb⟩
  go_wp2_with fail
  obtain ⟨w2, hw2⟩ : ∃ w2, w1.alloc (Obj.cells #[.slice (some ⟨w.heap.size + 1, 0, none⟩) 10 10, .int .i64 10] 24) = w2 := ⟨_, rfl⟩
  obtain ⟨w3, hw3⟩ : ∃ w3, w2.alloc (Obj.cells #[.int .u64 4, .int .u64 2] 46) = w3 := ⟨_, rfl⟩
  rw [hw2, hw3]
  have hs2 : w2.heap.size = w1.heap.size + 1 := by rw [← hw2]; simp
  have hlu : LU w3 (w1.heap.size + 1) [4, 2] := by rw [← hw3, ← hs2]; exact heap_alloc_new w2 _
  have hb3 : Below w1.heap.size w1 w3 := by rw [← hw3, ← hw2]; exact ((Below.refl _ _).alloc (Nat.le_refl _) _).alloc (by simp) _
  have c0 : w3.cell? ⟨w1.heap.size, 0, none⟩ = some (.slice (some ⟨w.heap.size + 1, 0, none⟩) 10 10) := by rw [← hw3]; exact alloc_cell (by rw [← hw2]; simp) _
  have c1 : w3.cell? ⟨w1.heap.size, 1, none⟩ = some (.int .i64 10) := by rw [← hw3]; exact alloc_cell (by rw [← hw2]; simp) _
  have z1 : w3.frozen? ⟨w1.heap.size, 1, none⟩ = false := by
    have : w3.heap[w1.heap.size]? = some (.cells #[.slice (some ⟨w.heap.size + 1, 0, none⟩) 10 10, .int .i64 10] 24 (0, 0)) := by
      rw [← hw3]
      exact (Below.heap_alloc _ _ _ (by rw [hs2]; omega)).trans (by rw [← hw2]; exact World.alloc_heap_new w1 _)
    simp [World.frozen?, this]
  have hwd3 := hwd.keep hb3
  have hgl := hwd.lt
  have hpm : PM w3 w1.heap.size (w.heap.size + 1) 10 10 w14 := ⟨⟨c0, c1, z1, hwd3.row, hwd3.le, hwd3.max, by omega⟩, k14_fit, by decide⟩
  have hrs : ∀ A, But1 (w.heap.size + 1) w3 A → Rd A (.slice (some ⟨w1.heap.size + 1, 0, none⟩) 2 2) [4, 2] := fun A hA =>
    ((hA.lu hlu (by omega)).mine (B0 := 0) (Nat.zero_le _)).rd (by decide)
  have hff : Fit [4, 2] := fun i => by
    match i with
    | 0 => decide
    | 1 => decide
    | i + 2 => simp
  obtain ⟨tn, e, h1, h2, ho, hqq, hfr⟩ := ob_mem (ws := w14) (top := 10) k14_ok.1 k14_fit
  obtain rfl : tn = 10 := by omega
  rw [k14_ok.2] at ho
  clear e h1 hqq
  have HS := hb3.size
  refine (collect_yes hpm k14_ok.1 ho h2 hfr _ [4, 2] hrs hff k14_res.2.2.2.2.2.2.2.2).mono ?_
  rintro e w4 ⟨gr, M, res, rfl, hM, hco, b0, b1, z, hwd4, hlu4, hgr, hbt⟩
  have hMe : M = m14 := by
    funext a
    rw [Bool.eq_iff_iff, hM, k14_rch]
  subst hMe
  obtain ⟨f0, f2, f3, s1, s7, o1, o2, htr, hqq⟩ := k14_res
  have hrl := hco.len
  have r3 : res.getD 3 0 = 16 := by
    have := hco.low 0 (by decide) (by decide) 2 (by rw [show l14.getD 0 0 = 1 from rfl, s1]; decide)
    rw [f0] at this
    exact this.trans o1
  have r6 : res.getD 6 0 = 99 := by
    have := hco.low 2 (by decide) (by decide) 2 (by rw [show l14.getD 2 0 = 7 from rfl, s7]; decide)
    rw [f2] at this
    exact this.trans o2
  have r7 : res.getD 7 0 = 0 := hco.zero 7 (by rw [show l14.length = 3 from rfl, f3]; decide)
  have r9 : res.getD 9 0 = 0 := hco.zero 9 (by rw [show l14.length = 3 from rfl, f3]; decide)
  have k3 := hwd4.cell (i := 3) (by rw [hrl]; decide)
  have k6 := hwd4.cell (i := 6) (by rw [hrl]; decide)
  have k7 := hwd4.cell (i := 7) (by rw [hrl]; decide)
  have k9 := hwd4.cell (i := 9) (by rw [hrl]; decide)
  rw [r3] at k3
  rw [r6] at k6
  rw [r7] at k7
  rw [r9] at k9
  rw [show l14.length = 3 from rfl, f3] at b1
  rw [htr] at hlu4
  have hrd : Rd w4 (.slice (some ⟨gr, 0, none⟩) 2 2) [4, 2] := (hlu4.mine (B0 := 0) (Nat.zero_le _)).rd (by decide)
  have hBW : Below w.heap.size w w4 := (hb.trans (hb3.mono hb.size)).trans ⟨hbt.os, hbt.tape, hbt.output, hbt.size, fun k hk => hbt.block k (by have := hb.size; omega) (by have := hb.size; omega) (by omega)⟩
  have HRD := Lib.hid hrd
  have HBW := Lib.hid hBW
  rw [show w14.length = 10 from rfl] at b0
  clear hwd4 hlu4 hrd hBW hbt hco hM hrs hff hpm ho hfr hwd3 hwd hb3 hlu hw2 hw3 r3 r6 r7 r9
  have b1 : w4.cell? ⟨w1.heap.size, 1, none⟩ = some (.int .i64 7) := b1
  have b0 := fun o => alloc_cell b0 o
  have b1 := fun o => alloc_cell b1 o
  have k3 := fun o => alloc_cell k3 o
  have k6 := fun o => alloc_cell k6 o
  have k7 := fun o => alloc_cell k7 o
  have k9 := fun o => alloc_cell k9 o
  have HLW := Lib.hid (fun (b : Nat) (hb : b = w4.heap.size) => show Rd (w4.alloc (Obj.cells #[.int .u64 4, .int .u64 2] 46)) (.slice (some ⟨b, 0, none⟩) 2 2) [4, 2] by
    subst hb
    have h : LU (w4.alloc (Obj.cells #[.int .u64 4, .int .u64 2] 46)) w4.heap.size [4, 2] := heap_alloc_new w4 _
    exact (h.mine (B0 := 0) (Nat.zero_le _)).rd (by decide))
  clear f0 f2 f3 s1 s7 o1 o2 htr hrl c0 c1 z1 z h2 hqq
  simp only [List.length_cons, List.length_nil, Nat.reduceAdd]
  go_wp2_with fail
  refine (samew _ _ [4, 2] _ (HRD.out.alloc _) (HLW.out _ rfl)).mono ?_
  rintro e w9 ⟨rfl, q, rfl⟩
  go_wp2_with fail
  go_ret
  exact ⟨rfl, below_drewN (HBW.out.alloc HBW.out.size _) q⟩
end
end Go.Proofs.Ytfhjpgbnojdlkaa
