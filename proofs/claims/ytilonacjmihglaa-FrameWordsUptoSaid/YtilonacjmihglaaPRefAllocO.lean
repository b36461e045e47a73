/- Layer 13, the document's: Alloc, with the row that it answers. -/
import Derived.Test.YtilonacjmihglaaPGAlloc
namespace Go.Proofs.Ytilonacjmihglaa
open Go.ChangeShapes Go.WideShapes Go.ChangeAt Go.RowKit
set_option linter.unusedVariables false
set_option linter.unusedSimpArgs false
def RAPostO (W : World) (ws : List Int) (a : Nat) (k : Int) (T R : Nat) (e : Ending) (w' : World) : Prop :=
  ∃ g cap, e = .returned (.tuple #[.agg #[.slice (some ⟨g, 0, none⟩) ws.length cap, .int .i64 ((a : Int) + ((T : Int) + (R : Int) + 2))], .int .i64 (a : Int), .int .i64 0]) ∧ W.heap.size ≤ g ∧ ws.length ≤ cap ∧
    (Row w' g ws.length cap (fillTo (fun i => ws.getD i 0) a (headWord k T R) T (T + R)) ∧ ws.length ≤ 17592186043904) ∧ Below W.heap.size W w'
set_option maxRecDepth 100000 in
set_option maxHeartbeats 1000000 in
theorem refalloc_own (v : Value) (ws : List Int) (a : Nat) (k : Int) (T R : Nat) (w : World) (hr : Rd w v ws) (h1 : 1 ≤ a) (h2 : a ≤ ws.length) (hk : 1 ≤ k ∧ k ≤ 255) (hT : (T : Int) ≤ 1048576) (hR : (R : Int) ≤ 1048576) (hs : (2 : Int) + T + R < 16777216 ∧ (2 : Int) + T + R ≤ (ws.length : Int) - (a : Int)) :
    Calls Try.prog 47 #[.agg #[v, .int .i64 a], .int .i64 k, .int .i64 T, .int .i64 R] w (RAPostO w ws a k T R) := by
  obtain ⟨b, off, c, rfl, hl, hc, hcell⟩ := hr.some (by omega)
  have HR := Lib.hid hr
  obtain ⟨b3, b4⟩ := hk
  obtain ⟨s1, s2⟩ := hs
  clear hcell hr
  have d1 : decide ((a : Int) < 1) = false := by rw [decide_eq_false_iff_not]; omega
  have d2 : decide ((ws.length : Int) < (a : Int)) = false := by rw [decide_eq_false_iff_not]; omega
  have d3 : decide (k < 1) = false := by rw [decide_eq_false_iff_not]; omega
  have d4 : decide ((255 : Int) < k) = false := by rw [decide_eq_false_iff_not]; omega
  have d5 : decide ((T : Int) < 0) = false := by rw [decide_eq_false_iff_not]; omega
  have d6 : decide ((1048576 : Int) < (T : Int)) = false := by rw [decide_eq_false_iff_not]; omega
  have d7 : decide ((R : Int) < 0) = false := by rw [decide_eq_false_iff_not]; omega
  have d8 : decide ((1048576 : Int) < (R : Int)) = false := by rw [decide_eq_false_iff_not]; omega
  have d9 : decide ((16777216 : Int) ≤ (T : Int) + (R : Int) + 2) = false := by rw [decide_eq_false_iff_not]; omega
  have d10 : decide ((ws.length : Int) < (a : Int) + ((T : Int) + (R : Int) + 2)) = false := by rw [decide_eq_false_iff_not]; omega
  have d2' : decide (ws.length < a) = false := by rw [decide_eq_false_iff_not]; omega
  go_enter Try.func47, Try.ntmps47
  go_wp2_with fail
  generalize hW0 : World.alloc (World.alloc w _) _ = W0
  have hA0 : Below w.heap.size w W0 := by rw [← hW0]; exact ((Below.refl _ _).alloc (Nat.le_refl _) _).alloc (by simp) _
  have hsz0 : W0.heap.size = w.heap.size + 2 := by rw [← hW0]; simp
  have q0 : W0.cell? ⟨w.heap.size, 0, none⟩ = some (.slice (some ⟨b, off, none⟩) ws.length c) := by rw [← hW0]; exact alloc_cell (by simp) _
  have q1 : W0.cell? ⟨w.heap.size, 1, none⟩ = some (.int .i64 a) := by rw [← hW0]; exact alloc_cell (by simp) _
  have z0 : W0.cell? ⟨w.heap.size + 1, 0, none⟩ = some (.slice none 0 0) := by rw [← hW0]; simp
  have z1 : W0.cell? ⟨w.heap.size + 1, 1, none⟩ = some (.int .i64 0) := by rw [← hW0]; simp
  have zf0 : W0.frozen? ⟨w.heap.size + 1, 0, none⟩ = false := by rw [← hW0]; simp
  have zf1 : W0.frozen? ⟨w.heap.size + 1, 1, none⟩ = false := by rw [← hW0]; simp
  have Z := Lib.hid (And.intro (And.intro z0 z1) (And.intro zf0 zf1))
  clear hW0 z0 z1 zf0 zf1
  refine (copy13_any _ ws a _ (HR.out.keep hA0)).mono ?_
  rintro e w1 ⟨v', rfl, hown, hb1⟩
  obtain ⟨g, cap, rfl, hg, hcap, hrow⟩ := row_own hown (by omega)
  have hx1 : w1.cell? ⟨w.heap.size, 1, none⟩ = some (.int .i64 a) := below_cell hb1 q1
  have hE1 := Lib.hid (hb1.block (w.heap.size + 1) (by omega))
  clear q0 q1
  have hs1 : w.heap.size + 1 < w1.heap.size := by have := hb1.size; omega
  have hB1 : Below w.heap.size w w1 := hA0.trans (hb1.mono hA0.size)
  have hg2 : w.heap.size + 2 ≤ g := by omega
  have HG := Lib.hid hg2
  have HB := Lib.hid hB1
  have HROW := Lib.hid hrow
  have HCAP := Lib.hid hcap
  clear hown hb1 hA0 hg hg2 hB1 hrow hcap d1 d2 d2' d3 d4 d5 d6 d7 d8 d9 d10
  have S1 := Lib.hid s1
  have S2 := Lib.hid s2
  have X1 := Lib.hid hx1
  clear s1 s2 hx1
  go_upto_region 7 with (fail)
  generalize hw2 : World.alloc w1 _ = w2
  have hxa1 : w2.cell? ⟨w.heap.size, 1, none⟩ = some (.int .i64 a) := by rw [← hw2]; exact alloc_cell X1.out _
  have hm : MA w2 w1.heap.size g ws.length cap a (fun i => ws.getD i 0) := by
    rw [← hw2]
    exact ⟨by simp, by simp, by simp, HROW.out.block (Below.heap_alloc _ _ _ HROW.out.lt), HCAP.out, hc, by have := HROW.out.lt; omega⟩
  have HM := Lib.hid hm
  have hB2 : Below w.heap.size w w2 := by rw [← hw2]; exact HB.out.alloc (by omega) _
  have HB2 := Lib.hid hB2
  have HE := Lib.hid (show w2.heap[w.heap.size + 1]? = W0.heap[w.heap.size + 1]? by rw [← hw2]; exact (Below.heap_alloc _ _ _ hs1).trans hE1.out)
  have hlt2 : w.heap.size + 1 < w2.heap.size := by rw [← hw2]; simp; omega
  have hge : w.heap.size + 1 < w1.heap.size := hs1
  clear hB2 hw2 X1 HB HROW hs1 hE1
  generalize hBB : w1.heap.size = B at *
  clear hBB
  have hb0 := hm.box0
  have hb1 := hm.box1
  have hS0 := Lib.hid (AL.start hm)
  have hr0 := hm.row.cell hm.le (i := a) (by have := S2.out; omega)
  have hf0 := hm.row.frozen a
  have hai : (a : Int) < (ws.length : Int) := by have := S2.out; omega
  clear hm
  generalize ws.getD a 0 = z0 at hr0
  go_upto_region 8 with (fail)
  generalize hwa : World.setCell w2 _ _ = wa
  have HA : Hid (AL w2 B g ws.length cap a (upd (fun i => ws.getD i 0) a (headWord k T R)) wa) := by
    rw [← hwa, show k + 256 * (T : Int) + 4294967296 * ((T : Int) + (R : Int) + 2) = headWord k T R by unfold headWord; omega]
    exact (hS0.out 0).set a _
  clear hwa hr0 hf0 hb0 hb1 hS0 z0
  have hS := HA.out
  have hb0 := hS.box0
  have hb1 := hS.box1
  have hr1 := hS.row.cell hS.le (i := a + 1) (by have := S2.out; omega)
  have hf1 := hS.row.frozen (a + 1)
  have hxa := hS.cellAt hxa1 (by omega) (by omega) (by have := HG.out; omega)
  have ha1 : (a : Int) + 1 < (ws.length : Int) := by have := S2.out; omega
  clear hS
  generalize upd _ _ _ _ = z1 at hr1
  go_upto_region 9 with (fail)
  generalize hwb : World.setCell wa _ _ = wb
  have HA2 : Hid (AL w2 B g ws.length cap a (fillTo (fun i => ws.getD i 0) a (headWord k T R) T 0) wb) := by
    rw [← hwb]
    exact (HA.out.set (a + 1) 0).same (fill_zero _ a _ T)
  have hgw : w.heap.size + 1 < g := by have := HG.out; omega
  have s1 : (a : Int) + ((T : Int) + (R : Int)) + 2 ≤ (ws.length : Int) := by have := S2.out; omega
  clear hwb hr1 hf1 hb0 hb1 hxa ha1 z1 HA
  go_wp2_with fail
  go_loopw [13] (fun s wr => ∃ p : Nat, s = .int .i64 p ∧ p ≤ T ∧ AL w2 B g ws.length cap a (fillTo (fun i => ws.getD i 0) a (headWord k T R) T p) wr) (fun s _ => T - (intOf s).toNat)
  case atStart => exact ⟨0, by go_num, Nat.zero_le _, HA2.out⟩
  case round =>
    obtain ⟨p, rfl, hp, hS⟩ := hrel
    have hb0 := hS.box0
    have hb1 := hS.box1
    have hxa := hS.cellAt hxa1 (by omega) (by omega) (by omega)
    by_cases hlt : p < T
    · have hpi : (p : Int) < (T : Int) := by omega
      have hc1 := hS.row.cell hS.le (i := a + 2 + p) (by omega)
      have hf1 := hS.row.frozen (a + 2 + p)
      have hN := Lib.hid ((hS.set (a + 2 + p) 2).same (fill_step _ a _ T p 2 (by rw [if_pos hlt])))
      generalize fillTo _ _ _ _ _ (a + 2 + p) = x0 at hc1
      go_wp2_with fail
      go_roundw
      case rel => exact ⟨p + 1, by go_num, by omega, hN.out⟩
      case measure => simp [intOf]; omega
    · obtain rfl : p = T := by omega
      go_wp2_with fail
      clear hb0 hb1 hxa hlt hp HA2
      have HS := Lib.hid hS
      clear hS
      go_loopw [14] (fun s wr => ∃ j : Nat, s = .int .i64 j ∧ j ≤ R ∧ AL w2 B g ws.length cap a (fillTo (fun i => ws.getD i 0) a (headWord k p R) p (p + j)) wr) (fun s _ => R - (intOf s).toNat)
      case atStart => exact ⟨0, by go_num, Nat.zero_le _, HS.out⟩
      case round =>
        obtain ⟨j, rfl, hj, hS⟩ := hrel
        have hb0 := hS.box0
        have hb1 := hS.box1
        have hxa := hS.cellAt hxa1 (by omega) (by omega) (by omega)
        by_cases hlt : j < R
        · have hpi : (j : Int) < (R : Int) := by omega
          have hc1 := hS.row.cell hS.le (i := a + 2 + p + j) (by omega)
          have hf1 := hS.row.frozen (a + 2 + p + j)
          have hN := Lib.hid ((hS.set (a + 2 + (p + j)) 0).same (fill_step _ a _ p (p + j) 0 (by rw [if_neg (by omega)])))
          rw [show a + 2 + (p + j) = a + 2 + p + j by omega] at hN
          generalize fillTo _ _ _ _ _ (a + 2 + p + j) = x0 at hc1
          go_wp2_with fail
          go_roundw
          case rel => exact ⟨j + 1, by go_num, by omega, hN.out⟩
          case measure => simp [intOf]; omega
        · obtain rfl : j = R := by omega
          have hfr := hS.fr
          have hF := hS.setTop ((a : Int) + ((p : Int) + (j : Int) + 2))
          have hEE := Lib.hid ((hF.but.block (w.heap.size + 1) (by omega) (by omega) (by omega)).trans HE.out)
          have hFB := Lib.hid (hF.below HB2.out (by omega) (by omega))
          have HF := Lib.hid hF
          clear hF
          go_wp2_with fail
          generalize World.setCell wr _ _ = wf at *
          clear hb0 hb1 hxa hfr hS HS hj hlt
          have c0 := HF.out.box0
          have c1 := HF.out.box1
          have cx := HF.out.cellAt hxa1 (by omega) (by omega) (by omega)
          have y0 := (World.cell?_of_block (a := ⟨w.heap.size + 1, 0, none⟩) hEE.out).trans Z.out.1.1
          have y1 := (World.cell?_of_block (a := ⟨w.heap.size + 1, 1, none⟩) hEE.out).trans Z.out.1.2
          have y2 := (World.frozen?_of_block (a := ⟨w.heap.size + 1, 0, none⟩) hEE.out).trans Z.out.2.1
          have y3 := (World.frozen?_of_block (a := ⟨w.heap.size + 1, 1, none⟩) hEE.out).trans Z.out.2.2
          go_region
          all_goals go_wp2_with fail
          all_goals have z2 := two_set (x0 := .slice (some ⟨g, 0, none⟩) ws.length cap) (x1 := .int .i64 ((a : Int) + ((p : Int) + (j : Int) + 2))) y0 y1
          all_goals refine bodyPost_ret (v := .tuple #[.agg #[.slice (some ⟨g, 0, none⟩) ws.length cap, .int .i64 ((a : Int) + ((p : Int) + (j : Int) + 2))], .int .i64 (a : Int), .int .i64 0]) (by simp [results, Try.results47, go_sem, z2.1, z2.2]) rfl ?_
          all_goals refine ⟨g, cap, rfl, by have := HG.out; omega, HCAP.out, ⟨HF.out.row.block ?_, by have := HG.out; exact hc⟩, ((hFB.out.setCell (by simp) _).setCell (by simp) _).drew⟩
          all_goals exact (Below.heap_setCell _ _ _ _ (by simp; omega)).trans (Below.heap_setCell _ _ _ _ (by simp; omega))
end Go.Proofs.Ytilonacjmihglaa
