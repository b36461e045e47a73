/- Layer 2: whole.Cmp and Sign. -/
import Derived.Test.YtapeomcnjjfihaaDoorWSub
namespace Go.Proofs.YtapeomcnjjfihaaDoor
open Go.ChangeShapes Go.WideShapes Go.ChangeAt Go.RowKit
set_option linter.unusedVariables false
set_option linter.unusedSimpArgs false
structure Bx2c (w : World) (B : Nat) (n1 : Bool) (u1 : Value) (n2 : Bool) (u2 : Value) : Prop where
  x0 : w.cell? ⟨B, 0, none⟩ = some (.bool n1)
  x1 : w.cell? ⟨B, 1, none⟩ = some u1
  y0 : w.cell? ⟨B + 1, 0, none⟩ = some (.bool n2)
  y1 : w.cell? ⟨B + 1, 1, none⟩ = some u2
theorem Bx2c.keep {w w' : World} {B : Nat} {n1 n2 : Bool} {u1 u2 : Value} (h : Bx2c w B n1 u1 n2 u2) (hb : Below w.heap.size w w') : Bx2c w' B n1 u1 n2 u2 :=
  ⟨below_cell hb h.x0, below_cell hb h.x1, below_cell hb h.y0, below_cell hb h.y1⟩
theorem cmp_sgn_nn {b : Int} (hb : 0 < b) {xs ys : List Int} {z1 z2 : Int} (h : Sgn b true xs z1) (g : Sgn b true ys z2) : cmpI (val b ys) (val b xs) = cmpI z1 z2 := by
  have e1 := h.eq; have e2 := g.eq; simp [sg] at e1 e2; unfold cmpI; rw [e1, e2]; (repeat' split) <;> omega
theorem cmp_sgn_pp {b : Int} (hb : 0 < b) {xs ys : List Int} {z1 z2 : Int} (h : Sgn b false xs z1) (g : Sgn b false ys z2) : cmpI (val b xs) (val b ys) = cmpI z1 z2 := by
  have e1 := h.eq; have e2 := g.eq; simp [sg] at e1 e2; rw [e1, e2]
theorem cmp_sgn_np {b : Int} (hb : 0 < b) {xs ys : List Int} {z1 z2 : Int} (h : Sgn b true xs z1) (g : Sgn b false ys z2) : -1 = cmpI z1 z2 := by
  have e1 := h.neg_iff hb; have e2 := g.neg_iff hb; simp at e1 e2; rw [cmpI_lt (by omega)]
theorem cmp_sgn_pn {b : Int} (hb : 0 < b) {xs ys : List Int} {z1 z2 : Int} (h : Sgn b false xs z1) (g : Sgn b true ys z2) : 1 = cmpI z1 z2 := by
  have e1 := h.neg_iff hb; have e2 := g.neg_iff hb; simp at e1 e2; rw [cmpI_gt (by omega)]
set_option maxRecDepth 100000 in
set_option maxHeartbeats 800000 in
theorem cmp_tt (u1 : Value) (xs : List Int) (z1 : Int) (u2 : Value) (ys : List Int) (z2 : Int) (w : World) (hr1 : Rd w u1 xs) (hr2 : Rd w u2 ys) (hs1 : Sgn B18 true xs z1) (hs2 : Sgn B18 true ys z2) (hl1 : xs.length ≤ 30) (hl2 : ys.length ≤ 30) :
    Calls Tryd.prog 31 #[.agg #[.bool true, u1], .agg #[.bool true, u2]] w (CmpPost w (cmpI z1 z2)) := by
  have HR1 := Lib.hid hr1
  have HR2 := Lib.hid hr2
  obtain ⟨p1, c1, rfl, _, _, _⟩ := rd_form hr1
  obtain ⟨p2, c2, rfl, _, _, _⟩ := rd_form hr2
  have HS1 := Lib.hid hs1
  have HS2 := Lib.hid hs2
  clear hr1 hr2 hs1 hs2
  go_enter Tryd.func31, Tryd.ntmps31
  go_wp2_with fail
  generalize hw2 : World.alloc (World.alloc w _) _ = w2
  have hbx : Bx2c w2 w.heap.size true (.slice p1 xs.length c1) true (.slice p2 ys.length c2) := by
    rw [← hw2]
    refine ⟨alloc_cell (by simp) _, alloc_cell (by simp) _, ?_, ?_⟩ <;> simp
  have HB2 := Lib.hid (show Below w.heap.size w w2 by rw [← hw2]; exact ((Below.refl _ _).alloc (Nat.le_refl _) _).alloc (by simp) _)
  clear hw2
  have HX2 := Lib.hid hbx
  have q0 := hbx.x0
  have q1 := hbx.x1
  have q2 := hbx.y0
  have q3 := hbx.y1
  refine (good_yes _ _ xs z1 w2 (HR1.out.keep HB2.out) HS1.out hl1).mono ?_
  rintro e w3 ⟨rfl, hb3⟩
  have HX3 := Lib.hid (HX2.out.keep hb3)
  have HB3 := Lib.hid (HB2.out.trans (hb3.mono HB2.out.size))
  have t0 := HX3.out.x0
  have t1 := HX3.out.x1
  have t2 := HX3.out.y0
  have t3 := HX3.out.y1
  clear q0 q1 q2 q3 hb3 hbx HX2 HB2
  go_wp2_with fail
  refine (good_yes _ _ ys z2 w3 (HR2.out.keep HB3.out) HS2.out hl2).mono ?_
  rintro e w4 ⟨rfl, hb4⟩
  have HX4 := Lib.hid (HX3.out.keep hb4)
  have HB4 := Lib.hid (HB3.out.trans (hb4.mono HB3.out.size))
  have s0 := HX4.out.x0
  have s1 := HX4.out.x1
  have s2 := HX4.out.y0
  have s3 := HX4.out.y1
  clear t0 t1 t2 t3 hb4 HX3 HB3
  go_wp2_with fail
  refine (cmpSizes_any _ _ ys xs w4 (HR2.out.keep HB4.out) (HR1.out.keep HB4.out) HS2.out.canon HS1.out.canon).mono ?_
  rintro e w5 ⟨rfl, hb5⟩
  have HB5 := Lib.hid (HB4.out.trans (hb5.mono HB4.out.size))
  clear hb5
  rw [cmp_sgn_nn (by decide) HS1.out HS2.out]
  go_wp2_with fail
  go_ret
  exact CmpPost.mk rfl HB5.out
set_option maxRecDepth 100000 in
set_option maxHeartbeats 800000 in
theorem cmp_tf (u1 : Value) (xs : List Int) (z1 : Int) (u2 : Value) (ys : List Int) (z2 : Int) (w : World) (hr1 : Rd w u1 xs) (hr2 : Rd w u2 ys) (hs1 : Sgn B18 true xs z1) (hs2 : Sgn B18 false ys z2) (hl1 : xs.length ≤ 30) (hl2 : ys.length ≤ 30) :
    Calls Tryd.prog 31 #[.agg #[.bool true, u1], .agg #[.bool false, u2]] w (CmpPost w (cmpI z1 z2)) := by
  have HR1 := Lib.hid hr1
  have HR2 := Lib.hid hr2
  obtain ⟨p1, c1, rfl, _, _, _⟩ := rd_form hr1
  obtain ⟨p2, c2, rfl, _, _, _⟩ := rd_form hr2
  have HS1 := Lib.hid hs1
  have HS2 := Lib.hid hs2
  clear hr1 hr2 hs1 hs2
  go_enter Tryd.func31, Tryd.ntmps31
  go_wp2_with fail
  generalize hw2 : World.alloc (World.alloc w _) _ = w2
  have hbx : Bx2c w2 w.heap.size true (.slice p1 xs.length c1) false (.slice p2 ys.length c2) := by
    rw [← hw2]
    refine ⟨alloc_cell (by simp) _, alloc_cell (by simp) _, ?_, ?_⟩ <;> simp
  have HB2 := Lib.hid (show Below w.heap.size w w2 by rw [← hw2]; exact ((Below.refl _ _).alloc (Nat.le_refl _) _).alloc (by simp) _)
  clear hw2
  have HX2 := Lib.hid hbx
  have q0 := hbx.x0
  have q1 := hbx.x1
  have q2 := hbx.y0
  have q3 := hbx.y1
  refine (good_yes _ _ xs z1 w2 (HR1.out.keep HB2.out) HS1.out hl1).mono ?_
  rintro e w3 ⟨rfl, hb3⟩
  have HX3 := Lib.hid (HX2.out.keep hb3)
  have HB3 := Lib.hid (HB2.out.trans (hb3.mono HB2.out.size))
  have t0 := HX3.out.x0
  have t1 := HX3.out.x1
  have t2 := HX3.out.y0
  have t3 := HX3.out.y1
  clear q0 q1 q2 q3 hb3 hbx HX2 HB2
  go_wp2_with fail
  refine (good_yes _ _ ys z2 w3 (HR2.out.keep HB3.out) HS2.out hl2).mono ?_
  rintro e w4 ⟨rfl, hb4⟩
  have HX4 := Lib.hid (HX3.out.keep hb4)
  have HB4 := Lib.hid (HB3.out.trans (hb4.mono HB3.out.size))
  have s0 := HX4.out.x0
  have s1 := HX4.out.x1
  have s2 := HX4.out.y0
  have s3 := HX4.out.y1
  clear t0 t1 t2 t3 hb4 HX3 HB3
  go_wp2_with fail
  go_ret
  exact CmpPost.mk (cmp_sgn_np (by decide) HS1.out HS2.out) HB4.out
set_option maxRecDepth 100000 in
set_option maxHeartbeats 800000 in
theorem cmp_ft (u1 : Value) (xs : List Int) (z1 : Int) (u2 : Value) (ys : List Int) (z2 : Int) (w : World) (hr1 : Rd w u1 xs) (hr2 : Rd w u2 ys) (hs1 : Sgn B18 false xs z1) (hs2 : Sgn B18 true ys z2) (hl1 : xs.length ≤ 30) (hl2 : ys.length ≤ 30) :
    Calls Tryd.prog 31 #[.agg #[.bool false, u1], .agg #[.bool true, u2]] w (CmpPost w (cmpI z1 z2)) := by
  have HR1 := Lib.hid hr1
  have HR2 := Lib.hid hr2
  obtain ⟨p1, c1, rfl, _, _, _⟩ := rd_form hr1
  obtain ⟨p2, c2, rfl, _, _, _⟩ := rd_form hr2
  have HS1 := Lib.hid hs1
  have HS2 := Lib.hid hs2
  clear hr1 hr2 hs1 hs2
  go_enter Tryd.func31, Tryd.ntmps31
  go_wp2_with fail
  generalize hw2 : World.alloc (World.alloc w _) _ = w2
  have hbx : Bx2c w2 w.heap.size false (.slice p1 xs.length c1) true (.slice p2 ys.length c2) := by
    rw [← hw2]
    refine ⟨alloc_cell (by simp) _, alloc_cell (by simp) _, ?_, ?_⟩ <;> simp
  have HB2 := Lib.hid (show Below w.heap.size w w2 by rw [← hw2]; exact ((Below.refl _ _).alloc (Nat.le_refl _) _).alloc (by simp) _)
  clear hw2
  have HX2 := Lib.hid hbx
  have q0 := hbx.x0
  have q1 := hbx.x1
  have q2 := hbx.y0
  have q3 := hbx.y1
  refine (good_yes _ _ xs z1 w2 (HR1.out.keep HB2.out) HS1.out hl1).mono ?_
  rintro e w3 ⟨rfl, hb3⟩
  have HX3 := Lib.hid (HX2.out.keep hb3)
  have HB3 := Lib.hid (HB2.out.trans (hb3.mono HB2.out.size))
  have t0 := HX3.out.x0
  have t1 := HX3.out.x1
  have t2 := HX3.out.y0
  have t3 := HX3.out.y1
  clear q0 q1 q2 q3 hb3 hbx HX2 HB2
  go_wp2_with fail
  refine (good_yes _ _ ys z2 w3 (HR2.out.keep HB3.out) HS2.out hl2).mono ?_
  rintro e w4 ⟨rfl, hb4⟩
  have HX4 := Lib.hid (HX3.out.keep hb4)
  have HB4 := Lib.hid (HB3.out.trans (hb4.mono HB3.out.size))
  have s0 := HX4.out.x0
  have s1 := HX4.out.x1
  have s2 := HX4.out.y0
  have s3 := HX4.out.y1
  clear t0 t1 t2 t3 hb4 HX3 HB3
  go_wp2_with fail
  go_ret
  exact CmpPost.mk (cmp_sgn_pn (by decide) HS1.out HS2.out) HB4.out
set_option maxRecDepth 100000 in
set_option maxHeartbeats 800000 in
theorem cmp_ff (u1 : Value) (xs : List Int) (z1 : Int) (u2 : Value) (ys : List Int) (z2 : Int) (w : World) (hr1 : Rd w u1 xs) (hr2 : Rd w u2 ys) (hs1 : Sgn B18 false xs z1) (hs2 : Sgn B18 false ys z2) (hl1 : xs.length ≤ 30) (hl2 : ys.length ≤ 30) :
    Calls Tryd.prog 31 #[.agg #[.bool false, u1], .agg #[.bool false, u2]] w (CmpPost w (cmpI z1 z2)) := by
  have HR1 := Lib.hid hr1
  have HR2 := Lib.hid hr2
  obtain ⟨p1, c1, rfl, _, _, _⟩ := rd_form hr1
  obtain ⟨p2, c2, rfl, _, _, _⟩ := rd_form hr2
  have HS1 := Lib.hid hs1
  have HS2 := Lib.hid hs2
  clear hr1 hr2 hs1 hs2
  go_enter Tryd.func31, Tryd.ntmps31
  go_wp2_with fail
  generalize hw2 : World.alloc (World.alloc w _) _ = w2
  have hbx : Bx2c w2 w.heap.size false (.slice p1 xs.length c1) false (.slice p2 ys.length c2) := by
    rw [← hw2]
    refine ⟨alloc_cell (by simp) _, alloc_cell (by simp) _, ?_, ?_⟩ <;> simp
  have HB2 := Lib.hid (show Below w.heap.size w w2 by rw [← hw2]; exact ((Below.refl _ _).alloc (Nat.le_refl _) _).alloc (by simp) _)
  clear hw2
  have HX2 := Lib.hid hbx
  have q0 := hbx.x0
  have q1 := hbx.x1
  have q2 := hbx.y0
  have q3 := hbx.y1
  refine (good_yes _ _ xs z1 w2 (HR1.out.keep HB2.out) HS1.out hl1).mono ?_
  rintro e w3 ⟨rfl, hb3⟩
  have HX3 := Lib.hid (HX2.out.keep hb3)
  have HB3 := Lib.hid (HB2.out.trans (hb3.mono HB2.out.size))
  have t0 := HX3.out.x0
  have t1 := HX3.out.x1
  have t2 := HX3.out.y0
  have t3 := HX3.out.y1
  clear q0 q1 q2 q3 hb3 hbx HX2 HB2
  go_wp2_with fail
  refine (good_yes _ _ ys z2 w3 (HR2.out.keep HB3.out) HS2.out hl2).mono ?_
  rintro e w4 ⟨rfl, hb4⟩
  have HX4 := Lib.hid (HX3.out.keep hb4)
  have HB4 := Lib.hid (HB3.out.trans (hb4.mono HB3.out.size))
  have s0 := HX4.out.x0
  have s1 := HX4.out.x1
  have s2 := HX4.out.y0
  have s3 := HX4.out.y1
  clear t0 t1 t2 t3 hb4 HX3 HB3
  go_wp2_with fail
  refine (cmpSizes_any _ _ xs ys w4 (HR1.out.keep HB4.out) (HR2.out.keep HB4.out) HS1.out.canon HS2.out.canon).mono ?_
  rintro e w5 ⟨rfl, hb5⟩
  have HB5 := Lib.hid (HB4.out.trans (hb5.mono HB4.out.size))
  clear hb5
  rw [cmp_sgn_pp (by decide) HS1.out HS2.out]
  go_wp2_with fail
  go_ret
  exact CmpPost.mk rfl HB5.out
theorem cmp_good (n1 : Bool) (u1 : Value) (xs : List Int) (z1 : Int) (n2 : Bool) (u2 : Value) (ys : List Int) (z2 : Int) (w : World) (hr1 : Rd w u1 xs) (hr2 : Rd w u2 ys) (hs1 : Sgn B18 n1 xs z1) (hs2 : Sgn B18 n2 ys z2) (hl1 : xs.length ≤ 30) (hl2 : ys.length ≤ 30) :
    Calls Tryd.prog 31 #[.agg #[.bool n1, u1], .agg #[.bool n2, u2]] w (CmpPost w (cmpI z1 z2)) := by
  cases n1 <;> cases n2
  · exact cmp_ff u1 xs z1 u2 ys z2 w hr1 hr2 hs1 hs2 hl1 hl2
  · exact cmp_ft u1 xs z1 u2 ys z2 w hr1 hr2 hs1 hs2 hl1 hl2
  · exact cmp_tf u1 xs z1 u2 ys z2 w hr1 hr2 hs1 hs2 hl1 hl2
  · exact cmp_tt u1 xs z1 u2 ys z2 w hr1 hr2 hs1 hs2 hl1 hl2
set_option maxRecDepth 100000 in
set_option maxHeartbeats 800000 in
theorem cmp_bad1 (n1 : Bool) (u1 : Value) (xs : List Int) (n2 : Bool) (u2 : Value) (ys : List Int) (w : World) (hr1 : Rd w u1 xs) (hr2 : Rd w u2 ys) (hf1 : Fit xs) (hg : goodB n1 xs = false) :
    Calls Tryd.prog 31 #[.agg #[.bool n1, u1], .agg #[.bool n2, u2]] w (CmpPost w 0) := by
  have HR1 := Lib.hid hr1
  have HR2 := Lib.hid hr2
  obtain ⟨p1, c1, rfl, _, _, _⟩ := rd_form hr1
  obtain ⟨p2, c2, rfl, _, _, _⟩ := rd_form hr2
  have HG := Lib.hid hg
  clear hr1 hr2 hg
  go_enter Tryd.func31, Tryd.ntmps31
  go_wp2_with fail
  generalize hw2 : World.alloc (World.alloc w _) _ = w2
  have hbx : Bx2c w2 w.heap.size n1 (.slice p1 xs.length c1) n2 (.slice p2 ys.length c2) := by
    rw [← hw2]
    refine ⟨alloc_cell (by simp) _, alloc_cell (by simp) _, ?_, ?_⟩ <;> simp
  have HB2 := Lib.hid (show Below w.heap.size w w2 by rw [← hw2]; exact ((Below.refl _ _).alloc (Nat.le_refl _) _).alloc (by simp) _)
  clear hw2
  have HX2 := Lib.hid hbx
  have q0 := hbx.x0
  have q1 := hbx.x1
  have q2 := hbx.y0
  have q3 := hbx.y1
  refine (good_no _ _ xs w2 (HR1.out.keep HB2.out) hf1 HG.out).mono ?_
  rintro e w3 ⟨rfl, hb3⟩
  have HB := Lib.hid (HB2.out.trans (hb3.mono HB2.out.size))
  clear q0 q1 q2 q3 hb3 hbx HX2 HB2
  go_wp2_with fail
  go_ret
  exact CmpPost.mk rfl HB.out
set_option maxRecDepth 100000 in
set_option maxHeartbeats 800000 in
theorem cmp_bad2 (n1 : Bool) (u1 : Value) (xs : List Int) (n2 : Bool) (u2 : Value) (ys : List Int) (w : World) (hr1 : Rd w u1 xs) (hr2 : Rd w u2 ys) (hf1 : Fit xs) (hf2 : Fit ys) (hg1 : goodB n1 xs = true) (hg : goodB n2 ys = false) :
    Calls Tryd.prog 31 #[.agg #[.bool n1, u1], .agg #[.bool n2, u2]] w (CmpPost w 0) := by
  have HR1 := Lib.hid hr1
  have HR2 := Lib.hid hr2
  obtain ⟨p1, c1, rfl, _, _, _⟩ := rd_form hr1
  obtain ⟨p2, c2, rfl, _, _, _⟩ := rd_form hr2
  have HG := Lib.hid hg
  clear hr1 hr2 hg
  have HG1 := Lib.hid (goodB_sgn hg1 hf1)
  clear hg1
  go_enter Tryd.func31, Tryd.ntmps31
  go_wp2_with fail
  generalize hw2 : World.alloc (World.alloc w _) _ = w2
  have hbx : Bx2c w2 w.heap.size n1 (.slice p1 xs.length c1) n2 (.slice p2 ys.length c2) := by
    rw [← hw2]
    refine ⟨alloc_cell (by simp) _, alloc_cell (by simp) _, ?_, ?_⟩ <;> simp
  have HB2 := Lib.hid (show Below w.heap.size w w2 by rw [← hw2]; exact ((Below.refl _ _).alloc (Nat.le_refl _) _).alloc (by simp) _)
  clear hw2
  have HX2 := Lib.hid hbx
  have q0 := hbx.x0
  have q1 := hbx.x1
  have q2 := hbx.y0
  have q3 := hbx.y1
  refine (good_yes _ _ xs _ w2 (HR1.out.keep HB2.out) HG1.out.1 HG1.out.2).mono ?_
  rintro e w3 ⟨rfl, hb3⟩
  have HX3 := Lib.hid (HX2.out.keep hb3)
  have HB3 := Lib.hid (HB2.out.trans (hb3.mono HB2.out.size))
  have t0 := HX3.out.x0
  have t1 := HX3.out.x1
  have t2 := HX3.out.y0
  have t3 := HX3.out.y1
  clear q0 q1 q2 q3 hb3 hbx HX2 HB2
  go_wp2_with fail
  refine (good_no _ _ ys w3 (HR2.out.keep HB3.out) hf2 HG.out).mono ?_
  rintro e w4 ⟨rfl, hb4⟩
  have HB := Lib.hid (HB3.out.trans (hb4.mono HB3.out.size))
  clear t0 t1 t2 t3 hb4 HX3 HB3
  go_wp2_with fail
  go_ret
  exact CmpPost.mk rfl HB.out
set_option maxRecDepth 100000 in
set_option maxHeartbeats 800000 in
theorem sign_good (n1 : Bool) (u1 : Value) (xs : List Int) (z1 : Int) (w : World) (hr1 : Rd w u1 xs) (hs1 : Sgn B18 n1 xs z1) (hl1 : xs.length ≤ 30) :
    Calls Tryd.prog 32 #[.agg #[.bool n1, u1]] w (CmpPost w (cmpI z1 0)) := by
  have HR1 := Lib.hid hr1
  obtain ⟨p1, c1, rfl, _, _, _⟩ := rd_form hr1
  have HS1 := Lib.hid hs1
  have HE := Lib.hid (hs1.empty (by decide))
  have HN := Lib.hid (hs1.neg_iff (by decide))
  clear hr1 hs1
  go_enter Tryd.func32, Tryd.ntmps32
  go_wp2_with fail
  generalize hw2 : World.alloc w _ = w2
  have q0 : w2.cell? ⟨w.heap.size, 0, none⟩ = some (.bool n1) := by rw [← hw2]; simp
  have q1 : w2.cell? ⟨w.heap.size, 1, none⟩ = some (.slice p1 xs.length c1) := by rw [← hw2]; simp
  have HB2 := Lib.hid (show Below w.heap.size w w2 by rw [← hw2]; exact (Below.refl _ _).alloc (Nat.le_refl _) _)
  clear hw2
  refine (good_yes _ _ xs z1 w2 (HR1.out.keep HB2.out) HS1.out hl1).mono ?_
  rintro e w3 ⟨rfl, hb3⟩
  have t0 := below_cell hb3 q0
  have t1 := below_cell hb3 q1
  have HB3 := Lib.hid (HB2.out.trans (hb3.mono HB2.out.size))
  clear q0 q1 hb3 HB2
  by_cases h0 : xs.length = 0
  · have HZ := Lib.hid (HE.out.1 h0)
    have h0z : ((xs.length : Int) == 0) = true := by simp [h0]
    clear h0
    go_wp2_with fail
    go_ret
    exact CmpPost.mk (by rw [HZ.out, cmpI_eq rfl]) HB3.out
  · have HZ := Lib.hid (fun h => h0 (HE.out.2 h))
    have h0z : ((xs.length : Int) == 0) = false := by simp; intro e; exact h0 (by rw [e]; rfl)
    clear h0
    cases n1 with
    | true =>
      go_wp2_with fail
      go_ret
      exact CmpPost.mk (by have := HN.out; simp at this; rw [cmpI_lt this]) HB3.out
    | false =>
      go_wp2_with fail
      go_ret
      exact CmpPost.mk (by have := HN.out; have h : z1 ≠ 0 := HZ.out; simp at this; rw [cmpI_gt (by omega)]) HB3.out
set_option maxRecDepth 100000 in
set_option maxHeartbeats 800000 in
theorem sign_bad (n1 : Bool) (u1 : Value) (xs : List Int) (w : World) (hr1 : Rd w u1 xs) (hf1 : Fit xs) (hg : goodB n1 xs = false) :
    Calls Tryd.prog 32 #[.agg #[.bool n1, u1]] w (CmpPost w 0) := by
  have HR1 := Lib.hid hr1
  obtain ⟨p1, c1, rfl, _, _, _⟩ := rd_form hr1
  have HG := Lib.hid hg
  clear hr1 hg
  go_enter Tryd.func32, Tryd.ntmps32
  go_wp2_with fail
  generalize hw2 : World.alloc w _ = w2
  have q0 : w2.cell? ⟨w.heap.size, 0, none⟩ = some (.bool n1) := by rw [← hw2]; simp
  have q1 : w2.cell? ⟨w.heap.size, 1, none⟩ = some (.slice p1 xs.length c1) := by rw [← hw2]; simp
  have HB2 := Lib.hid (show Below w.heap.size w w2 by rw [← hw2]; exact (Below.refl _ _).alloc (Nat.le_refl _) _)
  clear hw2
  refine (good_no _ _ xs w2 (HR1.out.keep HB2.out) hf1 HG.out).mono ?_
  rintro e w3 ⟨rfl, hb3⟩
  have HB3 := Lib.hid (HB2.out.trans (hb3.mono HB2.out.size))
  clear q0 q1 hb3 HB2
  go_wp2_with fail
  go_ret
  exact CmpPost.mk rfl HB3.out
end Go.Proofs.YtapeomcnjjfihaaDoor
