/- Layer 2: the law WholeRing where a number is not in form. -/
import Derived.Test.YtapeomcnjjfihaaDoorLawAt
import Derived.Test.YtapeomcnjjfihaaDoorWAddBad
import Derived.Test.YtapeomcnjjfihaaDoorWDivBox
import Derived.Deep.RegionWith
namespace Go.Proofs.YtapeomcnjjfihaaDoor
open Go.ChangeShapes Go.WideShapes Go.ChangeAt Go.RowKit
set_option linter.unusedVariables false
set_option linter.unusedSimpArgs false
set_option maxRecDepth 100000 in
set_option maxHeartbeats 16000000 in
theorem ring_bad1 (n1 : Bool) (u1 : Value) (xs : List Int) (n2 : Bool) (u2 : Value) (ys : List Int) (n3 : Bool) (u3 : Value) (zs : List Int)  (w : World) (hr1 : Rd w u1 xs) (hf1 : Fit xs) (hr2 : Rd w u2 ys) (hf2 : Fit ys) (hr3 : Rd w u3 zs) (hf3 : Fit zs) (hg1 : goodB n1 xs = false) :
    Calls Tryd.prog 9 #[.agg #[.bool n1, u1], .agg #[.bool n2, u2], .agg #[.bool n3, u3]] w (BoolPost w true) := by
  have HR1 := Lib.hid hr1
  have HF1 := Lib.hid hf1
  have HR2 := Lib.hid hr2
  have HF2 := Lib.hid hf2
  have HR3 := Lib.hid hr3
  have HF3 := Lib.hid hf3
  have HG1 := Lib.hid hg1
  clear hg1
  clear hr1 hf1 hr2 hf2 hr3 hf3
  go_enter Tryd.func9, Tryd.ntmps9
  go_wp2_with fail
  generalize hw1 : World.alloc (World.alloc (World.alloc w _) _) _ = w1
  have HB1 := Lib.hid (show Below w.heap.size w w1 by rw [← hw1]; exact ((((Below.refl _ _).alloc (by first | exact Nat.le_refl _ | (simp; done) | (simp; omega)) _).alloc (by first | exact Nat.le_refl _ | (simp; done) | (simp; omega)) _).alloc (by first | exact Nat.le_refl _ | (simp; done) | (simp; omega)) _))
  have HX1 := Lib.hid (show Box2 w1 (w.heap.size) (.bool n1) u1 by rw [← hw1]; exact ((Box2.new _ _ _ _ rfl).alloc _).alloc _)
  have HY1 := Lib.hid (show Box2 w1 (w.heap.size + 1) (.bool n2) u2 by rw [← hw1]; exact (Box2.new _ _ _ _ (by simp)).alloc _)
  have HZ1 := Lib.hid (show Box2 w1 (w.heap.size + 1 + 1) (.bool n3) u3 by rw [← hw1]; exact (Box2.new _ _ _ _ (by simp)))
  clear hw1
  have cX1a := HX1.out.c0
  have cX1b := HX1.out.c1
  have cX1l := HX1.out.lt
  have cY1a := HY1.out.c0
  have cY1b := HY1.out.c1
  have cY1l := HY1.out.lt
  have cZ1a := HZ1.out.c0
  have cZ1b := HZ1.out.c1
  have cZ1l := HZ1.out.lt
  refine (known_true w1).mono ?_
  rintro e w2 ⟨rfl, hb2⟩
  have HB2 := Lib.hid (HB1.out.trans (hb2.mono HB1.out.size))
  have HX2 := Lib.hid (HX1.out.keep hb2)
  have HY2 := Lib.hid (HY1.out.keep hb2)
  have HZ2 := Lib.hid (HZ1.out.keep hb2)
  clear cX1a  cX1b  cX1l  cY1a  cY1b  cY1l  cZ1a  cZ1b  cZ1l  HX1 HY1 HZ1 HB1 hb2 
  have cX2a := HX2.out.c0
  have cX2b := HX2.out.c1
  have cX2l := HX2.out.lt
  have cY2a := HY2.out.c0
  have cY2b := HY2.out.c1
  have cY2l := HY2.out.lt
  have cZ2a := HZ2.out.c0
  have cZ2b := HZ2.out.c1
  have cZ2l := HZ2.out.lt
  go_wp2_with fail
  refine (show Calls _ _ _ _ (BoolPost w2 false) by have h := good_any n1 u1 xs w2 (HR1.out.keep HB2.out) HF1.out; rwa [HG1.out] at h).mono ?_
  rintro e w3 ⟨rfl, hb3⟩
  have HB3 := Lib.hid (HB2.out.trans (hb3.mono HB2.out.size))
  have HX3 := Lib.hid (HX2.out.keep hb3)
  have HY3 := Lib.hid (HY2.out.keep hb3)
  have HZ3 := Lib.hid (HZ2.out.keep hb3)
  clear cX2a  cX2b  cX2l  cY2a  cY2b  cY2l  cZ2a  cZ2b  cZ2l  HX2 HY2 HZ2 HB2 hb3 
  have cX3a := HX3.out.c0
  have cX3b := HX3.out.c1
  have cX3l := HX3.out.lt
  have cY3a := HY3.out.c0
  have cY3b := HY3.out.c1
  have cY3l := HY3.out.lt
  have cZ3a := HZ3.out.c0
  have cZ3b := HZ3.out.c1
  have cZ3l := HZ3.out.lt
  go_wp2_with fail
  have RX := Lib.hid (HR1.out.keep HB3.out)
  have RY := Lib.hid (HR2.out.keep HB3.out)
  have RZ := Lib.hid (HR3.out.keep HB3.out)
  have CRG := Lib.hid (fun (wx : World) (hx : Below w3.heap.size w3 wx) => show Calls _ _ _ _ (At w3 (.bool false)) from (refgood_at RX.out HF1.out HG1.out hx))
  have CG := Lib.hid (fun (wx : World) (hx : Below w3.heap.size w3 wx) => show Calls _ _ _ _ (At w3 (.bool false)) from (good_at RX.out HF1.out HG1.out hx))
  have CF := Lib.hid (fun (wx : World) (hx : Below w3.heap.size w3 wx) => show Calls _ _ _ _ (At w3 (.int .i64 3)) from form_at1 (n1 := n1) (n2 := n2) RX.out RY.out HF1.out HF2.out HG1.out hx)
  go_region_with (first
     | (go_at_call 15; (with_reducible refine (CRG.out _ (by ((repeat' (first | with_reducible assumption | with_reducible exact Below.refl _ _ | with_reducible refine Below.drew ?_ | with_reducible refine Below.alloc ?_ (by first | omega | (simp; omega) | (simp; done) | fail) _ | with_reducible refine Below.setCell ?_ (by first | omega | (simp; omega) | (simp; done) | fail) _ | fail)); (first | done | fail)))).mono ?_); rintro e v0 ⟨rfl, hv0⟩; have kX0_0 := below_cell hv0 cX3a; have kX1_0 := below_cell hv0 cX3b; have kY0_0 := below_cell hv0 cY3a; have kY1_0 := below_cell hv0 cY3b; have kZ0_0 := below_cell hv0 cZ3a; have kZ1_0 := below_cell hv0 cZ3b)
     | (go_at_call 14; (with_reducible refine (CG.out _ (by ((repeat' (first | with_reducible assumption | with_reducible exact Below.refl _ _ | with_reducible refine Below.drew ?_ | with_reducible refine Below.alloc ?_ (by first | omega | (simp; omega) | (simp; done) | fail) _ | with_reducible refine Below.setCell ?_ (by first | omega | (simp; omega) | (simp; done) | fail) _ | fail)); (first | done | fail)))).mono ?_); rintro e v1 ⟨rfl, hv1⟩; have kX0_1 := below_cell hv1 cX3a; have kX1_1 := below_cell hv1 cX3b; have kY0_1 := below_cell hv1 cY3a; have kY1_1 := below_cell hv1 cY3b; have kZ0_1 := below_cell hv1 cZ3a; have kZ1_1 := below_cell hv1 cZ3b)
     | (go_at_call 28; (with_reducible refine (CF.out _ (by ((repeat' (first | with_reducible assumption | with_reducible exact Below.refl _ _ | with_reducible refine Below.drew ?_ | with_reducible refine Below.alloc ?_ (by first | omega | (simp; omega) | (simp; done) | fail) _ | with_reducible refine Below.setCell ?_ (by first | omega | (simp; omega) | (simp; done) | fail) _ | fail)); (first | done | fail)))).mono ?_); rintro e v2 ⟨rfl, hv2⟩; have kX0_2 := below_cell hv2 cX3a; have kX1_2 := below_cell hv2 cX3b; have kY0_2 := below_cell hv2 cY3a; have kY1_2 := below_cell hv2 cY3b; have kZ0_2 := below_cell hv2 cZ3a; have kZ1_2 := below_cell hv2 cZ3b))
  all_goals (go_wp2_with fail)
  all_goals go_ret
  all_goals exact ⟨rfl, HB3.out.trans ((show Below w3.heap.size w3 _ by assumption).mono HB3.out.size)⟩
set_option maxRecDepth 100000 in
set_option maxHeartbeats 16000000 in
theorem ring_bad2 (n1 : Bool) (u1 : Value) (xs : List Int) (n2 : Bool) (u2 : Value) (ys : List Int) (n3 : Bool) (u3 : Value) (zs : List Int)  (w : World) (hr1 : Rd w u1 xs) (hf1 : Fit xs) (hr2 : Rd w u2 ys) (hf2 : Fit ys) (hr3 : Rd w u3 zs) (hf3 : Fit zs) (hg1 : goodB n1 xs = true) (hg2 : goodB n2 ys = false) :
    Calls Tryd.prog 9 #[.agg #[.bool n1, u1], .agg #[.bool n2, u2], .agg #[.bool n3, u3]] w (BoolPost w true) := by
  have HR1 := Lib.hid hr1
  have HF1 := Lib.hid hf1
  have HR2 := Lib.hid hr2
  have HF2 := Lib.hid hf2
  have HR3 := Lib.hid hr3
  have HF3 := Lib.hid hf3
  have HG1 := Lib.hid hg1
  have HG2 := Lib.hid hg2
  clear hg1 hg2
  clear hr1 hf1 hr2 hf2 hr3 hf3
  go_enter Tryd.func9, Tryd.ntmps9
  go_wp2_with fail
  generalize hw1 : World.alloc (World.alloc (World.alloc w _) _) _ = w1
  have HB1 := Lib.hid (show Below w.heap.size w w1 by rw [← hw1]; exact ((((Below.refl _ _).alloc (by first | exact Nat.le_refl _ | (simp; done) | (simp; omega)) _).alloc (by first | exact Nat.le_refl _ | (simp; done) | (simp; omega)) _).alloc (by first | exact Nat.le_refl _ | (simp; done) | (simp; omega)) _))
  have HX1 := Lib.hid (show Box2 w1 (w.heap.size) (.bool n1) u1 by rw [← hw1]; exact ((Box2.new _ _ _ _ rfl).alloc _).alloc _)
  have HY1 := Lib.hid (show Box2 w1 (w.heap.size + 1) (.bool n2) u2 by rw [← hw1]; exact (Box2.new _ _ _ _ (by simp)).alloc _)
  have HZ1 := Lib.hid (show Box2 w1 (w.heap.size + 1 + 1) (.bool n3) u3 by rw [← hw1]; exact (Box2.new _ _ _ _ (by simp)))
  clear hw1
  have cX1a := HX1.out.c0
  have cX1b := HX1.out.c1
  have cX1l := HX1.out.lt
  have cY1a := HY1.out.c0
  have cY1b := HY1.out.c1
  have cY1l := HY1.out.lt
  have cZ1a := HZ1.out.c0
  have cZ1b := HZ1.out.c1
  have cZ1l := HZ1.out.lt
  refine (known_true w1).mono ?_
  rintro e w2 ⟨rfl, hb2⟩
  have HB2 := Lib.hid (HB1.out.trans (hb2.mono HB1.out.size))
  have HX2 := Lib.hid (HX1.out.keep hb2)
  have HY2 := Lib.hid (HY1.out.keep hb2)
  have HZ2 := Lib.hid (HZ1.out.keep hb2)
  clear cX1a  cX1b  cX1l  cY1a  cY1b  cY1l  cZ1a  cZ1b  cZ1l  HX1 HY1 HZ1 HB1 hb2 
  have cX2a := HX2.out.c0
  have cX2b := HX2.out.c1
  have cX2l := HX2.out.lt
  have cY2a := HY2.out.c0
  have cY2b := HY2.out.c1
  have cY2l := HY2.out.lt
  have cZ2a := HZ2.out.c0
  have cZ2b := HZ2.out.c1
  have cZ2l := HZ2.out.lt
  go_wp2_with fail
  refine (show Calls _ _ _ _ (BoolPost w2 true) by have h := good_any n1 u1 xs w2 (HR1.out.keep HB2.out) HF1.out; rwa [HG1.out] at h).mono ?_
  rintro e w3 ⟨rfl, hb3⟩
  have HB3 := Lib.hid (HB2.out.trans (hb3.mono HB2.out.size))
  have HX3 := Lib.hid (HX2.out.keep hb3)
  have HY3 := Lib.hid (HY2.out.keep hb3)
  have HZ3 := Lib.hid (HZ2.out.keep hb3)
  clear cX2a  cX2b  cX2l  cY2a  cY2b  cY2l  cZ2a  cZ2b  cZ2l  HX2 HY2 HZ2 HB2 hb3 
  have cX3a := HX3.out.c0
  have cX3b := HX3.out.c1
  have cX3l := HX3.out.lt
  have cY3a := HY3.out.c0
  have cY3b := HY3.out.c1
  have cY3l := HY3.out.lt
  have cZ3a := HZ3.out.c0
  have cZ3b := HZ3.out.c1
  have cZ3l := HZ3.out.lt
  go_wp2_with fail
  refine (show Calls _ _ _ _ (BoolPost w3 false) by have h := good_any n2 u2 ys w3 (HR2.out.keep HB3.out) HF2.out; rwa [HG2.out] at h).mono ?_
  rintro e w4 ⟨rfl, hb4⟩
  have HB4 := Lib.hid (HB3.out.trans (hb4.mono HB3.out.size))
  have HX4 := Lib.hid (HX3.out.keep hb4)
  have HY4 := Lib.hid (HY3.out.keep hb4)
  have HZ4 := Lib.hid (HZ3.out.keep hb4)
  clear cX3a  cX3b  cX3l  cY3a  cY3b  cY3l  cZ3a  cZ3b  cZ3l  HX3 HY3 HZ3 HB3 hb4 
  have cX4a := HX4.out.c0
  have cX4b := HX4.out.c1
  have cX4l := HX4.out.lt
  have cY4a := HY4.out.c0
  have cY4b := HY4.out.c1
  have cY4l := HY4.out.lt
  have cZ4a := HZ4.out.c0
  have cZ4b := HZ4.out.c1
  have cZ4l := HZ4.out.lt
  go_wp2_with fail
  have RX := Lib.hid (HR1.out.keep HB4.out)
  have RY := Lib.hid (HR2.out.keep HB4.out)
  have RZ := Lib.hid (HR3.out.keep HB4.out)
  have CRG := Lib.hid (fun (wx : World) (hx : Below w4.heap.size w4 wx) => show Calls _ _ _ _ (At w4 (.bool true)) from (refgood_at RX.out HF1.out HG1.out hx))
  have CG := Lib.hid (fun (wx : World) (hx : Below w4.heap.size w4 wx) => show Calls _ _ _ _ (At w4 (.bool true)) from (good_at RX.out HF1.out HG1.out hx))
  have CF := Lib.hid (fun (wx : World) (hx : Below w4.heap.size w4 wx) => show Calls _ _ _ _ (At w4 (.int .i64 3)) from form_at2 (n1 := n1) (n2 := n2) RX.out RY.out HF1.out HF2.out HG1.out HG2.out hx)
  go_region_with (first
     | (go_at_call 15; (with_reducible refine (CRG.out _ (by ((repeat' (first | with_reducible assumption | with_reducible exact Below.refl _ _ | with_reducible refine Below.drew ?_ | with_reducible refine Below.alloc ?_ (by first | omega | (simp; omega) | (simp; done) | fail) _ | with_reducible refine Below.setCell ?_ (by first | omega | (simp; omega) | (simp; done) | fail) _ | fail)); (first | done | fail)))).mono ?_); rintro e v0 ⟨rfl, hv0⟩; have kX0_0 := below_cell hv0 cX4a; have kX1_0 := below_cell hv0 cX4b; have kY0_0 := below_cell hv0 cY4a; have kY1_0 := below_cell hv0 cY4b; have kZ0_0 := below_cell hv0 cZ4a; have kZ1_0 := below_cell hv0 cZ4b)
     | (go_at_call 14; (with_reducible refine (CG.out _ (by ((repeat' (first | with_reducible assumption | with_reducible exact Below.refl _ _ | with_reducible refine Below.drew ?_ | with_reducible refine Below.alloc ?_ (by first | omega | (simp; omega) | (simp; done) | fail) _ | with_reducible refine Below.setCell ?_ (by first | omega | (simp; omega) | (simp; done) | fail) _ | fail)); (first | done | fail)))).mono ?_); rintro e v1 ⟨rfl, hv1⟩; have kX0_1 := below_cell hv1 cX4a; have kX1_1 := below_cell hv1 cX4b; have kY0_1 := below_cell hv1 cY4a; have kY1_1 := below_cell hv1 cY4b; have kZ0_1 := below_cell hv1 cZ4a; have kZ1_1 := below_cell hv1 cZ4b)
     | (go_at_call 28; (with_reducible refine (CF.out _ (by ((repeat' (first | with_reducible assumption | with_reducible exact Below.refl _ _ | with_reducible refine Below.drew ?_ | with_reducible refine Below.alloc ?_ (by first | omega | (simp; omega) | (simp; done) | fail) _ | with_reducible refine Below.setCell ?_ (by first | omega | (simp; omega) | (simp; done) | fail) _ | fail)); (first | done | fail)))).mono ?_); rintro e v2 ⟨rfl, hv2⟩; have kX0_2 := below_cell hv2 cX4a; have kX1_2 := below_cell hv2 cX4b; have kY0_2 := below_cell hv2 cY4a; have kY1_2 := below_cell hv2 cY4b; have kZ0_2 := below_cell hv2 cZ4a; have kZ1_2 := below_cell hv2 cZ4b))
  all_goals (go_wp2_with fail)
  all_goals go_ret
  all_goals exact ⟨rfl, HB4.out.trans ((show Below w4.heap.size w4 _ by assumption).mono HB4.out.size)⟩
set_option maxRecDepth 100000 in
set_option maxHeartbeats 16000000 in
theorem ring_bad3 (n1 : Bool) (u1 : Value) (xs : List Int) (n2 : Bool) (u2 : Value) (ys : List Int) (n3 : Bool) (u3 : Value) (zs : List Int)  (w : World) (hr1 : Rd w u1 xs) (hf1 : Fit xs) (hr2 : Rd w u2 ys) (hf2 : Fit ys) (hr3 : Rd w u3 zs) (hf3 : Fit zs) (hg1 : goodB n1 xs = true) (hg2 : goodB n2 ys = true) (hg3 : goodB n3 zs = false) :
    Calls Tryd.prog 9 #[.agg #[.bool n1, u1], .agg #[.bool n2, u2], .agg #[.bool n3, u3]] w (BoolPost w true) := by
  have HR1 := Lib.hid hr1
  have HF1 := Lib.hid hf1
  have HR2 := Lib.hid hr2
  have HF2 := Lib.hid hf2
  have HR3 := Lib.hid hr3
  have HF3 := Lib.hid hf3
  have HG1 := Lib.hid hg1
  have HG2 := Lib.hid hg2
  have HG3 := Lib.hid hg3
  clear hg1 hg2 hg3
  clear hr1 hf1 hr2 hf2 hr3 hf3
  go_enter Tryd.func9, Tryd.ntmps9
  go_wp2_with fail
  generalize hw1 : World.alloc (World.alloc (World.alloc w _) _) _ = w1
  have HB1 := Lib.hid (show Below w.heap.size w w1 by rw [← hw1]; exact ((((Below.refl _ _).alloc (by first | exact Nat.le_refl _ | (simp; done) | (simp; omega)) _).alloc (by first | exact Nat.le_refl _ | (simp; done) | (simp; omega)) _).alloc (by first | exact Nat.le_refl _ | (simp; done) | (simp; omega)) _))
  have HX1 := Lib.hid (show Box2 w1 (w.heap.size) (.bool n1) u1 by rw [← hw1]; exact ((Box2.new _ _ _ _ rfl).alloc _).alloc _)
  have HY1 := Lib.hid (show Box2 w1 (w.heap.size + 1) (.bool n2) u2 by rw [← hw1]; exact (Box2.new _ _ _ _ (by simp)).alloc _)
  have HZ1 := Lib.hid (show Box2 w1 (w.heap.size + 1 + 1) (.bool n3) u3 by rw [← hw1]; exact (Box2.new _ _ _ _ (by simp)))
  clear hw1
  have cX1a := HX1.out.c0
  have cX1b := HX1.out.c1
  have cX1l := HX1.out.lt
  have cY1a := HY1.out.c0
  have cY1b := HY1.out.c1
  have cY1l := HY1.out.lt
  have cZ1a := HZ1.out.c0
  have cZ1b := HZ1.out.c1
  have cZ1l := HZ1.out.lt
  refine (known_true w1).mono ?_
  rintro e w2 ⟨rfl, hb2⟩
  have HB2 := Lib.hid (HB1.out.trans (hb2.mono HB1.out.size))
  have HX2 := Lib.hid (HX1.out.keep hb2)
  have HY2 := Lib.hid (HY1.out.keep hb2)
  have HZ2 := Lib.hid (HZ1.out.keep hb2)
  clear cX1a  cX1b  cX1l  cY1a  cY1b  cY1l  cZ1a  cZ1b  cZ1l  HX1 HY1 HZ1 HB1 hb2 
  have cX2a := HX2.out.c0
  have cX2b := HX2.out.c1
  have cX2l := HX2.out.lt
  have cY2a := HY2.out.c0
  have cY2b := HY2.out.c1
  have cY2l := HY2.out.lt
  have cZ2a := HZ2.out.c0
  have cZ2b := HZ2.out.c1
  have cZ2l := HZ2.out.lt
  go_wp2_with fail
  refine (show Calls _ _ _ _ (BoolPost w2 true) by have h := good_any n1 u1 xs w2 (HR1.out.keep HB2.out) HF1.out; rwa [HG1.out] at h).mono ?_
  rintro e w3 ⟨rfl, hb3⟩
  have HB3 := Lib.hid (HB2.out.trans (hb3.mono HB2.out.size))
  have HX3 := Lib.hid (HX2.out.keep hb3)
  have HY3 := Lib.hid (HY2.out.keep hb3)
  have HZ3 := Lib.hid (HZ2.out.keep hb3)
  clear cX2a  cX2b  cX2l  cY2a  cY2b  cY2l  cZ2a  cZ2b  cZ2l  HX2 HY2 HZ2 HB2 hb3 
  have cX3a := HX3.out.c0
  have cX3b := HX3.out.c1
  have cX3l := HX3.out.lt
  have cY3a := HY3.out.c0
  have cY3b := HY3.out.c1
  have cY3l := HY3.out.lt
  have cZ3a := HZ3.out.c0
  have cZ3b := HZ3.out.c1
  have cZ3l := HZ3.out.lt
  go_wp2_with fail
  refine (show Calls _ _ _ _ (BoolPost w3 true) by have h := good_any n2 u2 ys w3 (HR2.out.keep HB3.out) HF2.out; rwa [HG2.out] at h).mono ?_
  rintro e w4 ⟨rfl, hb4⟩
  have HB4 := Lib.hid (HB3.out.trans (hb4.mono HB3.out.size))
  have HX4 := Lib.hid (HX3.out.keep hb4)
  have HY4 := Lib.hid (HY3.out.keep hb4)
  have HZ4 := Lib.hid (HZ3.out.keep hb4)
  clear cX3a  cX3b  cX3l  cY3a  cY3b  cY3l  cZ3a  cZ3b  cZ3l  HX3 HY3 HZ3 HB3 hb4 
  have cX4a := HX4.out.c0
  have cX4b := HX4.out.c1
  have cX4l := HX4.out.lt
  have cY4a := HY4.out.c0
  have cY4b := HY4.out.c1
  have cY4l := HY4.out.lt
  have cZ4a := HZ4.out.c0
  have cZ4b := HZ4.out.c1
  have cZ4l := HZ4.out.lt
  go_wp2_with fail
  refine (show Calls _ _ _ _ (BoolPost w4 false) by have h := good_any n3 u3 zs w4 (HR3.out.keep HB4.out) HF3.out; rwa [HG3.out] at h).mono ?_
  rintro e w5 ⟨rfl, hb5⟩
  have HB5 := Lib.hid (HB4.out.trans (hb5.mono HB4.out.size))
  have HX5 := Lib.hid (HX4.out.keep hb5)
  have HY5 := Lib.hid (HY4.out.keep hb5)
  have HZ5 := Lib.hid (HZ4.out.keep hb5)
  clear cX4a  cX4b  cX4l  cY4a  cY4b  cY4l  cZ4a  cZ4b  cZ4l  HX4 HY4 HZ4 HB4 hb5 
  have cX5a := HX5.out.c0
  have cX5b := HX5.out.c1
  have cX5l := HX5.out.lt
  have cY5a := HY5.out.c0
  have cY5b := HY5.out.c1
  have cY5l := HY5.out.lt
  have cZ5a := HZ5.out.c0
  have cZ5b := HZ5.out.c1
  have cZ5l := HZ5.out.lt
  go_wp2_with fail
  have RX := Lib.hid (HR1.out.keep HB5.out)
  have RY := Lib.hid (HR2.out.keep HB5.out)
  have RZ := Lib.hid (HR3.out.keep HB5.out)
  have CRG := Lib.hid (fun (wx : World) (hx : Below w5.heap.size w5 wx) => show Calls _ _ _ _ (At w5 (.bool true)) from (refgood_at RX.out HF1.out HG1.out hx))
  have CG := Lib.hid (fun (wx : World) (hx : Below w5.heap.size w5 wx) => show Calls _ _ _ _ (At w5 (.bool true)) from (good_at RX.out HF1.out HG1.out hx))
  have CF := Lib.hid (fun (wx : World) (hx : Below w5.heap.size w5 wx) => show Calls _ _ _ _ (At w5 (.int .i64 0)) from form_at (n1 := n1) (n2 := n2) RX.out RY.out HF1.out HF2.out HG1.out HG2.out hx)
  have CF2 := Lib.hid (fun (wx : World) (hx : Below w5.heap.size w5 wx) => show Calls _ _ _ _ (At w5 (.int .i64 3)) from form_at1 (n1 := n3) (n2 := n3) RZ.out RZ.out HF3.out HF3.out HG3.out hx)
  go_region_with (first
     | (go_at_call 15; (with_reducible refine (CRG.out _ (by ((repeat' (first | with_reducible assumption | with_reducible exact Below.refl _ _ | with_reducible refine Below.drew ?_ | with_reducible refine Below.alloc ?_ (by first | omega | (simp; omega) | (simp; done) | fail) _ | with_reducible refine Below.setCell ?_ (by first | omega | (simp; omega) | (simp; done) | fail) _ | fail)); (first | done | fail)))).mono ?_); rintro e v0 ⟨rfl, hv0⟩; have kX0_0 := below_cell hv0 cX5a; have kX1_0 := below_cell hv0 cX5b; have kY0_0 := below_cell hv0 cY5a; have kY1_0 := below_cell hv0 cY5b; have kZ0_0 := below_cell hv0 cZ5a; have kZ1_0 := below_cell hv0 cZ5b)
     | (go_at_call 14; (with_reducible refine (CG.out _ (by ((repeat' (first | with_reducible assumption | with_reducible exact Below.refl _ _ | with_reducible refine Below.drew ?_ | with_reducible refine Below.alloc ?_ (by first | omega | (simp; omega) | (simp; done) | fail) _ | with_reducible refine Below.setCell ?_ (by first | omega | (simp; omega) | (simp; done) | fail) _ | fail)); (first | done | fail)))).mono ?_); rintro e v1 ⟨rfl, hv1⟩; have kX0_1 := below_cell hv1 cX5a; have kX1_1 := below_cell hv1 cX5b; have kY0_1 := below_cell hv1 cY5a; have kY1_1 := below_cell hv1 cY5b; have kZ0_1 := below_cell hv1 cZ5a; have kZ1_1 := below_cell hv1 cZ5b)
     | (go_at_call 28; (with_reducible refine (CF.out _ (by ((repeat' (first | with_reducible assumption | with_reducible exact Below.refl _ _ | with_reducible refine Below.drew ?_ | with_reducible refine Below.alloc ?_ (by first | omega | (simp; omega) | (simp; done) | fail) _ | with_reducible refine Below.setCell ?_ (by first | omega | (simp; omega) | (simp; done) | fail) _ | fail)); (first | done | fail)))).mono ?_); rintro e v2 ⟨rfl, hv2⟩; have kX0_2 := below_cell hv2 cX5a; have kX1_2 := below_cell hv2 cX5b; have kY0_2 := below_cell hv2 cY5a; have kY1_2 := below_cell hv2 cY5b; have kZ0_2 := below_cell hv2 cZ5a; have kZ1_2 := below_cell hv2 cZ5b)
     | (go_at_call 28; (with_reducible refine (CF2.out _ (by ((repeat' (first | with_reducible assumption | with_reducible exact Below.refl _ _ | with_reducible refine Below.drew ?_ | with_reducible refine Below.alloc ?_ (by first | omega | (simp; omega) | (simp; done) | fail) _ | with_reducible refine Below.setCell ?_ (by first | omega | (simp; omega) | (simp; done) | fail) _ | fail)); (first | done | fail)))).mono ?_); rintro e v3 ⟨rfl, hv3⟩; have kX0_3 := below_cell hv3 cX5a; have kX1_3 := below_cell hv3 cX5b; have kY0_3 := below_cell hv3 cY5a; have kY1_3 := below_cell hv3 cY5b; have kZ0_3 := below_cell hv3 cZ5a; have kZ1_3 := below_cell hv3 cZ5b))
  all_goals (go_wp2_with fail)
  all_goals go_ret
  all_goals exact ⟨rfl, HB5.out.trans ((show Below w5.heap.size w5 _ by assumption).mono HB5.out.size)⟩
end Go.Proofs.YtapeomcnjjfihaaDoor
