/- Layer 2: the law WholeForms, walked, at every input. -/
import Derived.Test.YtapeomcnjjfihaaDoorLawNum2
import Derived.Test.YtapeomcnjjfihaaDoorWInt
import Derived.Test.YtapeomcnjjfihaaDoorWRefSmall
import Derived.Test.YtapeomcnjjfihaaDoorWOf
namespace Go.Proofs.YtapeomcnjjfihaaDoor
open Go.ChangeShapes Go.WideShapes Go.ChangeAt Go.RowKit
set_option linter.unusedVariables false
set_option linter.unusedSimpArgs false
theorem known_at {W wx : World} (hx : Below W.heap.size W wx) : Calls Tryd.prog 13 #[] wx (At W (.bool true)) := by
  refine (known_true wx).mono ?_
  rintro e w' ⟨rfl, hb⟩
  exact ⟨rfl, hx.trans (hb.mono hx.size)⟩
theorem refint_at {W wx : World} {n : Int} (hn : I64 n) (hx : Below W.heap.size W wx) : Calls Tryd.prog 19 #[.int .i64 n] wx (NumAt W wx n) := by
  refine (refint_any n hn wx).mono ?_
  rintro e w' ⟨m, u, ds, rfl, hb, hS, hB⟩
  obtain ⟨p, c, rfl, _, _, _⟩ := rb_form hb
  exact ⟨m, p, c, ds, rfl, hb, hS, hx.trans (hB.mono hx.size), hB⟩
theorem wof_at {W wx : World} {n : Int} (hn : I64 n) (hx : Below W.heap.size W wx) : Calls Tryd.prog 17 #[.int .i64 n] wx (BigAt W wx n) := by
  refine (of_int n wx hn.lo hn.hi).mono ?_
  rintro e w' ⟨m, u, ws, rfl, hM, hS, hB⟩
  obtain ⟨p, c, rfl⟩ := MU.form hM
  have hlen : ws.length ≤ 30 := hS.small.2 hn.small
  exact ⟨m, p, c, ws, rfl, hM.rd (by omega), hS, hx.trans (hB.mono hx.size), hB⟩
set_option maxRecDepth 100000 in
set_option maxHeartbeats 16000000 in
theorem forms_bad (n1 : Bool) (u1 : Value) (xs : List Int) (n : Int) (w : World) (hr1 : Rd w u1 xs) (hf1 : Fit xs) (hg1 : goodB n1 xs = false) (hn : I64 n) :
    Calls Tryd.prog 3 #[.agg #[.bool n1, u1], .int .i64 n] w (BoolPost w true) := by
  have HR1 := Lib.hid hr1
  have HF1 := Lib.hid hf1
  have HG1 := Lib.hid hg1
  have HN := Lib.hid hn
  clear hg1 hn
  clear hr1 hf1
  go_enter Tryd.func3, Tryd.ntmps3
  go_wp2_with fail
  generalize hw1 : World.alloc w _ = w1
  have HB1 := Lib.hid (show Below w.heap.size w w1 by rw [← hw1]; exact ((Below.refl _ _).alloc (by first | exact Nat.le_refl _ | (simp; done) | (simp; omega)) _))
  have HX1 := Lib.hid (show Box2 w1 (w.heap.size) (.bool n1) u1 by rw [← hw1]; exact (Box2.new _ _ _ _ rfl))
  clear hw1
  have cX1a := HX1.out.c0
  have cX1b := HX1.out.c1
  have cX1l := HX1.out.lt
  have RX := Lib.hid (HR1.out.keep HB1.out)
  have CK := Lib.hid (fun (wx : World) (hx : Below w1.heap.size w1 wx) => known_at hx)
  have CG := Lib.hid (fun (wx : World) (hx : Below w1.heap.size w1 wx) => good_at RX.out HF1.out HG1.out hx)
  have CR := Lib.hid (fun (wx : World) (hx : Below w1.heap.size w1 wx) => refgood_at RX.out HF1.out HG1.out hx)
  have CO := Lib.hid (fun (wx : World) (hx : Below w1.heap.size w1 wx) => wof_at HN.out hx)
  have CI := Lib.hid (fun (wx : World) (hx : Below w1.heap.size w1 wx) => refint_at HN.out hx)
  go_region_held3 (fun w' => w'.cell? ⟨w.heap.size, 0, none⟩ = some (.bool n1) ∧ w'.cell? ⟨w.heap.size, 1, none⟩ = some (u1))
    ((repeat' apply And.intro) <;> (first | with_reducible assumption | with_reducible exact drew_cell (by assumption)))
    (first
     | (go_at_call 13; (with_reducible refine (CK.out _ (by ((repeat' (first | with_reducible assumption | with_reducible exact Below.refl _ _ | with_reducible refine Below.drew ?_ | with_reducible refine Below.alloc ?_ (by first | omega | (simp; omega) | (simp; done) | fail) _ | with_reducible refine Below.setCell ?_ (by first | omega | (simp; omega) | (simp; done) | fail) _ | fail)); (first | done | fail)))).mono ?_); rintro e v0 ⟨rfl, hv0⟩; have kX0_0 := below_cell hv0 cX1a; have kX1_0 := below_cell hv0 cX1b)
     | (go_at_call 14; (with_reducible refine (CG.out _ (by ((repeat' (first | with_reducible assumption | with_reducible exact Below.refl _ _ | with_reducible refine Below.drew ?_ | with_reducible refine Below.alloc ?_ (by first | omega | (simp; omega) | (simp; done) | fail) _ | with_reducible refine Below.setCell ?_ (by first | omega | (simp; omega) | (simp; done) | fail) _ | fail)); (first | done | fail)))).mono ?_); rintro e v1 ⟨rfl, hv1⟩; have kX0_1 := below_cell hv1 cX1a; have kX1_1 := below_cell hv1 cX1b)
     | (go_at_call 15; (with_reducible refine (CR.out _ (by ((repeat' (first | with_reducible assumption | with_reducible exact Below.refl _ _ | with_reducible refine Below.drew ?_ | with_reducible refine Below.alloc ?_ (by first | omega | (simp; omega) | (simp; done) | fail) _ | with_reducible refine Below.setCell ?_ (by first | omega | (simp; omega) | (simp; done) | fail) _ | fail)); (first | done | fail)))).mono ?_); rintro e v2 ⟨rfl, hv2⟩; have kX0_2 := below_cell hv2 cX1a; have kX1_2 := below_cell hv2 cX1b)
     | (go_at_call 17; (with_reducible refine (CO.out _ (by ((repeat' (first | with_reducible assumption | with_reducible exact Below.refl _ _ | with_reducible refine Below.drew ?_ | with_reducible refine Below.alloc ?_ (by first | omega | (simp; omega) | (simp; done) | fail) _ | with_reducible refine Below.setCell ?_ (by first | omega | (simp; omega) | (simp; done) | fail) _ | fail)); (first | done | fail)))).mono ?_); rintro e v3 ⟨nn, pn, cn, wn, rfl, hRn, hSn, hv3, hxn⟩; have kX0_3 := below_cell hv3 cX1a; have kX1_3 := below_cell hv3 cX1b; have RN := Lib.hid hRn; have SN := Lib.hid hSn; clear hRn hSn hxn)
     | (go_at_call 19; (with_reducible refine (CI.out _ (by ((repeat' (first | with_reducible assumption | with_reducible exact Below.refl _ _ | with_reducible refine Below.drew ?_ | with_reducible refine Below.alloc ?_ (by first | omega | (simp; omega) | (simp; done) | fail) _ | with_reducible refine Below.setCell ?_ (by first | omega | (simp; omega) | (simp; done) | fail) _ | fail)); (first | done | fail)))).mono ?_); rintro e v4 ⟨mt, pt, ct, dt, rfl, hRt, hSt, hv4, hxt⟩; have kX0_4 := below_cell hv4 cX1a; have kX1_4 := below_cell hv4 cX1b; have RN3 := Lib.hid (RN.out.keep hxt); have RT := Lib.hid hRt; have ST := Lib.hid hSt; clear hRt hSt hxt)
     | (go_at_call 18; (with_reducible refine (to_at (W := w1) RT.out ST.out (HN.out.small.len ST.out) (by ((repeat' (first | with_reducible assumption | with_reducible exact Below.refl _ _ | with_reducible refine Below.drew ?_ | with_reducible refine Below.alloc ?_ (by first | omega | (simp; omega) | (simp; done) | fail) _ | with_reducible refine Below.setCell ?_ (by first | omega | (simp; omega) | (simp; done) | fail) _ | fail)); (first | done | fail)))).mono ?_); rintro e v5 ⟨no, po, co, wo, rfl, hRo, hSo, hv5, hxo⟩; have kX0_5 := below_cell hv5 cX1a; have kX1_5 := below_cell hv5 cX1b; have RN4 := Lib.hid (RN3.out.keep hxo); have RO := Lib.hid hRo; have SO := Lib.hid hSo; clear hRo hSo hxo)
     | (go_at_call 16; (with_reducible refine (same_at (W := w1) RN4.out RO.out SN.out SO.out (by ((repeat' (first | with_reducible assumption | with_reducible exact Below.refl _ _ | with_reducible refine Below.drew ?_ | with_reducible refine Below.alloc ?_ (by first | omega | (simp; omega) | (simp; done) | fail) _ | with_reducible refine Below.setCell ?_ (by first | omega | (simp; omega) | (simp; done) | fail) _ | fail)); (first | done | fail)))).mono ?_); rintro e v6 ⟨rfl, hv6⟩; have kX0_6 := below_cell hv6 cX1a; have kX1_6 := below_cell hv6 cX1b))
  have HB6 := Lib.hid (HB1.out.trans (hv6.mono HB1.out.size))
  have HX6 := Lib.hid (HX1.out.keep hv6)
  clear kX0_0 kX1_0 kX0_1 kX1_1 kX0_2 kX1_2 kX0_3 kX1_3 kX0_4 kX1_4 kX0_5 kX1_5 kX0_6 kX1_6 hv0 hv1 hv2 hv3 hv4 hv5 hv6 cX1a cX1b cX1l
  obtain ⟨w6, rfl⟩ : ∃ w6 : World, w6 = v6 := ⟨_, rfl⟩
  have cX6a := HX6.out.c0
  have cX6b := HX6.out.c1
  have cX6l := HX6.out.lt
  go_wp2_with fail
  refine (wint_bad n1 u1 xs w6 (HR1.out.keep HB6.out) HF1.out HG1.out).mono ?_
  rintro e w7 ⟨rfl, hb7⟩
  have HB7 := Lib.hid (HB6.out.trans (hb7.mono HB6.out.size))
  have HX7 := Lib.hid (HX6.out.keep hb7)
  clear cX6a  cX6b  cX6l  HX6 HB6 hb7 
  have cX7a := HX7.out.c0
  have cX7b := HX7.out.c1
  have cX7l := HX7.out.lt
  go_wp2_with fail
  refine (show Calls _ _ _ _ (BoolPost w7 false) by have h := refgood_any n1 u1 xs w7 (HR1.out.keep HB7.out) HF1.out; rwa [HG1.out] at h).mono ?_
  rintro e w8 ⟨rfl, hb8⟩
  have HB8 := Lib.hid (HB7.out.trans (hb8.mono HB7.out.size))
  have HX8 := Lib.hid (HX7.out.keep hb8)
  clear cX7a  cX7b  cX7l  HX7 HB7 hb8 
  have cX8a := HX8.out.c0
  have cX8b := HX8.out.c1
  have cX8l := HX8.out.lt
  go_wp2_with fail
  go_ret
  exact ⟨rfl, HB8.out⟩
set_option maxRecDepth 100000 in
set_option maxHeartbeats 16000000 in
theorem forms_good (n1 : Bool) (u1 : Value) (xs : List Int) (n : Int) (w : World) (hr1 : Rd w u1 xs) (hf1 : Fit xs) (hg1 : goodB n1 xs = true) (hn : I64 n) :
    Calls Tryd.prog 3 #[.agg #[.bool n1, u1], .int .i64 n] w (BoolPost w true) := by
  have HR1 := Lib.hid hr1
  have HF1 := Lib.hid hf1
  have HG1 := Lib.hid hg1
  have HN := Lib.hid hn
  have HS1 := Lib.hid (goodB_sgn hg1 hf1)
  clear hg1 hn
  clear hr1 hf1
  go_enter Tryd.func3, Tryd.ntmps3
  go_wp2_with fail
  generalize hw1 : World.alloc w _ = w1
  have HB1 := Lib.hid (show Below w.heap.size w w1 by rw [← hw1]; exact ((Below.refl _ _).alloc (by first | exact Nat.le_refl _ | (simp; done) | (simp; omega)) _))
  have HX1 := Lib.hid (show Box2 w1 (w.heap.size) (.bool n1) u1 by rw [← hw1]; exact (Box2.new _ _ _ _ rfl))
  clear hw1
  have cX1a := HX1.out.c0
  have cX1b := HX1.out.c1
  have cX1l := HX1.out.lt
  have RX := Lib.hid (HR1.out.keep HB1.out)
  have CK := Lib.hid (fun (wx : World) (hx : Below w1.heap.size w1 wx) => known_at hx)
  have CG := Lib.hid (fun (wx : World) (hx : Below w1.heap.size w1 wx) => good_at RX.out HF1.out HG1.out hx)
  have CR := Lib.hid (fun (wx : World) (hx : Below w1.heap.size w1 wx) => refgood_at RX.out HF1.out HG1.out hx)
  have CO := Lib.hid (fun (wx : World) (hx : Below w1.heap.size w1 wx) => wof_at HN.out hx)
  have CI := Lib.hid (fun (wx : World) (hx : Below w1.heap.size w1 wx) => refint_at HN.out hx)
  go_region_held3 (fun w' => w'.cell? ⟨w.heap.size, 0, none⟩ = some (.bool n1) ∧ w'.cell? ⟨w.heap.size, 1, none⟩ = some (u1))
    ((repeat' apply And.intro) <;> (first | with_reducible assumption | with_reducible exact drew_cell (by assumption)))
    (first
     | (go_at_call 13; (with_reducible refine (CK.out _ (by ((repeat' (first | with_reducible assumption | with_reducible exact Below.refl _ _ | with_reducible refine Below.drew ?_ | with_reducible refine Below.alloc ?_ (by first | omega | (simp; omega) | (simp; done) | fail) _ | with_reducible refine Below.setCell ?_ (by first | omega | (simp; omega) | (simp; done) | fail) _ | fail)); (first | done | fail)))).mono ?_); rintro e v0 ⟨rfl, hv0⟩; have kX0_0 := below_cell hv0 cX1a; have kX1_0 := below_cell hv0 cX1b)
     | (go_at_call 14; (with_reducible refine (CG.out _ (by ((repeat' (first | with_reducible assumption | with_reducible exact Below.refl _ _ | with_reducible refine Below.drew ?_ | with_reducible refine Below.alloc ?_ (by first | omega | (simp; omega) | (simp; done) | fail) _ | with_reducible refine Below.setCell ?_ (by first | omega | (simp; omega) | (simp; done) | fail) _ | fail)); (first | done | fail)))).mono ?_); rintro e v1 ⟨rfl, hv1⟩; have kX0_1 := below_cell hv1 cX1a; have kX1_1 := below_cell hv1 cX1b)
     | (go_at_call 15; (with_reducible refine (CR.out _ (by ((repeat' (first | with_reducible assumption | with_reducible exact Below.refl _ _ | with_reducible refine Below.drew ?_ | with_reducible refine Below.alloc ?_ (by first | omega | (simp; omega) | (simp; done) | fail) _ | with_reducible refine Below.setCell ?_ (by first | omega | (simp; omega) | (simp; done) | fail) _ | fail)); (first | done | fail)))).mono ?_); rintro e v2 ⟨rfl, hv2⟩; have kX0_2 := below_cell hv2 cX1a; have kX1_2 := below_cell hv2 cX1b)
     | (go_at_call 17; (with_reducible refine (CO.out _ (by ((repeat' (first | with_reducible assumption | with_reducible exact Below.refl _ _ | with_reducible refine Below.drew ?_ | with_reducible refine Below.alloc ?_ (by first | omega | (simp; omega) | (simp; done) | fail) _ | with_reducible refine Below.setCell ?_ (by first | omega | (simp; omega) | (simp; done) | fail) _ | fail)); (first | done | fail)))).mono ?_); rintro e v3 ⟨nn, pn, cn, wn, rfl, hRn, hSn, hv3, hxn⟩; have kX0_3 := below_cell hv3 cX1a; have kX1_3 := below_cell hv3 cX1b; have RN := Lib.hid hRn; have SN := Lib.hid hSn; clear hRn hSn hxn)
     | (go_at_call 19; (with_reducible refine (CI.out _ (by ((repeat' (first | with_reducible assumption | with_reducible exact Below.refl _ _ | with_reducible refine Below.drew ?_ | with_reducible refine Below.alloc ?_ (by first | omega | (simp; omega) | (simp; done) | fail) _ | with_reducible refine Below.setCell ?_ (by first | omega | (simp; omega) | (simp; done) | fail) _ | fail)); (first | done | fail)))).mono ?_); rintro e v4 ⟨mt, pt, ct, dt, rfl, hRt, hSt, hv4, hxt⟩; have kX0_4 := below_cell hv4 cX1a; have kX1_4 := below_cell hv4 cX1b; have RN3 := Lib.hid (RN.out.keep hxt); have RT := Lib.hid hRt; have ST := Lib.hid hSt; clear hRt hSt hxt)
     | (go_at_call 18; (with_reducible refine (to_at (W := w1) RT.out ST.out (HN.out.small.len ST.out) (by ((repeat' (first | with_reducible assumption | with_reducible exact Below.refl _ _ | with_reducible refine Below.drew ?_ | with_reducible refine Below.alloc ?_ (by first | omega | (simp; omega) | (simp; done) | fail) _ | with_reducible refine Below.setCell ?_ (by first | omega | (simp; omega) | (simp; done) | fail) _ | fail)); (first | done | fail)))).mono ?_); rintro e v5 ⟨no, po, co, wo, rfl, hRo, hSo, hv5, hxo⟩; have kX0_5 := below_cell hv5 cX1a; have kX1_5 := below_cell hv5 cX1b; have RN4 := Lib.hid (RN3.out.keep hxo); have RO := Lib.hid hRo; have SO := Lib.hid hSo; clear hRo hSo hxo)
     | (go_at_call 16; (with_reducible refine (same_at (W := w1) RN4.out RO.out SN.out SO.out (by ((repeat' (first | with_reducible assumption | with_reducible exact Below.refl _ _ | with_reducible refine Below.drew ?_ | with_reducible refine Below.alloc ?_ (by first | omega | (simp; omega) | (simp; done) | fail) _ | with_reducible refine Below.setCell ?_ (by first | omega | (simp; omega) | (simp; done) | fail) _ | fail)); (first | done | fail)))).mono ?_); rintro e v6 ⟨rfl, hv6⟩; have kX0_6 := below_cell hv6 cX1a; have kX1_6 := below_cell hv6 cX1b))
  have HB6 := Lib.hid (HB1.out.trans (hv6.mono HB1.out.size))
  have HX6 := Lib.hid (HX1.out.keep hv6)
  clear kX0_0 kX1_0 kX0_1 kX1_1 kX0_2 kX1_2 kX0_3 kX1_3 kX0_4 kX1_4 kX0_5 kX1_5 kX0_6 kX1_6 hv0 hv1 hv2 hv3 hv4 hv5 hv6 cX1a cX1b cX1l
  obtain ⟨w6, rfl⟩ : ∃ w6 : World, w6 = v6 := ⟨_, rfl⟩
  have cX6a := HX6.out.c0
  have cX6b := HX6.out.c1
  have cX6l := HX6.out.lt
  go_wp2_with fail
  refine (wint_good n1 u1 xs _ w6 (HR1.out.keep HB6.out) HS1.out.1 HS1.out.2).mono ?_
  rintro e w7 ⟨m, er, rfl, hcase, hb7⟩
  have HCA := Lib.hid hcase
  clear hcase
  have HB7 := Lib.hid (HB6.out.trans (hb7.mono HB6.out.size))
  have HX7 := Lib.hid (HX6.out.keep hb7)
  clear cX6a  cX6b  cX6l  HX6 HB6 hb7 
  have cX7a := HX7.out.c0
  have cX7b := HX7.out.c1
  have cX7l := HX7.out.lt
  go_wp2_with fail
  refine (show Calls _ _ _ _ (BoolPost w7 true) by have h := refgood_any n1 u1 xs w7 (HR1.out.keep HB7.out) HF1.out; rwa [HG1.out] at h).mono ?_
  rintro e w8 ⟨rfl, hb8⟩
  have HB8 := Lib.hid (HB7.out.trans (hb8.mono HB7.out.size))
  have HX8 := Lib.hid (HX7.out.keep hb8)
  clear cX7a  cX7b  cX7l  HX7 HB7 hb8 
  have cX8a := HX8.out.c0
  have cX8b := HX8.out.c1
  have cX8l := HX8.out.lt
  go_wp2_with fail
  refine (of_any n1 u1 xs _ w8 (HR1.out.keep HB8.out) HS1.out.1 (Nat.le_trans HS1.out.2 (by omega))).mono ?_
  rintro e w9 ⟨md, ud, ds, rfl, hRd, hSd, hb9⟩
  obtain ⟨pd, cd, rfl, _, _, _⟩ := rb_form hRd
  have RD := Lib.hid hRd
  have SD := Lib.hid hSd
  clear hRd hSd
  have HB9 := Lib.hid (HB8.out.trans (hb9.mono HB8.out.size))
  have HX9 := Lib.hid (HX8.out.keep hb9)
  clear cX8a  cX8b  cX8l  HX8 HB8 hb9 
  have cX9a := HX9.out.c0
  have cX9b := HX9.out.c1
  have cX9l := HX9.out.lt
  go_wp2_with fail
  refine (refsmall_any md _ ds _ w9 RD.out SD.out).mono ?_
  rintro e w10 ⟨m2, ok, rfl, hcase2, hb10⟩
  have HCB := Lib.hid hcase2
  clear hcase2
  have HB10 := Lib.hid (HB9.out.trans (hb10.mono HB9.out.size))
  have HX10 := Lib.hid (HX9.out.keep hb10)
  clear cX9a  cX9b  cX9l  HX9 HB9 hb10 
  have cX10a := HX10.out.c0
  have cX10b := HX10.out.c1
  have cX10l := HX10.out.lt
  rcases HCA.out with ⟨h1, e1, e2⟩ | ⟨h1, e1, e2⟩ <;> rcases HCB.out with ⟨h2, e3⟩ | ⟨h2, e3⟩
  · obtain ⟨e3, e4⟩ := e3; subst e2; subst e4; have HE := Lib.hid (show m = m2 from e1.trans e3.symm); clear e1 e3; obtain rfl := HE.out
    go_wp2_with fail
    go_ret
    exact ⟨rfl, HB10.out⟩
  · exact absurd h1 h2
  · exact absurd h2 h1
  · subst e1; subst e2; subst e3
    go_wp2_with fail
    go_ret
    exact ⟨rfl, HB10.out⟩
theorem lawForms (n1 : Bool) (u1 : Value) (xs : List Int) (n : Int) (w : World) (hr1 : Rd w u1 xs) (hf1 : Fit xs) (hn : (Lit.int .i64 n).wf = true) :
    Calls Tryd.prog 3 #[.agg #[.bool n1, u1], .int .i64 n] w (BoolPost w true) := by
  have h := wfi hn
  cases hg1 : goodB n1 xs with
  | false => exact forms_bad n1 u1 xs n w hr1 hf1 hg1 ⟨h.1, h.2⟩
  | true => exact forms_good n1 u1 xs n w hr1 hf1 hg1 ⟨h.1, h.2⟩
end Go.Proofs.YtapeomcnjjfihaaDoor
