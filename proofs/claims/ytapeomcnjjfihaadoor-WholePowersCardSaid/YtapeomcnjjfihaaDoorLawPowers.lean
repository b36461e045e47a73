/- Layer 2: the law WholePowers, walked, at every input. -/
import Derived.Test.YtapeomcnjjfihaaDoorLawNum2
import Derived.Test.YtapeomcnjjfihaaDoorWPow
import Derived.Test.YtapeomcnjjfihaaDoorWRefPow
namespace Go.Proofs.YtapeomcnjjfihaaDoor
open Go.ChangeShapes Go.WideShapes Go.ChangeAt Go.RowKit
set_option linter.unusedVariables false
set_option linter.unusedSimpArgs false
set_option maxRecDepth 100000 in
set_option maxHeartbeats 1000000 in
theorem pow_bad1 (n1 : Bool) (u1 : Value) (xs : List Int) (n2 : Bool) (u2 : Value) (ys : List Int) (w : World) (hr1 : Rd w u1 xs) (hf1 : Fit xs) (hr2 : Rd w u2 ys) (hg : goodB n1 xs = false) :
    Calls Tryd.prog 42 #[.agg #[.bool n1, u1], .agg #[.bool n2, u2]] w (BadPost w 3) := by
  have HR1 := Lib.hid hr1
  have HR2 := Lib.hid hr2
  obtain ⟨p1, c1, rfl, _, _, _⟩ := rd_form hr1
  obtain ⟨p2, c2, rfl, _, _, _⟩ := rd_form hr2
  have HGN := Lib.hid hg
  clear hr1 hr2 hg
  go_enter Tryd.func42, Tryd.ntmps42
  go_wp2_with fail
  generalize hw2 : World.alloc (World.alloc (World.alloc w _) _) _ = w2
  have hbx : Bx3 w2 w.heap.size n1 (.slice p1 xs.length c1) n2 (.slice p2 ys.length c2) := by
    rw [← hw2]
    exact ⟨alloc_cell (alloc_cell (by simp) _) _, alloc_cell (alloc_cell (by simp) _) _, alloc_cell (by simp) _, alloc_cell (by simp) _, third_cell _ _ _ _ _ 0, third_cell _ _ _ _ _ 1, third_fr _ _ _ _ _ 0, third_fr _ _ _ _ _ 1, by simp⟩
  have HB2 := Lib.hid (show Below w.heap.size w w2 by rw [← hw2]; exact (((Below.refl _ _).alloc (Nat.le_refl _) _).alloc (by simp) _).alloc (by simp; omega) _)
  clear hw2
  have HX2 := Lib.hid hbx
  have q0 := hbx.x0
  have q1 := hbx.x1
  have q2 := hbx.y0
  have q3 := hbx.y1
  refine (good_no _ _ xs w2 (HR1.out.keep HB2.out) hf1 HGN.out).mono ?_
  rintro e w3 ⟨rfl, hb3⟩
  have hX := HX2.out.keep hb3
  have HB := Lib.hid (HB2.out.trans (hb3.mono HB2.out.size))
  have r0 := hX.r0
  have r1 := hX.r1
  have f0 := hX.f0
  have f1 := hX.f1
  clear hX hb3
  clear q0 q1 q2 q3 hbx
  go_wp2_with fail
  have z2 := two_setW (x0 := .bool false) (x1 := .slice none 0 0) r0 r1
  refine bodyPost_ret (v := .tuple #[.agg #[.bool false, .slice none 0 0], .int .i64 3]) (by simp [results, Tryd.results42, go_sem, z2.1, z2.2]) rfl ⟨rfl, ?_⟩
  exact (HB.out.setCell (by simp; omega) _).setCell (by simp; omega) _
set_option maxRecDepth 100000 in
set_option maxHeartbeats 1000000 in
theorem pow_bad2 (n1 : Bool) (u1 : Value) (xs : List Int) (n2 : Bool) (u2 : Value) (ys : List Int) (w : World) (hr1 : Rd w u1 xs) (hf1 : Fit xs) (hr2 : Rd w u2 ys) (hf2 : Fit ys) (hg1 : goodB n1 xs = true) (hg : goodB n2 ys = false) :
    Calls Tryd.prog 42 #[.agg #[.bool n1, u1], .agg #[.bool n2, u2]] w (BadPost w 3) := by
  have HR1 := Lib.hid hr1
  have HR2 := Lib.hid hr2
  obtain ⟨p1, c1, rfl, _, _, _⟩ := rd_form hr1
  obtain ⟨p2, c2, rfl, _, _, _⟩ := rd_form hr2
  have HGN := Lib.hid hg
  clear hr1 hr2 hg
  have HG1 := Lib.hid (goodB_sgn hg1 hf1)
  clear hg1
  go_enter Tryd.func42, Tryd.ntmps42
  go_wp2_with fail
  generalize hw2 : World.alloc (World.alloc (World.alloc w _) _) _ = w2
  have hbx : Bx3 w2 w.heap.size n1 (.slice p1 xs.length c1) n2 (.slice p2 ys.length c2) := by
    rw [← hw2]
    exact ⟨alloc_cell (alloc_cell (by simp) _) _, alloc_cell (alloc_cell (by simp) _) _, alloc_cell (by simp) _, alloc_cell (by simp) _, third_cell _ _ _ _ _ 0, third_cell _ _ _ _ _ 1, third_fr _ _ _ _ _ 0, third_fr _ _ _ _ _ 1, by simp⟩
  have HB2 := Lib.hid (show Below w.heap.size w w2 by rw [← hw2]; exact (((Below.refl _ _).alloc (Nat.le_refl _) _).alloc (by simp) _).alloc (by simp; omega) _)
  clear hw2
  have HX2 := Lib.hid hbx
  have q0 := hbx.x0
  have q1 := hbx.x1
  have q2 := hbx.y0
  have q3 := hbx.y1
  refine (good_yes _ _ xs _ w2 (HR1.out.keep HB2.out) HG1.out.1 HG1.out.2).mono ?_
  rintro e w3 ⟨rfl, hb3⟩
  have HX3 := Lib.hid (HX2.out.keep hb3)
  have HB3 := Lib.hid (HB2.out.trans (hb3.mono HB2.out.size))
  have t0 := HX3.out.x0
  have t1 := HX3.out.x1
  have t2 := HX3.out.y0
  have t3 := HX3.out.y1
  clear q0 q1 q2 q3 hb3 hbx
  go_wp2_with fail
  refine (good_no _ _ ys w3 (HR2.out.keep HB3.out) hf2 HGN.out).mono ?_
  rintro e w4 ⟨rfl, hb4⟩
  have hX := HX3.out.keep hb4
  have HB := Lib.hid (HB3.out.trans (hb4.mono HB3.out.size))
  have r0 := hX.r0
  have r1 := hX.r1
  have f0 := hX.f0
  have f1 := hX.f1
  clear hX hb4
  clear t0 t1 t2 t3
  go_wp2_with fail
  have z2 := two_setW (x0 := .bool false) (x1 := .slice none 0 0) r0 r1
  refine bodyPost_ret (v := .tuple #[.agg #[.bool false, .slice none 0 0], .int .i64 3]) (by simp [results, Tryd.results42, go_sem, z2.1, z2.2]) rfl ⟨rfl, ?_⟩
  exact (HB.out.setCell (by simp; omega) _).setCell (by simp; omega) _
def RefPowCase (z1 z2 : Int) (m : Bool) (ds : List Int) (er : Int) : Prop := (z2 < 0 ∧ er = 1) ∨ (0 ≤ z2 ∧ NumCase (z1 ^ z2.toNat) m ds er)
def BigPowCase (z1 z2 : Int) (neg : Bool) (ws : List Int) (er : Int) : Prop := (z2 < 0 ∧ er = 1 ∧ neg = false ∧ ws = []) ∨ (0 ≤ z2 ∧ ResCase (z1 ^ z2.toNat) neg ws er)
theorem pow_len {z1 z2 : Int} {neg : Bool} {ws : List Int} {er : Int} (h : BigPowCase z1 z2 neg ws er) : ws.length ≤ 17592186043904 := by
  rcases h with ⟨_, _, _, rfl⟩ | ⟨_, h⟩
  · simp
  · exact ResCase.len17 h
theorem refpow_at {W wx : World} {n1 : Bool} {u1 : Value} {xs : List Int} {z1 : Int} {n2 : Bool} {u2 : Value} {ys : List Int} {z2 : Int} (hr1 : Rb wx u1 xs) (hr2 : Rb wx u2 ys) (hs1 : Sgn 10 n1 xs z1) (hs2 : Sgn 10 n2 ys z2) (hl1 : xs.length ≤ 540) (hl2 : ys.length ≤ 540) (hx : Below W.heap.size W wx) :
    Calls Tryd.prog 43 #[.agg #[.bool n1, u1], .agg #[.bool n2, u2]] wx (fun e w' => ∃ m p c ds er, e = .returned (.tuple #[.agg #[.bool m, .slice p (List.length ds) c], .int .i64 er]) ∧ Rb w' (.slice p ds.length c) ds ∧ RefPowCase z1 z2 m ds er ∧ Below W.heap.size W w' ∧ Below wx.heap.size wx w') := by
  refine (refpow_any n1 u1 xs z1 n2 u2 ys z2 wx hr1 hr2 hs1 hs2 hl1 hl2).mono ?_
  rintro e w' ⟨m, p, c, ds, er, rfl, hb, hB, hc⟩
  exact ⟨m, p, c, ds, er, rfl, hb, hc, hx.trans (hB.mono hx.size), hB⟩
theorem ispow_at {W wx : World} {nx : Bool} {ux : Value} {xs : List Int} {er : Int} {nn : Bool} {un : Value} {ds : List Int} {e2 z1 z2 : Int} (hrx : Rd W ux xs) (hc : BigPowCase z1 z2 nx xs er) (hrn : Rb W un ds) (hd : RefPowCase z1 z2 nn ds e2) (hx : Below W.heap.size W wx) :
    Calls Tryd.prog 25 #[.agg #[.bool nx, ux], .int .i64 er, .agg #[.bool nn, un], .int .i64 e2] wx (At W (.bool true)) := by
  have bad : ∀ f : Int, f ≠ 0 → nx = false → xs = [] → er = f → e2 = f → Calls Tryd.prog 25 #[.agg #[.bool nx, ux], .int .i64 er, .agg #[.bool nn, un], .int .i64 e2] wx (At W (.bool true)) := by
    intro f hf h1 h2 h3 h4
    subst h1; subst h2; subst h3; subst h4
    refine (is_bad ux nn un _ wx (hrx.keep hx) hf).mono ?_
    rintro e w' ⟨rfl, hb⟩
    exact ⟨rfl, hx.trans (hb.mono hx.size)⟩
  rcases hc with ⟨a1, a2, a3, a4⟩ | ⟨a1, hc⟩ <;> rcases hd with ⟨b1, b2⟩ | ⟨b1, hd⟩
  · exact bad 1 (by decide) a3 a4 a2 b2
  · omega
  · omega
  · rcases hc with ⟨c1, rfl, c3⟩ | ⟨c1, c2, c3, c4⟩ <;> rcases hd with ⟨d1, rfl, d3⟩ | ⟨d1, d2⟩
    · refine (is_good nx ux xs nn un ds _ wx (hrx.keep hx) c3 (hrn.keep hx) d3 (by have := c1.len d3; omega)).mono ?_
      rintro e w' ⟨rfl, hb⟩
      exact ⟨rfl, hx.trans (hb.mono hx.size)⟩
    · exact absurd c1 d1
    · exact absurd d1 c1
    · exact bad 7 (by decide) c3 c4 c2 d2
/-- A number in a box of its own, and what is known of it. -/
structure N2 (W wx : World) (b1 : Nat) (m1 : Bool) (p1 : Option Addr) (c1 : Nat) (d1 : List Int) (C : Prop) : Prop where
  below : Below W.heap.size W wx
  x1 : Box2 wx b1 (.bool m1) (.slice p1 d1.length c1)
  r1 : Rb wx (.slice p1 d1.length c1) d1
  case : C
set_option maxRecDepth 100000 in
set_option maxHeartbeats 16000000 in
theorem powers_bad1 (n1 : Bool) (u1 : Value) (xs : List Int) (n2 : Bool) (u2 : Value) (ys : List Int)  (w : World) (hr1 : Rd w u1 xs) (hf1 : Fit xs) (hr2 : Rd w u2 ys) (hf2 : Fit ys) (hg1 : goodB n1 xs = false) :
    Calls Tryd.prog 8 #[.agg #[.bool n1, u1], .agg #[.bool n2, u2]] w (BoolPost w true) := by
  have HR1 := Lib.hid hr1
  have HF1 := Lib.hid hf1
  have HR2 := Lib.hid hr2
  have HF2 := Lib.hid hf2
  have HG1 := Lib.hid hg1
  clear hg1
  clear hr1 hf1 hr2 hf2
  go_enter Tryd.func8, Tryd.ntmps8
  go_wp2_with fail
  generalize hw1 : World.alloc (World.alloc w _) _ = w1
  have HB1 := Lib.hid (show Below w.heap.size w w1 by rw [← hw1]; exact (((Below.refl _ _).alloc (by first | exact Nat.le_refl _ | (simp; done) | (simp; omega)) _).alloc (by first | exact Nat.le_refl _ | (simp; done) | (simp; omega)) _))
  have HX1 := Lib.hid (show Box2 w1 (w.heap.size) (.bool n1) u1 by rw [← hw1]; exact (Box2.new _ _ _ _ rfl).alloc _)
  have HY1 := Lib.hid (show Box2 w1 (w.heap.size + 1) (.bool n2) u2 by rw [← hw1]; exact (Box2.new _ _ _ _ (by simp)))
  clear hw1
  have cX1a := HX1.out.c0
  have cX1b := HX1.out.c1
  have cX1l := HX1.out.lt
  have cY1a := HY1.out.c0
  have cY1b := HY1.out.c1
  have cY1l := HY1.out.lt
  refine (known_true w1).mono ?_
  rintro e w2 ⟨rfl, hb2⟩
  have HB2 := Lib.hid (HB1.out.trans (hb2.mono HB1.out.size))
  have HX2 := Lib.hid (HX1.out.keep hb2)
  have HY2 := Lib.hid (HY1.out.keep hb2)
  clear cX1a  cX1b  cX1l  cY1a  cY1b  cY1l  HX1 HY1 HB1 hb2 
  have cX2a := HX2.out.c0
  have cX2b := HX2.out.c1
  have cX2l := HX2.out.lt
  have cY2a := HY2.out.c0
  have cY2b := HY2.out.c1
  have cY2l := HY2.out.lt
  go_wp2_with fail
  refine (pow_bad1 n1 u1 xs n2 u2 ys w2 (HR1.out.keep HB2.out) HF1.out (HR2.out.keep HB2.out) HG1.out).mono ?_
  rintro e w3 ⟨rfl, hb3⟩
  have HB3 := Lib.hid (HB2.out.trans (hb3.mono HB2.out.size))
  have HX3 := Lib.hid (HX2.out.keep hb3)
  have HY3 := Lib.hid (HY2.out.keep hb3)
  clear cX2a  cX2b  cX2l  cY2a  cY2b  cY2l  HX2 HY2 HB2 hb3 
  have cX3a := HX3.out.c0
  have cX3b := HX3.out.c1
  have cX3l := HX3.out.lt
  have cY3a := HY3.out.c0
  have cY3b := HY3.out.c1
  have cY3l := HY3.out.lt
  go_wp2_with fail
  generalize hw4 : World.alloc w3 _ = w4
  have hb4 : Below w3.heap.size w3 w4 := by rw [← hw4]; exact (Below.refl _ _).alloc (Nat.le_refl _) _
  have HP4 := Lib.hid (show Box2 w4 w3.heap.size (.bool false) (.slice none 0 0) by rw [← hw4]; exact Box2.new _ _ _ _ rfl)
  have HB4 := Lib.hid (HB3.out.trans (hb4.mono HB3.out.size))
  have HX4 := Lib.hid (HX3.out.keep hb4)
  have HY4 := Lib.hid (HY3.out.keep hb4)
  clear cX3a  cX3b  cX3l  cY3a  cY3b  cY3l  HX3 HY3 HB3 hb4 hw4
  have cX4a := HX4.out.c0
  have cX4b := HX4.out.c1
  have cX4l := HX4.out.lt
  have cY4a := HY4.out.c0
  have cY4b := HY4.out.c1
  have cY4l := HY4.out.lt
  have cP4a := HP4.out.c0
  have cP4b := HP4.out.c1
  have cP4l := HP4.out.lt
  refine (form_at1 (n1 := n1) (n2 := n2) (HR1.out.keep HB4.out) (HR2.out.keep HB4.out) HF1.out HF2.out HG1.out (Below.refl w4.heap.size w4)).mono ?_
  rintro e w5 ⟨rfl, hb5⟩
  have HB5 := Lib.hid (HB4.out.trans (hb5.mono HB4.out.size))
  have HX5 := Lib.hid (HX4.out.keep hb5)
  have HY5 := Lib.hid (HY4.out.keep hb5)
  have HP5 := Lib.hid (HP4.out.keep hb5)
  clear cX4a  cX4b  cX4l  cY4a  cY4b  cY4l  cP4a  cP4b  cP4l  HX4 HY4 HP4 HB4 hb5 
  have cX5a := HX5.out.c0
  have cX5b := HX5.out.c1
  have cX5l := HX5.out.lt
  have cY5a := HY5.out.c0
  have cY5b := HY5.out.c1
  have cY5l := HY5.out.lt
  have cP5a := HP5.out.c0
  have cP5b := HP5.out.c1
  have cP5l := HP5.out.lt
  go_wp2_with fail
  refine (is_bad (.slice none 0 0) false (.slice none 0 0) 3 w5 (.inl ⟨none, rfl, rfl⟩) (by decide)).mono ?_
  rintro e w6 ⟨rfl, hb6⟩
  have HB6 := Lib.hid (HB5.out.trans (hb6.mono HB5.out.size))
  have HX6 := Lib.hid (HX5.out.keep hb6)
  have HY6 := Lib.hid (HY5.out.keep hb6)
  have HP6 := Lib.hid (HP5.out.keep hb6)
  clear cX5a  cX5b  cX5l  cY5a  cY5b  cY5l  cP5a  cP5b  cP5l  HX5 HY5 HP5 HB5 hb6 
  have cX6a := HX6.out.c0
  have cX6b := HX6.out.c1
  have cX6l := HX6.out.lt
  have cY6a := HY6.out.c0
  have cY6b := HY6.out.c1
  have cY6l := HY6.out.lt
  have cP6a := HP6.out.c0
  have cP6b := HP6.out.c1
  have cP6l := HP6.out.lt
  go_wp2_with fail
  go_ret
  exact ⟨rfl, HB6.out⟩
set_option maxRecDepth 100000 in
set_option maxHeartbeats 16000000 in
theorem powers_bad2 (n1 : Bool) (u1 : Value) (xs : List Int) (n2 : Bool) (u2 : Value) (ys : List Int)  (w : World) (hr1 : Rd w u1 xs) (hf1 : Fit xs) (hr2 : Rd w u2 ys) (hf2 : Fit ys) (hg1 : goodB n1 xs = true) (hg2 : goodB n2 ys = false) :
    Calls Tryd.prog 8 #[.agg #[.bool n1, u1], .agg #[.bool n2, u2]] w (BoolPost w true) := by
  have HR1 := Lib.hid hr1
  have HF1 := Lib.hid hf1
  have HR2 := Lib.hid hr2
  have HF2 := Lib.hid hf2
  have HG1 := Lib.hid hg1
  have HG2 := Lib.hid hg2
  clear hg1 hg2
  clear hr1 hf1 hr2 hf2
  go_enter Tryd.func8, Tryd.ntmps8
  go_wp2_with fail
  generalize hw1 : World.alloc (World.alloc w _) _ = w1
  have HB1 := Lib.hid (show Below w.heap.size w w1 by rw [← hw1]; exact (((Below.refl _ _).alloc (by first | exact Nat.le_refl _ | (simp; done) | (simp; omega)) _).alloc (by first | exact Nat.le_refl _ | (simp; done) | (simp; omega)) _))
  have HX1 := Lib.hid (show Box2 w1 (w.heap.size) (.bool n1) u1 by rw [← hw1]; exact (Box2.new _ _ _ _ rfl).alloc _)
  have HY1 := Lib.hid (show Box2 w1 (w.heap.size + 1) (.bool n2) u2 by rw [← hw1]; exact (Box2.new _ _ _ _ (by simp)))
  clear hw1
  have cX1a := HX1.out.c0
  have cX1b := HX1.out.c1
  have cX1l := HX1.out.lt
  have cY1a := HY1.out.c0
  have cY1b := HY1.out.c1
  have cY1l := HY1.out.lt
  refine (known_true w1).mono ?_
  rintro e w2 ⟨rfl, hb2⟩
  have HB2 := Lib.hid (HB1.out.trans (hb2.mono HB1.out.size))
  have HX2 := Lib.hid (HX1.out.keep hb2)
  have HY2 := Lib.hid (HY1.out.keep hb2)
  clear cX1a  cX1b  cX1l  cY1a  cY1b  cY1l  HX1 HY1 HB1 hb2 
  have cX2a := HX2.out.c0
  have cX2b := HX2.out.c1
  have cX2l := HX2.out.lt
  have cY2a := HY2.out.c0
  have cY2b := HY2.out.c1
  have cY2l := HY2.out.lt
  go_wp2_with fail
  refine (pow_bad2 n1 u1 xs n2 u2 ys w2 (HR1.out.keep HB2.out) HF1.out (HR2.out.keep HB2.out) HF2.out HG1.out HG2.out).mono ?_
  rintro e w3 ⟨rfl, hb3⟩
  have HB3 := Lib.hid (HB2.out.trans (hb3.mono HB2.out.size))
  have HX3 := Lib.hid (HX2.out.keep hb3)
  have HY3 := Lib.hid (HY2.out.keep hb3)
  clear cX2a  cX2b  cX2l  cY2a  cY2b  cY2l  HX2 HY2 HB2 hb3 
  have cX3a := HX3.out.c0
  have cX3b := HX3.out.c1
  have cX3l := HX3.out.lt
  have cY3a := HY3.out.c0
  have cY3b := HY3.out.c1
  have cY3l := HY3.out.lt
  go_wp2_with fail
  generalize hw4 : World.alloc w3 _ = w4
  have hb4 : Below w3.heap.size w3 w4 := by rw [← hw4]; exact (Below.refl _ _).alloc (Nat.le_refl _) _
  have HP4 := Lib.hid (show Box2 w4 w3.heap.size (.bool false) (.slice none 0 0) by rw [← hw4]; exact Box2.new _ _ _ _ rfl)
  have HB4 := Lib.hid (HB3.out.trans (hb4.mono HB3.out.size))
  have HX4 := Lib.hid (HX3.out.keep hb4)
  have HY4 := Lib.hid (HY3.out.keep hb4)
  clear cX3a  cX3b  cX3l  cY3a  cY3b  cY3l  HX3 HY3 HB3 hb4 hw4
  have cX4a := HX4.out.c0
  have cX4b := HX4.out.c1
  have cX4l := HX4.out.lt
  have cY4a := HY4.out.c0
  have cY4b := HY4.out.c1
  have cY4l := HY4.out.lt
  have cP4a := HP4.out.c0
  have cP4b := HP4.out.c1
  have cP4l := HP4.out.lt
  refine (form_at2 (n1 := n1) (n2 := n2) (HR1.out.keep HB4.out) (HR2.out.keep HB4.out) HF1.out HF2.out HG1.out HG2.out (Below.refl w4.heap.size w4)).mono ?_
  rintro e w5 ⟨rfl, hb5⟩
  have HB5 := Lib.hid (HB4.out.trans (hb5.mono HB4.out.size))
  have HX5 := Lib.hid (HX4.out.keep hb5)
  have HY5 := Lib.hid (HY4.out.keep hb5)
  have HP5 := Lib.hid (HP4.out.keep hb5)
  clear cX4a  cX4b  cX4l  cY4a  cY4b  cY4l  cP4a  cP4b  cP4l  HX4 HY4 HP4 HB4 hb5 
  have cX5a := HX5.out.c0
  have cX5b := HX5.out.c1
  have cX5l := HX5.out.lt
  have cY5a := HY5.out.c0
  have cY5b := HY5.out.c1
  have cY5l := HY5.out.lt
  have cP5a := HP5.out.c0
  have cP5b := HP5.out.c1
  have cP5l := HP5.out.lt
  go_wp2_with fail
  refine (is_bad (.slice none 0 0) false (.slice none 0 0) 3 w5 (.inl ⟨none, rfl, rfl⟩) (by decide)).mono ?_
  rintro e w6 ⟨rfl, hb6⟩
  have HB6 := Lib.hid (HB5.out.trans (hb6.mono HB5.out.size))
  have HX6 := Lib.hid (HX5.out.keep hb6)
  have HY6 := Lib.hid (HY5.out.keep hb6)
  have HP6 := Lib.hid (HP5.out.keep hb6)
  clear cX5a  cX5b  cX5l  cY5a  cY5b  cY5l  cP5a  cP5b  cP5l  HX5 HY5 HP5 HB5 hb6 
  have cX6a := HX6.out.c0
  have cX6b := HX6.out.c1
  have cX6l := HX6.out.lt
  have cY6a := HY6.out.c0
  have cY6b := HY6.out.c1
  have cY6l := HY6.out.lt
  have cP6a := HP6.out.c0
  have cP6b := HP6.out.c1
  have cP6l := HP6.out.lt
  go_wp2_with fail
  go_ret
  exact ⟨rfl, HB6.out⟩
set_option maxRecDepth 100000 in
set_option maxHeartbeats 16000000 in
theorem powers_good (n1 : Bool) (u1 : Value) (xs : List Int) (n2 : Bool) (u2 : Value) (ys : List Int)  (w : World) (hr1 : Rd w u1 xs) (hf1 : Fit xs) (hr2 : Rd w u2 ys) (hf2 : Fit ys) (hg1 : goodB n1 xs = true) (hg2 : goodB n2 ys = true) :
    Calls Tryd.prog 8 #[.agg #[.bool n1, u1], .agg #[.bool n2, u2]] w (BoolPost w true) := by
  have HR1 := Lib.hid hr1
  have HF1 := Lib.hid hf1
  have HR2 := Lib.hid hr2
  have HF2 := Lib.hid hf2
  have HG1 := Lib.hid hg1
  have HS1 := Lib.hid (goodB_sgn hg1 hf1)
  have HG2 := Lib.hid hg2
  have HS2 := Lib.hid (goodB_sgn hg2 hf2)
  clear hg1 hg2
  clear hr1 hf1 hr2 hf2
  go_enter Tryd.func8, Tryd.ntmps8
  go_wp2_with fail
  generalize hw1 : World.alloc (World.alloc w _) _ = w1
  have HB1 := Lib.hid (show Below w.heap.size w w1 by rw [← hw1]; exact (((Below.refl _ _).alloc (by first | exact Nat.le_refl _ | (simp; done) | (simp; omega)) _).alloc (by first | exact Nat.le_refl _ | (simp; done) | (simp; omega)) _))
  have HX1 := Lib.hid (show Box2 w1 (w.heap.size) (.bool n1) u1 by rw [← hw1]; exact (Box2.new _ _ _ _ rfl).alloc _)
  have HY1 := Lib.hid (show Box2 w1 (w.heap.size + 1) (.bool n2) u2 by rw [← hw1]; exact (Box2.new _ _ _ _ (by simp)))
  clear hw1
  have cX1a := HX1.out.c0
  have cX1b := HX1.out.c1
  have cX1l := HX1.out.lt
  have cY1a := HY1.out.c0
  have cY1b := HY1.out.c1
  have cY1l := HY1.out.lt
  refine (known_true w1).mono ?_
  rintro e w2 ⟨rfl, hb2⟩
  have HB2 := Lib.hid (HB1.out.trans (hb2.mono HB1.out.size))
  have HX2 := Lib.hid (HX1.out.keep hb2)
  have HY2 := Lib.hid (HY1.out.keep hb2)
  clear cX1a  cX1b  cX1l  cY1a  cY1b  cY1l  HX1 HY1 HB1 hb2 
  have cX2a := HX2.out.c0
  have cX2b := HX2.out.c1
  have cX2l := HX2.out.lt
  have cY2a := HY2.out.c0
  have cY2b := HY2.out.c1
  have cY2l := HY2.out.lt
  go_wp2_with fail
  refine (pow_good n1 u1 xs _ n2 u2 ys _ w2 (HR1.out.keep HB2.out) (HR2.out.keep HB2.out) HS1.out.1 HS2.out.1 HS1.out.2 HS2.out.2).mono ?_
  rintro e w3 ⟨np, up, lp, ep, rfl, hMp, hb3, hCp⟩
  obtain ⟨pp, cp, rfl⟩ := MU.form hMp
  have HCp := Lib.hid hCp
  have RWp3 := Lib.hid (show Rd w3 (.slice pp lp.length cp) lp from hMp.rd (pow_len hCp))
  clear hMp hCp
  have HB3 := Lib.hid (HB2.out.trans (hb3.mono HB2.out.size))
  have HX3 := Lib.hid (HX2.out.keep hb3)
  have HY3 := Lib.hid (HY2.out.keep hb3)
  clear cX2a  cX2b  cX2l  cY2a  cY2b  cY2l  HX2 HY2 HB2 hb3 
  have cX3a := HX3.out.c0
  have cX3b := HX3.out.c1
  have cX3l := HX3.out.lt
  have cY3a := HY3.out.c0
  have cY3b := HY3.out.c1
  have cY3l := HY3.out.lt
  go_wp2_with fail
  generalize hw4 : World.alloc w3 _ = w4
  have hb4 : Below w3.heap.size w3 w4 := by rw [← hw4]; exact (Below.refl _ _).alloc (Nat.le_refl _) _
  have HP4 := Lib.hid (show Box2 w4 w3.heap.size (.bool np) (.slice pp lp.length cp) by rw [← hw4]; exact Box2.new _ _ _ _ rfl)
  have HB4 := Lib.hid (HB3.out.trans (hb4.mono HB3.out.size))
  have HX4 := Lib.hid (HX3.out.keep hb4)
  have HY4 := Lib.hid (HY3.out.keep hb4)
  have RWp4 := Lib.hid (RWp3.out.keep hb4)
  clear cX3a  cX3b  cX3l  cY3a  cY3b  cY3l  HX3 HY3 RWp3 HB3 hb4 hw4
  have cX4a := HX4.out.c0
  have cX4b := HX4.out.c1
  have cX4l := HX4.out.lt
  have cY4a := HY4.out.c0
  have cY4b := HY4.out.c1
  have cY4l := HY4.out.lt
  have cP4a := HP4.out.c0
  have cP4b := HP4.out.c1
  have cP4l := HP4.out.lt
  refine (form_at (n1 := n1) (n2 := n2) (HR1.out.keep HB4.out) (HR2.out.keep HB4.out) HF1.out HF2.out HG1.out HG2.out (Below.refl w4.heap.size w4)).mono ?_
  rintro e w5 ⟨rfl, hb5⟩
  have HB5 := Lib.hid (HB4.out.trans (hb5.mono HB4.out.size))
  have HX5 := Lib.hid (HX4.out.keep hb5)
  have HY5 := Lib.hid (HY4.out.keep hb5)
  have HP5 := Lib.hid (HP4.out.keep hb5)
  have RWp5 := Lib.hid (RWp4.out.keep hb5)
  clear cX4a  cX4b  cX4l  cY4a  cY4b  cY4l  cP4a  cP4b  cP4l  HX4 HY4 HP4 RWp4 HB4 hb5 
  have cX5a := HX5.out.c0
  have cX5b := HX5.out.c1
  have cX5l := HX5.out.lt
  have cY5a := HY5.out.c0
  have cY5b := HY5.out.c1
  have cY5l := HY5.out.lt
  have cP5a := HP5.out.c0
  have cP5b := HP5.out.c1
  have cP5l := HP5.out.lt
  go_wp2_with fail
  have HSM1 := Lib.hid (sgn_small HS1.out.1 HS1.out.2)
  have HSM2 := Lib.hid (sgn_small HS2.out.1 HS2.out.2)
  have HOF1 := Lib.hid (fun (wx : World) (hx : Below w5.heap.size w5 wx) => of_at (HR1.out.keep HB5.out) HS1.out.1 (Nat.le_trans HS1.out.2 (by omega)) wx hx)
  have HOF2 := Lib.hid (fun (wx : World) (hx : Below w5.heap.size w5 wx) => of_at (HR2.out.keep HB5.out) HS2.out.1 (Nat.le_trans HS2.out.2 (by omega)) wx hx)
  go_cut [7, 8] (fun fv a wx => ∃ e3 b3 m3 p3 c3 d3, fv = .int .i64 e3 ∧ a = .pointer (some ⟨b3, 0, none⟩) ∧ N2 w5 wx b3 m3 p3 c3 d3 (RefPowCase (sg n1 (val B18 xs)) (sg n2 (val B18 ys)) m3 d3 e3))
  case first =>
    go_region_held3 (fun w' => w'.cell? ⟨w.heap.size, 0, none⟩ = some (.bool n1) ∧ w'.cell? ⟨w.heap.size, 1, none⟩ = some (u1) ∧ w'.cell? ⟨w.heap.size + 1, 0, none⟩ = some (.bool n2) ∧ w'.cell? ⟨w.heap.size + 1, 1, none⟩ = some (u2))
      ((repeat' apply And.intro) <;> (repeat' (first | with_reducible assumption | with_reducible refine alloc_cell ?_ _ | (with_reducible refine cell_set2 ?_ ?_ _ _; · omega) | with_reducible refine drew_cell ?_)))
      (first
       | (go_at_call 22; (with_reducible refine (HOF1.out _ (by ((repeat' (first | with_reducible assumption | with_reducible exact Below.refl _ _ | with_reducible refine Below.drew ?_ | with_reducible refine Below.alloc ?_ (by first | omega | (simp; omega) | (simp; done) | fail) _ | with_reducible refine Below.setCell ?_ (by first | omega | (simp; omega) | (simp; done) | fail) _ | fail)); (first | done | fail)))).mono ?_); rintro e v1 ⟨m1, p1, c1, d1, rfl, hRb1, hSb1, hb1, hx1⟩; have kX0_1 := below_cell hb1 cX5a; have kX1_1 := below_cell hb1 cX5b; have kY0_1 := below_cell hb1 cY5a; have kY1_1 := below_cell hb1 cY5b; have z1 := hb1.size; (try (have hBox := Box2.keep (B := w5.heap.size) (a := (.bool false)) (b := (.slice none 0 0)) (by ((repeat' (first | with_reducible assumption | (with_reducible exact Hid.out ‹_›) | (with_reducible refine Box2.put0 _ _ ?_) | (with_reducible refine Box2.new _ _ _ _ ?_; (first | with_reducible rfl | (simp; done) | rfl)) | (with_reducible refine Box2.alloc ?_ _) | (with_reducible refine Box2.drew ?_) | (with_reducible refine Box2.set2 ?hn _ _ ?_; case hn => omega) | fail)); (first | done | fail))) hx1; obtain ⟨_, _, _, _, _, _, _, _⟩ := hBox.all)); have RB1 := Lib.hid hRb1; have SB1 := Lib.hid hSb1; have LB1 := Lib.hid (HSM1.out.len hSb1); clear hx1 hRb1 hSb1)
       | (go_at_call 22; (with_reducible refine (HOF2.out _ (by ((repeat' (first | with_reducible assumption | with_reducible exact Below.refl _ _ | with_reducible refine Below.drew ?_ | with_reducible refine Below.alloc ?_ (by first | omega | (simp; omega) | (simp; done) | fail) _ | with_reducible refine Below.setCell ?_ (by first | omega | (simp; omega) | (simp; done) | fail) _ | fail)); (first | done | fail)))).mono ?_); rintro e v2 ⟨m2, p2, c2, d2, rfl, hRb2, hSb2, hb2, hx2⟩; have kX0_2 := below_cell hb2 cX5a; have kX1_2 := below_cell hb2 cX5b; have kY0_2 := below_cell hb2 cY5a; have kY1_2 := below_cell hb2 cY5b; have z2 := hb2.size; (try (have hBox := Box2.keep (B := w5.heap.size) (a := (.bool false)) (b := (.slice none 0 0)) (by ((repeat' (first | with_reducible assumption | (with_reducible exact Hid.out ‹_›) | (with_reducible refine Box2.put0 _ _ ?_) | (with_reducible refine Box2.new _ _ _ _ ?_; (first | with_reducible rfl | (simp; done) | rfl)) | (with_reducible refine Box2.alloc ?_ _) | (with_reducible refine Box2.drew ?_) | (with_reducible refine Box2.set2 ?hn _ _ ?_; case hn => omega) | fail)); (first | done | fail))) hx2; obtain ⟨_, _, _, _, _, _, _, _⟩ := hBox.all)); (try (have hBox := Box2.keep (B := v1.heap.size) (a := (.bool false)) (b := (.slice none 0 0)) (by ((repeat' (first | with_reducible assumption | (with_reducible exact Hid.out ‹_›) | (with_reducible refine Box2.put0 _ _ ?_) | (with_reducible refine Box2.new _ _ _ _ ?_; (first | with_reducible rfl | (simp; done) | rfl)) | (with_reducible refine Box2.alloc ?_ _) | (with_reducible refine Box2.drew ?_) | (with_reducible refine Box2.set2 ?hn _ _ ?_; case hn => omega) | fail)); (first | done | fail))) hx2; obtain ⟨_, _, _, _, _, _, _, _⟩ := hBox.all)); have RB1b := Lib.hid (Rb.keep (show Rb _ (.slice p1 d1.length c1) d1 by ((repeat' (first | with_reducible exact RB1.out | with_reducible refine Rb.alloc ?_ _ | with_reducible refine Rb.drew ?_ | (with_reducible refine Rb.put2 ?hb _ _ ?_; case hb => ((repeat' (first | with_reducible assumption | (with_reducible exact Hid.out ‹_›) | (with_reducible refine Box2.put0 _ _ ?_) | (with_reducible refine Box2.new _ _ _ _ ?_; (first | with_reducible rfl | (simp; done) | rfl)) | (with_reducible refine Box2.alloc ?_ _) | (with_reducible refine Box2.drew ?_) | (with_reducible refine Box2.set2 ?hn _ _ ?_; case hn => omega) | fail)); (first | done | fail))) | fail)); (first | done | fail))) hx2); have RB2 := Lib.hid hRb2; have SB2 := Lib.hid hSb2; have LB2 := Lib.hid (HSM2.out.len hSb2); clear hx2 hRb2 hSb2)
       | (go_at_call 43; (with_reducible refine (refpow_at (W := w5) (show Rb _ (.slice p1 d1.length c1) d1 by ((repeat' (first | with_reducible exact RB1b.out | with_reducible refine Rb.alloc ?_ _ | with_reducible refine Rb.drew ?_ | (with_reducible refine Rb.put2 ?hb _ _ ?_; case hb => ((repeat' (first | with_reducible assumption | (with_reducible exact Hid.out ‹_›) | (with_reducible refine Box2.put0 _ _ ?_) | (with_reducible refine Box2.new _ _ _ _ ?_; (first | with_reducible rfl | (simp; done) | rfl)) | (with_reducible refine Box2.alloc ?_ _) | (with_reducible refine Box2.drew ?_) | (with_reducible refine Box2.set2 ?hn _ _ ?_; case hn => omega) | fail)); (first | done | fail))) | fail)); (first | done | fail))) (show Rb _ (.slice p2 d2.length c2) d2 by ((repeat' (first | with_reducible exact RB2.out | with_reducible refine Rb.alloc ?_ _ | with_reducible refine Rb.drew ?_ | (with_reducible refine Rb.put2 ?hb _ _ ?_; case hb => ((repeat' (first | with_reducible assumption | (with_reducible exact Hid.out ‹_›) | (with_reducible refine Box2.put0 _ _ ?_) | (with_reducible refine Box2.new _ _ _ _ ?_; (first | with_reducible rfl | (simp; done) | rfl)) | (with_reducible refine Box2.alloc ?_ _) | (with_reducible refine Box2.drew ?_) | (with_reducible refine Box2.set2 ?hn _ _ ?_; case hn => omega) | fail)); (first | done | fail))) | fail)); (first | done | fail))) SB1.out SB2.out LB1.out LB2.out (by ((repeat' (first | with_reducible assumption | with_reducible exact Below.refl _ _ | with_reducible refine Below.drew ?_ | with_reducible refine Below.alloc ?_ (by first | omega | (simp; omega) | (simp; done) | fail) _ | with_reducible refine Below.setCell ?_ (by first | omega | (simp; omega) | (simp; done) | fail) _ | fail)); (first | done | fail)))).mono ?_); rintro e v3 ⟨m3, p3, c3, d3, e3, rfl, hRb3, hSb3, hb3, hx3⟩; have kX0_3 := below_cell hb3 cX5a; have kX1_3 := below_cell hb3 cX5b; have kY0_3 := below_cell hb3 cY5a; have kY1_3 := below_cell hb3 cY5b; have z3 := hb3.size; (try (have hBox := Box2.keep (B := w5.heap.size) (a := (.bool false)) (b := (.slice none 0 0)) (by ((repeat' (first | with_reducible assumption | (with_reducible exact Hid.out ‹_›) | (with_reducible refine Box2.put0 _ _ ?_) | (with_reducible refine Box2.new _ _ _ _ ?_; (first | with_reducible rfl | (simp; done) | rfl)) | (with_reducible refine Box2.alloc ?_ _) | (with_reducible refine Box2.drew ?_) | (with_reducible refine Box2.set2 ?hn _ _ ?_; case hn => omega) | fail)); (first | done | fail))) hx3; obtain ⟨_, _, _, _, _, _, _, _⟩ := hBox.all)); (try (have hBox := Box2.keep (B := v1.heap.size) (a := (.bool false)) (b := (.slice none 0 0)) (by ((repeat' (first | with_reducible assumption | (with_reducible exact Hid.out ‹_›) | (with_reducible refine Box2.put0 _ _ ?_) | (with_reducible refine Box2.new _ _ _ _ ?_; (first | with_reducible rfl | (simp; done) | rfl)) | (with_reducible refine Box2.alloc ?_ _) | (with_reducible refine Box2.drew ?_) | (with_reducible refine Box2.set2 ?hn _ _ ?_; case hn => omega) | fail)); (first | done | fail))) hx3; obtain ⟨_, _, _, _, _, _, _, _⟩ := hBox.all)); (try (have hBox := Box2.keep (B := v2.heap.size) (a := (.bool false)) (b := (.slice none 0 0)) (by ((repeat' (first | with_reducible assumption | (with_reducible exact Hid.out ‹_›) | (with_reducible refine Box2.put0 _ _ ?_) | (with_reducible refine Box2.new _ _ _ _ ?_; (first | with_reducible rfl | (simp; done) | rfl)) | (with_reducible refine Box2.alloc ?_ _) | (with_reducible refine Box2.drew ?_) | (with_reducible refine Box2.set2 ?hn _ _ ?_; case hn => omega) | fail)); (first | done | fail))) hx3; obtain ⟨_, _, _, _, _, _, _, _⟩ := hBox.all)); have RB3 := Lib.hid hRb3; have SB3 := Lib.hid hSb3; clear hx3 hRb3 hSb3))
    all_goals (go_wp2_with fail)
    all_goals go_meet
    all_goals exact ⟨e3, _, m3, p3, c3, d3, rfl, rfl, ⟨by ((repeat' (first | with_reducible assumption | with_reducible exact Below.refl _ _ | with_reducible refine Below.drew ?_ | with_reducible refine Below.alloc ?_ (by first | omega | (simp; omega) | (simp; done) | fail) _ | with_reducible refine Below.setCell ?_ (by first | omega | (simp; omega) | (simp; done) | fail) _ | fail)); (first | done | fail)), by ((repeat' (first | with_reducible assumption | (with_reducible exact Hid.out ‹_›) | (with_reducible refine Box2.put0 _ _ ?_) | (with_reducible refine Box2.new _ _ _ _ ?_; (first | with_reducible rfl | (simp; done) | rfl)) | (with_reducible refine Box2.alloc ?_ _) | (with_reducible refine Box2.drew ?_) | (with_reducible refine Box2.set2 ?hn _ _ ?_; case hn => omega) | fail)); (first | done | fail)), by ((repeat' (first | with_reducible exact RB3.out | with_reducible refine Rb.alloc ?_ _ | with_reducible refine Rb.drew ?_ | (with_reducible refine Rb.put2 ?hb _ _ ?_; case hb => ((repeat' (first | with_reducible assumption | (with_reducible exact Hid.out ‹_›) | (with_reducible refine Box2.put0 _ _ ?_) | (with_reducible refine Box2.new _ _ _ _ ?_; (first | with_reducible rfl | (simp; done) | rfl)) | (with_reducible refine Box2.alloc ?_ _) | (with_reducible refine Box2.drew ?_) | (with_reducible refine Box2.set2 ?hn _ _ ?_; case hn => omega) | fail)); (first | done | fail))) | fail)); (first | done | fail)), SB3.out⟩⟩
  case rest =>
    obtain ⟨e3, b3, m3, p3, c3, d3, rfl, rfl, hN⟩ := hcut
    have HN := Lib.hid hN
    obtain ⟨w9, rfl⟩ : ∃ w9 : World, w9 = wc := ⟨_, rfl⟩
    clear hN HOF1 HOF2
    have HB9 := Lib.hid (HB5.out.trans (HN.out.below.mono HB5.out.size))
    have KP := Lib.hid (HP5.out.keep HN.out.below)
    have KN := Lib.hid HN.out.x1
    have RS := Lib.hid (RWp5.out.keep HN.out.below)
    clear cX5a cX5b cX5l cY5a cY5b cY5l cP5a cP5b cP5l HX5 HY5 HP5 RWp5 HB5
    have kP0 := KP.out.c0
    have kP1 := KP.out.c1
    have kN0 := KN.out.c0
    have kN1 := KN.out.c1
    have CI := Lib.hid (ispow_at RS.out HCp.out HN.out.r1 HN.out.case (Below.refl w9.heap.size w9))
    go_wp2_with fail
    refine CI.out.mono ?_
    rintro e v5 ⟨rfl, hv5⟩
    go_wp2_with fail
    go_ret
    exact ⟨rfl, HB9.out.trans (hv5.mono HB9.out.size)⟩
theorem lawPowers (n1 : Bool) (u1 : Value) (xs : List Int) (n2 : Bool) (u2 : Value) (ys : List Int) (w : World) (hr1 : Rd w u1 xs) (hf1 : Fit xs) (hr2 : Rd w u2 ys) (hf2 : Fit ys) :
    Calls Tryd.prog 8 #[.agg #[.bool n1, u1], .agg #[.bool n2, u2]] w (BoolPost w true) := by
  cases hg1 : goodB n1 xs with
  | false => exact powers_bad1 n1 u1 xs n2 u2 ys w hr1 hf1 hr2 hf2 hg1
  | true =>
    cases hg2 : goodB n2 ys with
    | false => exact powers_bad2 n1 u1 xs n2 u2 ys w hr1 hf1 hr2 hf2 hg1 hg2
    | true => exact powers_good n1 u1 xs n2 u2 ys w hr1 hf1 hr2 hf2 hg1 hg2
end Go.Proofs.YtapeomcnjjfihaaDoor
