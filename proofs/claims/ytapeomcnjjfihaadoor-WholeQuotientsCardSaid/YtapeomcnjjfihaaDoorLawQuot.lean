/- Layer 2: the law WholeQuotients, walked. -/
import Derived.Test.YtapeomcnjjfihaaDoorLawEuclid
import Derived.Test.YtapeomcnjjfihaaDoorWRefDiv
import Derived.Deep.DeepCutAuto
namespace Go.Proofs.YtapeomcnjjfihaaDoor
open Go.ChangeShapes Go.WideShapes Go.ChangeAt Go.RowKit
set_option linter.unusedVariables false
set_option linter.unusedSimpArgs false
def Num2At (W wx : World) (zq zr : Int) (e : Ending) (w' : World) : Prop :=
  ∃ m3 p3 c3 d3 m4 p4 c4 d4, e = .returned (.tuple #[.agg #[.bool m3, .slice p3 (List.length d3) c3], .agg #[.bool m4, .slice p4 (List.length d4) c4]]) ∧ Rb w' (.slice p3 d3.length c3) d3 ∧ Rb w' (.slice p4 d4.length c4) d4 ∧
    Sgn 10 m3 d3 zq ∧ Sgn 10 m4 d4 zr ∧ Below W.heap.size W w' ∧ Below wx.heap.size wx w'
theorem refdiv_at {W wx : World} {n1 : Bool} {u1 : Value} {xs : List Int} {z1 : Int} {n2 : Bool} {u2 : Value} {ys : List Int} {z2 zq zr : Int} (hr1 : Rb wx u1 xs) (hr2 : Rb wx u2 ys) (hs1 : Sgn 10 n1 xs z1) (hs2 : Sgn 10 n2 ys z2) (hl1 : xs.length ≤ 1000) (hl2 : ys.length ≤ 1000) (hy : 0 < ys.length)
    (he : z1 = zq * z2 + zr) (hb : (0 ≤ zr ∧ zr < z2) ∨ (z2 < zr ∧ zr ≤ 0)) (hx : Below W.heap.size W wx) :
    Calls Tryd.prog 41 #[.agg #[.bool n1, u1], .agg #[.bool n2, u2]] wx (Num2At W wx zq zr) := by
  refine (refdiv_any n1 u1 xs z1 n2 u2 ys z2 wx hr1 hr2 hs1 hs2 (by omega) (by omega) hy).mono ?_
  rintro e w' ⟨nq, uq, qs, zq', nr, ur, rs, zr', rfl, h1, h2, h3, h4, h5, h6, h7⟩
  obtain ⟨p3, c3, rfl, _⟩ := rb_form h1
  obtain ⟨p4, c4, rfl, _⟩ := rb_form h2
  obtain ⟨rfl, rfl⟩ := div_uniq (h5.symm.trans he) h6 hb
  exact ⟨nq, p3, c3, qs, nr, p4, c4, rs, rfl, h1, h2, h3, h4, hx.trans (h7.mono hx.size), h7⟩
theorem div_pos_len {n m : Bool} {ys ds : List Int} {z : Int} (h : Sgn B18 n ys z) (hl : 0 < ys.length) (g : Sgn 10 m ds z) : 0 < ds.length := by
  have h1 := h.empty (by decide)
  have h2 := g.empty (by decide)
  refine Nat.pos_of_ne_zero fun e => ?_
  have := h1.2 (h2.1 e)
  omega
theorem is_at0 {W wx : World} {nx : Bool} {ux : Value} {xs : List Int} {nn : Bool} {un : Value} {ds : List Int} {z : Int} (hrx : Rd W ux xs) (hs : Sgn B18 nx xs z) (hz : Small z) (hrn : Rb W un ds) (hsn : Sgn 10 nn ds z) (hx : Below W.heap.size W wx) :
    Calls Tryd.prog 25 #[.agg #[.bool nx, ux], .int .i64 0, .agg #[.bool nn, un], .int .i64 0] wx (At W (.bool true)) := by
  have hl := hz.len hsn
  have h := is_at (er := 0) hrx (.inl ⟨hz, rfl, hs⟩) hrn hsn (by omega) hx
  rwa [show fitN ds = 0 by unfold fitN; rw [if_pos (by omega)]] at h
set_option maxRecDepth 100000 in
set_option maxHeartbeats 16000000 in
theorem quot_bad1 (n1 : Bool) (u1 : Value) (xs : List Int) (n2 : Bool) (u2 : Value) (ys : List Int)  (w : World) (hr1 : Rd w u1 xs) (hf1 : Fit xs) (hr2 : Rd w u2 ys) (hf2 : Fit ys) (hg1 : goodB n1 xs = false) :
    Calls Tryd.prog 7 #[.agg #[.bool n1, u1], .agg #[.bool n2, u2]] w (BoolPost w true) := by
  have HR1 := Lib.hid hr1
  have HF1 := Lib.hid hf1
  have HR2 := Lib.hid hr2
  have HF2 := Lib.hid hf2
  have HG1 := Lib.hid hg1
  clear hg1
  clear hr1 hf1 hr2 hf2
  go_enter Tryd.func7, Tryd.ntmps7
  go_wp2_with fail
  generalize hw1 : World.alloc (World.alloc w _) _ = w1
  have HB1 := Lib.hid (show Below w.heap.size w w1 by rw [← hw1]; exact (((Below.refl _ _).alloc (by first | exact Nat.le_refl _ | (simp; done) | (simp; omega)) _).alloc (by first | exact Nat.le_refl _ | (simp; done) | (simp; omega)) _))
  have HX1 := Lib.hid (show Box2 w1 (w.heap.size) (.bool n1) u1 by rw [← hw1]; exact (Box2.new _ _ _ _ rfl).alloc _)
  have HY1 := Lib.hid (show Box2 w1 (w.heap.size + 1) (.bool n2) u2 by rw [← hw1]; exact (Box2.new _ _ _ _ (by simp)))
  clear hw1
  have cX1a := HX1.out.c0
  have cX1b := HX1.out.c1
  have cX1l := HX1.out.lt
  have cY1a := HY1.out.c0
  have cY1b := HY1.out.c1
  have cY1l := HY1.out.lt
  refine (known_true w1).mono ?_
  rintro e w2 ⟨rfl, hb2⟩
  have HB2 := Lib.hid (HB1.out.trans (hb2.mono HB1.out.size))
  have HX2 := Lib.hid (HX1.out.keep hb2)
  have HY2 := Lib.hid (HY1.out.keep hb2)
  clear cX1a  cX1b  cX1l  cY1a  cY1b  cY1l  HX1 HY1 HB1 hb2 
  have cX2a := HX2.out.c0
  have cX2b := HX2.out.c1
  have cX2l := HX2.out.lt
  have cY2a := HY2.out.c0
  have cY2b := HY2.out.c1
  have cY2l := HY2.out.lt
  go_wp2_with fail
  refine (div_bad1 n1 u1 xs n2 u2 ys w2 (HR1.out.keep HB2.out) HF1.out (HR2.out.keep HB2.out) HF2.out HG1.out).mono ?_
  rintro e w3 ⟨rfl, hb3⟩
  have HB3 := Lib.hid (HB2.out.trans (hb3.mono HB2.out.size))
  have HX3 := Lib.hid (HX2.out.keep hb3)
  have HY3 := Lib.hid (HY2.out.keep hb3)
  clear cX2a  cX2b  cX2l  cY2a  cY2b  cY2l  HX2 HY2 HB2 hb3 
  have cX3a := HX3.out.c0
  have cX3b := HX3.out.c1
  have cX3l := HX3.out.lt
  have cY3a := HY3.out.c0
  have cY3b := HY3.out.c1
  have cY3l := HY3.out.lt
  go_wp2_with fail
  generalize hw4 : World.alloc (World.alloc w3 _) _ = w4
  have hb4 : Below w3.heap.size w3 w4 := by rw [← hw4]; exact ((Below.refl _ _).alloc (Nat.le_refl _) _).alloc (by simp) _
  have HQ4 := Lib.hid (show Box2 w4 w3.heap.size (.bool false) (.slice none 0 0) by rw [← hw4]; exact (Box2.new _ _ _ _ rfl).alloc _)
  have HR4x := Lib.hid (show Box2 w4 (w3.heap.size + 1) (.bool false) (.slice none 0 0) by rw [← hw4]; exact Box2.new _ _ _ _ (by simp))
  have HB4 := Lib.hid (HB3.out.trans (hb4.mono HB3.out.size))
  have HX4 := Lib.hid (HX3.out.keep hb4)
  have HY4 := Lib.hid (HY3.out.keep hb4)
  clear cX3a  cX3b  cX3l  cY3a  cY3b  cY3l  HX3 HY3 HB3 hb4 hw4
  have cX4a := HX4.out.c0
  have cX4b := HX4.out.c1
  have cX4l := HX4.out.lt
  have cY4a := HY4.out.c0
  have cY4b := HY4.out.c1
  have cY4l := HY4.out.lt
  have HE4 := HR4x
  clear HR4x
  have cQ4a := HQ4.out.c0
  have cQ4b := HQ4.out.c1
  have cQ4l := HQ4.out.lt
  have cE4a := HE4.out.c0
  have cE4b := HE4.out.c1
  have cE4l := HE4.out.lt
  refine (show Calls _ _ _ _ (At w4 (.int .i64 3)) from form_at1 (HR1.out.keep HB4.out) (HR2.out.keep HB4.out) HF1.out HF2.out HG1.out (Below.refl _ _)).mono ?_
  rintro e w5 ⟨rfl, hb5⟩
  have HB5 := Lib.hid (HB4.out.trans (hb5.mono HB4.out.size))
  have HX5 := Lib.hid (HX4.out.keep hb5)
  have HY5 := Lib.hid (HY4.out.keep hb5)
  have HQ5 := Lib.hid (HQ4.out.keep hb5)
  have HE5 := Lib.hid (HE4.out.keep hb5)
  clear cX4a  cX4b  cX4l  cY4a  cY4b  cY4l  cQ4a  cQ4b  cQ4l  cE4a  cE4b  cE4l  HX4 HY4 HQ4 HE4 HB4 hb5 
  have cX5a := HX5.out.c0
  have cX5b := HX5.out.c1
  have cX5l := HX5.out.lt
  have cY5a := HY5.out.c0
  have cY5b := HY5.out.c1
  have cY5l := HY5.out.lt
  have cQ5a := HQ5.out.c0
  have cQ5b := HQ5.out.c1
  have cQ5l := HQ5.out.lt
  have cE5a := HE5.out.c0
  have cE5b := HE5.out.c1
  have cE5l := HE5.out.lt
  go_wp2_with fail
  refine (is_bad (.slice none 0 0) false (.slice none 0 0) 3 w5 (.inl ⟨none, rfl, rfl⟩) (by decide)).mono ?_
  rintro e w6 ⟨rfl, hb6⟩
  have HB6 := Lib.hid (HB5.out.trans (hb6.mono HB5.out.size))
  have HX6 := Lib.hid (HX5.out.keep hb6)
  have HY6 := Lib.hid (HY5.out.keep hb6)
  have HQ6 := Lib.hid (HQ5.out.keep hb6)
  have HE6 := Lib.hid (HE5.out.keep hb6)
  clear cX5a  cX5b  cX5l  cY5a  cY5b  cY5l  cQ5a  cQ5b  cQ5l  cE5a  cE5b  cE5l  HX5 HY5 HQ5 HE5 HB5 hb6 
  have cX6a := HX6.out.c0
  have cX6b := HX6.out.c1
  have cX6l := HX6.out.lt
  have cY6a := HY6.out.c0
  have cY6b := HY6.out.c1
  have cY6l := HY6.out.lt
  have cQ6a := HQ6.out.c0
  have cQ6b := HQ6.out.c1
  have cQ6l := HQ6.out.lt
  have cE6a := HE6.out.c0
  have cE6b := HE6.out.c1
  have cE6l := HE6.out.lt
  go_wp2_with fail
  refine (is_bad (.slice none 0 0) false (.slice none 0 0) 3 w6 (.inl ⟨none, rfl, rfl⟩) (by decide)).mono ?_
  rintro e w7 ⟨rfl, hb7⟩
  have HB7 := Lib.hid (HB6.out.trans (hb7.mono HB6.out.size))
  have HX7 := Lib.hid (HX6.out.keep hb7)
  have HY7 := Lib.hid (HY6.out.keep hb7)
  have HQ7 := Lib.hid (HQ6.out.keep hb7)
  have HE7 := Lib.hid (HE6.out.keep hb7)
  clear cX6a  cX6b  cX6l  cY6a  cY6b  cY6l  cQ6a  cQ6b  cQ6l  cE6a  cE6b  cE6l  HX6 HY6 HQ6 HE6 HB6 hb7 
  have cX7a := HX7.out.c0
  have cX7b := HX7.out.c1
  have cX7l := HX7.out.lt
  have cY7a := HY7.out.c0
  have cY7b := HY7.out.c1
  have cY7l := HY7.out.lt
  have cQ7a := HQ7.out.c0
  have cQ7b := HQ7.out.c1
  have cQ7l := HQ7.out.lt
  have cE7a := HE7.out.c0
  have cE7b := HE7.out.c1
  have cE7l := HE7.out.lt
  go_wp2_with fail
  go_ret
  exact ⟨rfl, HB7.out⟩
set_option maxRecDepth 100000 in
set_option maxHeartbeats 16000000 in
theorem quot_bad2 (n1 : Bool) (u1 : Value) (xs : List Int) (n2 : Bool) (u2 : Value) (ys : List Int)  (w : World) (hr1 : Rd w u1 xs) (hf1 : Fit xs) (hr2 : Rd w u2 ys) (hf2 : Fit ys) (hg1 : goodB n1 xs = true) (hg2 : goodB n2 ys = false) :
    Calls Tryd.prog 7 #[.agg #[.bool n1, u1], .agg #[.bool n2, u2]] w (BoolPost w true) := by
  have HR1 := Lib.hid hr1
  have HF1 := Lib.hid hf1
  have HR2 := Lib.hid hr2
  have HF2 := Lib.hid hf2
  have HG1 := Lib.hid hg1
  clear hg1
  have HG2 := Lib.hid hg2
  clear hg2
  clear hr1 hf1 hr2 hf2
  go_enter Tryd.func7, Tryd.ntmps7
  go_wp2_with fail
  generalize hw1 : World.alloc (World.alloc w _) _ = w1
  have HB1 := Lib.hid (show Below w.heap.size w w1 by rw [← hw1]; exact (((Below.refl _ _).alloc (by first | exact Nat.le_refl _ | (simp; done) | (simp; omega)) _).alloc (by first | exact Nat.le_refl _ | (simp; done) | (simp; omega)) _))
  have HX1 := Lib.hid (show Box2 w1 (w.heap.size) (.bool n1) u1 by rw [← hw1]; exact (Box2.new _ _ _ _ rfl).alloc _)
  have HY1 := Lib.hid (show Box2 w1 (w.heap.size + 1) (.bool n2) u2 by rw [← hw1]; exact (Box2.new _ _ _ _ (by simp)))
  clear hw1
  have cX1a := HX1.out.c0
  have cX1b := HX1.out.c1
  have cX1l := HX1.out.lt
  have cY1a := HY1.out.c0
  have cY1b := HY1.out.c1
  have cY1l := HY1.out.lt
  refine (known_true w1).mono ?_
  rintro e w2 ⟨rfl, hb2⟩
  have HB2 := Lib.hid (HB1.out.trans (hb2.mono HB1.out.size))
  have HX2 := Lib.hid (HX1.out.keep hb2)
  have HY2 := Lib.hid (HY1.out.keep hb2)
  clear cX1a  cX1b  cX1l  cY1a  cY1b  cY1l  HX1 HY1 HB1 hb2 
  have cX2a := HX2.out.c0
  have cX2b := HX2.out.c1
  have cX2l := HX2.out.lt
  have cY2a := HY2.out.c0
  have cY2b := HY2.out.c1
  have cY2l := HY2.out.lt
  go_wp2_with fail
  refine (div_bad2 n1 u1 xs n2 u2 ys w2 (HR1.out.keep HB2.out) HF1.out (HR2.out.keep HB2.out) HF2.out HG1.out HG2.out).mono ?_
  rintro e w3 ⟨rfl, hb3⟩
  have HB3 := Lib.hid (HB2.out.trans (hb3.mono HB2.out.size))
  have HX3 := Lib.hid (HX2.out.keep hb3)
  have HY3 := Lib.hid (HY2.out.keep hb3)
  clear cX2a  cX2b  cX2l  cY2a  cY2b  cY2l  HX2 HY2 HB2 hb3 
  have cX3a := HX3.out.c0
  have cX3b := HX3.out.c1
  have cX3l := HX3.out.lt
  have cY3a := HY3.out.c0
  have cY3b := HY3.out.c1
  have cY3l := HY3.out.lt
  go_wp2_with fail
  generalize hw4 : World.alloc (World.alloc w3 _) _ = w4
  have hb4 : Below w3.heap.size w3 w4 := by rw [← hw4]; exact ((Below.refl _ _).alloc (Nat.le_refl _) _).alloc (by simp) _
  have HQ4 := Lib.hid (show Box2 w4 w3.heap.size (.bool false) (.slice none 0 0) by rw [← hw4]; exact (Box2.new _ _ _ _ rfl).alloc _)
  have HR4x := Lib.hid (show Box2 w4 (w3.heap.size + 1) (.bool false) (.slice none 0 0) by rw [← hw4]; exact Box2.new _ _ _ _ (by simp))
  have HB4 := Lib.hid (HB3.out.trans (hb4.mono HB3.out.size))
  have HX4 := Lib.hid (HX3.out.keep hb4)
  have HY4 := Lib.hid (HY3.out.keep hb4)
  clear cX3a  cX3b  cX3l  cY3a  cY3b  cY3l  HX3 HY3 HB3 hb4 hw4
  have cX4a := HX4.out.c0
  have cX4b := HX4.out.c1
  have cX4l := HX4.out.lt
  have cY4a := HY4.out.c0
  have cY4b := HY4.out.c1
  have cY4l := HY4.out.lt
  have HE4 := HR4x
  clear HR4x
  have cQ4a := HQ4.out.c0
  have cQ4b := HQ4.out.c1
  have cQ4l := HQ4.out.lt
  have cE4a := HE4.out.c0
  have cE4b := HE4.out.c1
  have cE4l := HE4.out.lt
  refine (show Calls _ _ _ _ (At w4 (.int .i64 3)) from form_at2 (HR1.out.keep HB4.out) (HR2.out.keep HB4.out) HF1.out HF2.out HG1.out HG2.out (Below.refl _ _)).mono ?_
  rintro e w5 ⟨rfl, hb5⟩
  have HB5 := Lib.hid (HB4.out.trans (hb5.mono HB4.out.size))
  have HX5 := Lib.hid (HX4.out.keep hb5)
  have HY5 := Lib.hid (HY4.out.keep hb5)
  have HQ5 := Lib.hid (HQ4.out.keep hb5)
  have HE5 := Lib.hid (HE4.out.keep hb5)
  clear cX4a  cX4b  cX4l  cY4a  cY4b  cY4l  cQ4a  cQ4b  cQ4l  cE4a  cE4b  cE4l  HX4 HY4 HQ4 HE4 HB4 hb5 
  have cX5a := HX5.out.c0
  have cX5b := HX5.out.c1
  have cX5l := HX5.out.lt
  have cY5a := HY5.out.c0
  have cY5b := HY5.out.c1
  have cY5l := HY5.out.lt
  have cQ5a := HQ5.out.c0
  have cQ5b := HQ5.out.c1
  have cQ5l := HQ5.out.lt
  have cE5a := HE5.out.c0
  have cE5b := HE5.out.c1
  have cE5l := HE5.out.lt
  go_wp2_with fail
  refine (is_bad (.slice none 0 0) false (.slice none 0 0) 3 w5 (.inl ⟨none, rfl, rfl⟩) (by decide)).mono ?_
  rintro e w6 ⟨rfl, hb6⟩
  have HB6 := Lib.hid (HB5.out.trans (hb6.mono HB5.out.size))
  have HX6 := Lib.hid (HX5.out.keep hb6)
  have HY6 := Lib.hid (HY5.out.keep hb6)
  have HQ6 := Lib.hid (HQ5.out.keep hb6)
  have HE6 := Lib.hid (HE5.out.keep hb6)
  clear cX5a  cX5b  cX5l  cY5a  cY5b  cY5l  cQ5a  cQ5b  cQ5l  cE5a  cE5b  cE5l  HX5 HY5 HQ5 HE5 HB5 hb6 
  have cX6a := HX6.out.c0
  have cX6b := HX6.out.c1
  have cX6l := HX6.out.lt
  have cY6a := HY6.out.c0
  have cY6b := HY6.out.c1
  have cY6l := HY6.out.lt
  have cQ6a := HQ6.out.c0
  have cQ6b := HQ6.out.c1
  have cQ6l := HQ6.out.lt
  have cE6a := HE6.out.c0
  have cE6b := HE6.out.c1
  have cE6l := HE6.out.lt
  go_wp2_with fail
  refine (is_bad (.slice none 0 0) false (.slice none 0 0) 3 w6 (.inl ⟨none, rfl, rfl⟩) (by decide)).mono ?_
  rintro e w7 ⟨rfl, hb7⟩
  have HB7 := Lib.hid (HB6.out.trans (hb7.mono HB6.out.size))
  have HX7 := Lib.hid (HX6.out.keep hb7)
  have HY7 := Lib.hid (HY6.out.keep hb7)
  have HQ7 := Lib.hid (HQ6.out.keep hb7)
  have HE7 := Lib.hid (HE6.out.keep hb7)
  clear cX6a  cX6b  cX6l  cY6a  cY6b  cY6l  cQ6a  cQ6b  cQ6l  cE6a  cE6b  cE6l  HX6 HY6 HQ6 HE6 HB6 hb7 
  have cX7a := HX7.out.c0
  have cX7b := HX7.out.c1
  have cX7l := HX7.out.lt
  have cY7a := HY7.out.c0
  have cY7b := HY7.out.c1
  have cY7l := HY7.out.lt
  have cQ7a := HQ7.out.c0
  have cQ7b := HQ7.out.c1
  have cQ7l := HQ7.out.lt
  have cE7a := HE7.out.c0
  have cE7b := HE7.out.c1
  have cE7l := HE7.out.lt
  go_wp2_with fail
  go_ret
  exact ⟨rfl, HB7.out⟩
set_option maxRecDepth 100000 in
set_option maxHeartbeats 16000000 in
theorem quot_bad0 (n1 : Bool) (u1 : Value) (xs : List Int) (n2 : Bool) (u2 : Value) (ys : List Int)  (w : World) (hr1 : Rd w u1 xs) (hf1 : Fit xs) (hr2 : Rd w u2 ys) (hf2 : Fit ys) (hg1 : goodB n1 xs = true) (hg2 : goodB n2 ys = true) (hy : ys = []) :
    Calls Tryd.prog 7 #[.agg #[.bool n1, u1], .agg #[.bool n2, u2]] w (BoolPost w true) := by
  have HR1 := Lib.hid hr1
  have HF1 := Lib.hid hf1
  have HR2 := Lib.hid hr2
  have HF2 := Lib.hid hf2
  subst hy
  obtain ⟨p2, c2, rfl, _, _, _⟩ := rd_form hr2
  have HG1 := Lib.hid hg1
  clear hg1
  have HG2 := Lib.hid hg2
  clear hg2
  clear hr1 hf1 hr2 hf2
  go_enter Tryd.func7, Tryd.ntmps7
  go_wp2_with fail
  generalize hw1 : World.alloc (World.alloc w _) _ = w1
  have HB1 := Lib.hid (show Below w.heap.size w w1 by rw [← hw1]; exact (((Below.refl _ _).alloc (by first | exact Nat.le_refl _ | (simp; done) | (simp; omega)) _).alloc (by first | exact Nat.le_refl _ | (simp; done) | (simp; omega)) _))
  have HX1 := Lib.hid (show Box2 w1 (w.heap.size) (.bool n1) u1 by rw [← hw1]; exact (Box2.new _ _ _ _ rfl).alloc _)
  have HY1 := Lib.hid (show Box2 w1 (w.heap.size + 1) (.bool n2) (.slice p2 0 c2) by rw [← hw1]; exact (Box2.new _ _ _ _ (by simp)))
  clear hw1
  have cX1a := HX1.out.c0
  have cX1b := HX1.out.c1
  have cX1l := HX1.out.lt
  have cY1a := HY1.out.c0
  have cY1b := HY1.out.c1
  have cY1l := HY1.out.lt
  refine (known_true w1).mono ?_
  rintro e w2 ⟨rfl, hb2⟩
  have HB2 := Lib.hid (HB1.out.trans (hb2.mono HB1.out.size))
  have HX2 := Lib.hid (HX1.out.keep hb2)
  have HY2 := Lib.hid (HY1.out.keep hb2)
  clear cX1a  cX1b  cX1l  cY1a  cY1b  cY1l  HX1 HY1 HB1 hb2 
  have cX2a := HX2.out.c0
  have cX2b := HX2.out.c1
  have cX2l := HX2.out.lt
  have cY2a := HY2.out.c0
  have cY2b := HY2.out.c1
  have cY2l := HY2.out.lt
  go_wp2_with fail
  refine (div_zero n1 u1 xs n2 (.slice p2 0 c2) [] w2 (HR1.out.keep HB2.out) HF1.out (HR2.out.keep HB2.out) HF2.out HG1.out HG2.out rfl).mono ?_
  rintro e w3 ⟨rfl, hb3⟩
  have HB3 := Lib.hid (HB2.out.trans (hb3.mono HB2.out.size))
  have HX3 := Lib.hid (HX2.out.keep hb3)
  have HY3 := Lib.hid (HY2.out.keep hb3)
  clear cX2a  cX2b  cX2l  cY2a  cY2b  cY2l  HX2 HY2 HB2 hb3 
  have cX3a := HX3.out.c0
  have cX3b := HX3.out.c1
  have cX3l := HX3.out.lt
  have cY3a := HY3.out.c0
  have cY3b := HY3.out.c1
  have cY3l := HY3.out.lt
  go_wp2_with fail
  generalize hw4 : World.alloc (World.alloc w3 _) _ = w4
  have hb4 : Below w3.heap.size w3 w4 := by rw [← hw4]; exact ((Below.refl _ _).alloc (Nat.le_refl _) _).alloc (by simp) _
  have HQ4 := Lib.hid (show Box2 w4 w3.heap.size (.bool false) (.slice none 0 0) by rw [← hw4]; exact (Box2.new _ _ _ _ rfl).alloc _)
  have HR4x := Lib.hid (show Box2 w4 (w3.heap.size + 1) (.bool false) (.slice none 0 0) by rw [← hw4]; exact Box2.new _ _ _ _ (by simp))
  have HB4 := Lib.hid (HB3.out.trans (hb4.mono HB3.out.size))
  have HX4 := Lib.hid (HX3.out.keep hb4)
  have HY4 := Lib.hid (HY3.out.keep hb4)
  clear cX3a  cX3b  cX3l  cY3a  cY3b  cY3l  HX3 HY3 HB3 hb4 hw4
  have cX4a := HX4.out.c0
  have cX4b := HX4.out.c1
  have cX4l := HX4.out.lt
  have cY4a := HY4.out.c0
  have cY4b := HY4.out.c1
  have cY4l := HY4.out.lt
  have HE4 := HR4x
  clear HR4x
  have cQ4a := HQ4.out.c0
  have cQ4b := HQ4.out.c1
  have cQ4l := HQ4.out.lt
  have cE4a := HE4.out.c0
  have cE4b := HE4.out.c1
  have cE4l := HE4.out.lt
  refine (show Calls _ _ _ _ (At w4 (.int .i64 0)) from form_at (HR1.out.keep HB4.out) (HR2.out.keep HB4.out) HF1.out HF2.out HG1.out HG2.out (Below.refl _ _)).mono ?_
  rintro e w5 ⟨rfl, hb5⟩
  have HB5 := Lib.hid (HB4.out.trans (hb5.mono HB4.out.size))
  have HX5 := Lib.hid (HX4.out.keep hb5)
  have HY5 := Lib.hid (HY4.out.keep hb5)
  have HQ5 := Lib.hid (HQ4.out.keep hb5)
  have HE5 := Lib.hid (HE4.out.keep hb5)
  clear cX4a  cX4b  cX4l  cY4a  cY4b  cY4l  cQ4a  cQ4b  cQ4l  cE4a  cE4b  cE4l  HX4 HY4 HQ4 HE4 HB4 hb5 
  have cX5a := HX5.out.c0
  have cX5b := HX5.out.c1
  have cX5l := HX5.out.lt
  have cY5a := HY5.out.c0
  have cY5b := HY5.out.c1
  have cY5l := HY5.out.lt
  have cQ5a := HQ5.out.c0
  have cQ5b := HQ5.out.c1
  have cQ5l := HQ5.out.lt
  have cE5a := HE5.out.c0
  have cE5b := HE5.out.c1
  have cE5l := HE5.out.lt
  go_wp2_with fail
  refine (is_bad (.slice none 0 0) false (.slice none 0 0) 6 w5 (.inl ⟨none, rfl, rfl⟩) (by decide)).mono ?_
  rintro e w6 ⟨rfl, hb6⟩
  have HB6 := Lib.hid (HB5.out.trans (hb6.mono HB5.out.size))
  have HX6 := Lib.hid (HX5.out.keep hb6)
  have HY6 := Lib.hid (HY5.out.keep hb6)
  have HQ6 := Lib.hid (HQ5.out.keep hb6)
  have HE6 := Lib.hid (HE5.out.keep hb6)
  clear cX5a  cX5b  cX5l  cY5a  cY5b  cY5l  cQ5a  cQ5b  cQ5l  cE5a  cE5b  cE5l  HX5 HY5 HQ5 HE5 HB5 hb6 
  have cX6a := HX6.out.c0
  have cX6b := HX6.out.c1
  have cX6l := HX6.out.lt
  have cY6a := HY6.out.c0
  have cY6b := HY6.out.c1
  have cY6l := HY6.out.lt
  have cQ6a := HQ6.out.c0
  have cQ6b := HQ6.out.c1
  have cQ6l := HQ6.out.lt
  have cE6a := HE6.out.c0
  have cE6b := HE6.out.c1
  have cE6l := HE6.out.lt
  go_wp2_with fail
  refine (is_bad (.slice none 0 0) false (.slice none 0 0) 6 w6 (.inl ⟨none, rfl, rfl⟩) (by decide)).mono ?_
  rintro e w7 ⟨rfl, hb7⟩
  have HB7 := Lib.hid (HB6.out.trans (hb7.mono HB6.out.size))
  have HX7 := Lib.hid (HX6.out.keep hb7)
  have HY7 := Lib.hid (HY6.out.keep hb7)
  have HQ7 := Lib.hid (HQ6.out.keep hb7)
  have HE7 := Lib.hid (HE6.out.keep hb7)
  clear cX6a  cX6b  cX6l  cY6a  cY6b  cY6l  cQ6a  cQ6b  cQ6l  cE6a  cE6b  cE6l  HX6 HY6 HQ6 HE6 HB6 hb7 
  have cX7a := HX7.out.c0
  have cX7b := HX7.out.c1
  have cX7l := HX7.out.lt
  have cY7a := HY7.out.c0
  have cY7b := HY7.out.c1
  have cY7l := HY7.out.lt
  have cQ7a := HQ7.out.c0
  have cQ7b := HQ7.out.c1
  have cQ7l := HQ7.out.lt
  have cE7a := HE7.out.c0
  have cE7b := HE7.out.c1
  have cE7l := HE7.out.lt
  go_wp2_with fail
  go_ret
  exact ⟨rfl, HB7.out⟩
set_option maxRecDepth 100000 in
set_option maxHeartbeats 16000000 in
theorem quot_good (n1 : Bool) (u1 : Value) (xs : List Int) (n2 : Bool) (u2 : Value) (ys : List Int)  (w : World) (hr1 : Rd w u1 xs) (hf1 : Fit xs) (hr2 : Rd w u2 ys) (hf2 : Fit ys) (hg1 : goodB n1 xs = true) (hg2 : goodB n2 ys = true) (hy : 0 < ys.length) :
    Calls Tryd.prog 7 #[.agg #[.bool n1, u1], .agg #[.bool n2, u2]] w (BoolPost w true) := by
  have HR1 := Lib.hid hr1
  have HF1 := Lib.hid hf1
  have HR2 := Lib.hid hr2
  have HF2 := Lib.hid hf2
  obtain ⟨p2, c2, rfl, _, _, _⟩ := rd_form hr2
  have HG1 := Lib.hid hg1
  have HG2 := Lib.hid hg2
  have HS1 := Lib.hid (goodB_sgn hg1 hf1)
  have HS2 := Lib.hid (goodB_sgn hg2 hf2)
  have HY := Lib.hid hy
  have hyz : ((ys.length : Int) == 0) = false := by rw [beq_eq_false_iff_ne]; omega
  clear hg1 hg2 hy
  clear hr1 hf1 hr2 hf2
  go_enter Tryd.func7, Tryd.ntmps7
  go_wp2_with fail
  generalize hw1 : World.alloc (World.alloc w _) _ = w1
  have HB1 := Lib.hid (show Below w.heap.size w w1 by rw [← hw1]; exact (((Below.refl _ _).alloc (by first | exact Nat.le_refl _ | (simp; done) | (simp; omega)) _).alloc (by first | exact Nat.le_refl _ | (simp; done) | (simp; omega)) _))
  have HX1 := Lib.hid (show Box2 w1 (w.heap.size) (.bool n1) u1 by rw [← hw1]; exact (Box2.new _ _ _ _ rfl).alloc _)
  have HY1 := Lib.hid (show Box2 w1 (w.heap.size + 1) (.bool n2) (.slice p2 ys.length c2) by rw [← hw1]; exact (Box2.new _ _ _ _ (by simp)))
  clear hw1
  have cX1a := HX1.out.c0
  have cX1b := HX1.out.c1
  have cX1l := HX1.out.lt
  have cY1a := HY1.out.c0
  have cY1b := HY1.out.c1
  have cY1l := HY1.out.lt
  refine (known_true w1).mono ?_
  rintro e w2 ⟨rfl, hb2⟩
  have HB2 := Lib.hid (HB1.out.trans (hb2.mono HB1.out.size))
  have HX2 := Lib.hid (HX1.out.keep hb2)
  have HY2 := Lib.hid (HY1.out.keep hb2)
  clear cX1a  cX1b  cX1l  cY1a  cY1b  cY1l  HX1 HY1 HB1 hb2 
  have cX2a := HX2.out.c0
  have cX2b := HX2.out.c1
  have cX2l := HX2.out.lt
  have cY2a := HY2.out.c0
  have cY2b := HY2.out.c1
  have cY2l := HY2.out.lt
  go_wp2_with fail
  refine (div_good n1 u1 xs _ n2 (.slice p2 ys.length c2) ys _ w2 (HR1.out.keep HB2.out) (HR2.out.keep HB2.out) HS1.out.1 HS2.out.1 HS1.out.2 HS2.out.2 HY.out).mono ?_
  rintro e w3 ⟨nq, uq, qs, zq, nr, ur, rs, zr, rfl, hMq, hMr, hSq, hSr, heq, hzr, hb3⟩
  have HSQ := Lib.hid hSq
  have HSR := Lib.hid hSr
  have HEQ := Lib.hid heq
  have HZR := Lib.hid hzr
  have HLQ := Lib.hid (quot_len HS1.out.1 HS1.out.2 hSq heq hzr)
  have HLR := Lib.hid (rest_len HS2.out.1 HS2.out.2 hSr hzr)
  obtain ⟨pq, cq, rfl⟩ := MU.form hMq
  obtain ⟨pr, cr, rfl⟩ := MU.form hMr
  have RWq3 := Lib.hid (hMq.rd (by have := HLQ.out; omega))
  have RWr3 := Lib.hid (hMr.rd (by have := HLR.out; omega))
  clear hMq hMr hSq hSr heq hzr
  have HB3 := Lib.hid (HB2.out.trans (hb3.mono HB2.out.size))
  have HX3 := Lib.hid (HX2.out.keep hb3)
  have HY3 := Lib.hid (HY2.out.keep hb3)
  clear cX2a  cX2b  cX2l  cY2a  cY2b  cY2l  HX2 HY2 HB2 hb3 
  have cX3a := HX3.out.c0
  have cX3b := HX3.out.c1
  have cX3l := HX3.out.lt
  have cY3a := HY3.out.c0
  have cY3b := HY3.out.c1
  have cY3l := HY3.out.lt
  go_wp2_with fail
  generalize hw4 : World.alloc (World.alloc w3 _) _ = w4
  have hb4 : Below w3.heap.size w3 w4 := by rw [← hw4]; exact ((Below.refl _ _).alloc (Nat.le_refl _) _).alloc (by simp) _
  have HQ4 := Lib.hid (show Box2 w4 w3.heap.size (.bool nq) (.slice pq qs.length cq) by rw [← hw4]; exact (Box2.new _ _ _ _ rfl).alloc _)
  have HR4x := Lib.hid (show Box2 w4 (w3.heap.size + 1) (.bool nr) (.slice pr rs.length cr) by rw [← hw4]; exact Box2.new _ _ _ _ (by simp))
  have HB4 := Lib.hid (HB3.out.trans (hb4.mono HB3.out.size))
  have HX4 := Lib.hid (HX3.out.keep hb4)
  have HY4 := Lib.hid (HY3.out.keep hb4)
  have RWq4 := Lib.hid (RWq3.out.keep hb4)
  have RWr4 := Lib.hid (RWr3.out.keep hb4)
  clear cX3a  cX3b  cX3l  cY3a  cY3b  cY3l  HX3 HY3 RWq3 RWr3 HB3 hb4 hw4
  have cX4a := HX4.out.c0
  have cX4b := HX4.out.c1
  have cX4l := HX4.out.lt
  have cY4a := HY4.out.c0
  have cY4b := HY4.out.c1
  have cY4l := HY4.out.lt
  have HE4 := HR4x
  clear HR4x
  have cQ4a := HQ4.out.c0
  have cQ4b := HQ4.out.c1
  have cQ4l := HQ4.out.lt
  have cE4a := HE4.out.c0
  have cE4b := HE4.out.c1
  have cE4l := HE4.out.lt
  refine (show Calls _ _ _ _ (At w4 (.int .i64 0)) from form_at (HR1.out.keep HB4.out) (HR2.out.keep HB4.out) HF1.out HF2.out HG1.out HG2.out (Below.refl _ _)).mono ?_
  rintro e w5 ⟨rfl, hb5⟩
  have HB5 := Lib.hid (HB4.out.trans (hb5.mono HB4.out.size))
  have HX5 := Lib.hid (HX4.out.keep hb5)
  have HY5 := Lib.hid (HY4.out.keep hb5)
  have HQ5 := Lib.hid (HQ4.out.keep hb5)
  have HE5 := Lib.hid (HE4.out.keep hb5)
  have RWq5 := Lib.hid (RWq4.out.keep hb5)
  have RWr5 := Lib.hid (RWr4.out.keep hb5)
  clear cX4a  cX4b  cX4l  cY4a  cY4b  cY4l  cQ4a  cQ4b  cQ4l  cE4a  cE4b  cE4l  HX4 HY4 HQ4 HE4 RWq4 RWr4 HB4 hb5 
  have cX5a := HX5.out.c0
  have cX5b := HX5.out.c1
  have cX5l := HX5.out.lt
  have cY5a := HY5.out.c0
  have cY5b := HY5.out.c1
  have cY5l := HY5.out.lt
  have cQ5a := HQ5.out.c0
  have cQ5b := HQ5.out.c1
  have cQ5l := HQ5.out.lt
  have cE5a := HE5.out.c0
  have cE5b := HE5.out.c1
  have cE5l := HE5.out.lt
  go_wp2_with fail
  have HSM1 := Lib.hid (sgn_small HS1.out.1 HS1.out.2)
  have HSM2 := Lib.hid (sgn_small HS2.out.1 HS2.out.2)
  have HOF1 := Lib.hid (fun (wx : World) (hx : Below w5.heap.size w5 wx) => of_at (HR1.out.keep HB5.out) HS1.out.1 (Nat.le_trans HS1.out.2 (by omega)) wx hx)
  have HOF2 := Lib.hid (fun (wx : World) (hx : Below w5.heap.size w5 wx) => of_at (HR2.out.keep HB5.out) HS2.out.1 (Nat.le_trans HS2.out.2 (by omega)) wx hx)
  go_cut [9, 10] (fun a b wx => ∃ b3 b4 m3 p3 c3 d3 m4 p4 c4 d4, a = .pointer (some ⟨b3, 0, none⟩) ∧ b = .pointer (some ⟨b4, 0, none⟩) ∧ NN w5 wx b3 b4 m3 p3 c3 d3 m4 p4 c4 d4 zq zr)
  case first =>
    go_region_held3 (fun w' => w'.cell? ⟨w.heap.size, 0, none⟩ = some (.bool n1) ∧ w'.cell? ⟨w.heap.size, 1, none⟩ = some (u1) ∧ w'.cell? ⟨w.heap.size + 1, 0, none⟩ = some (.bool n2) ∧ w'.cell? ⟨w.heap.size + 1, 1, none⟩ = some ((.slice p2 ys.length c2)))
      ((repeat' apply And.intro) <;> (repeat' (first | with_reducible assumption | with_reducible refine alloc_cell ?_ _ | (with_reducible refine cell_set2 ?_ ?_ _ _; · omega) | with_reducible refine drew_cell ?_)))
      (first
       | (go_at_call 22; (with_reducible refine (HOF1.out _ (by ((repeat' (first | with_reducible assumption | with_reducible exact Below.refl _ _ | with_reducible refine Below.drew ?_ | with_reducible refine Below.alloc ?_ (by first | omega | (simp; omega) | (simp; done) | fail) _ | with_reducible refine Below.setCell ?_ (by first | omega | (simp; omega) | (simp; done) | fail) _ | fail)); (first | done | fail)))).mono ?_); rintro e v1 ⟨m1, p1, c1, d1, rfl, hRb1, hSb1, hb1, hx1⟩; have kX0_1 := below_cell hb1 cX5a; have kX1_1 := below_cell hb1 cX5b; have kY0_1 := below_cell hb1 cY5a; have kY1_1 := below_cell hb1 cY5b; have z1 := hb1.size; (try (have hBox := Box2.keep (B := w5.heap.size) (a := (.bool false)) (b := (.slice none 0 0)) (by ((repeat' (first | with_reducible assumption | (with_reducible exact Hid.out ‹_›) | (with_reducible refine Box2.put0 _ _ ?_) | (with_reducible refine Box2.new _ _ _ _ ?_; (first | with_reducible rfl | (simp; done) | rfl)) | (with_reducible refine Box2.alloc ?_ _) | (with_reducible refine Box2.drew ?_) | (with_reducible refine Box2.set2 ?hn _ _ ?_; case hn => omega) | fail)); (first | done | fail))) hx1; obtain ⟨_, _, _, _, _, _, _, _⟩ := hBox.all)); (try (have hBox := Box2.keep (B := w5.heap.size + 1) (a := (.bool false)) (b := (.slice none 0 0)) (by ((repeat' (first | with_reducible assumption | (with_reducible exact Hid.out ‹_›) | (with_reducible refine Box2.put0 _ _ ?_) | (with_reducible refine Box2.new _ _ _ _ ?_; (first | with_reducible rfl | (simp; done) | rfl)) | (with_reducible refine Box2.alloc ?_ _) | (with_reducible refine Box2.drew ?_) | (with_reducible refine Box2.set2 ?hn _ _ ?_; case hn => omega) | fail)); (first | done | fail))) hx1; obtain ⟨_, _, _, _, _, _, _, _⟩ := hBox.all)); have RB1 := Lib.hid hRb1; have SB1 := Lib.hid hSb1; have LB1 := Lib.hid (HSM1.out.len hSb1); clear hx1 hRb1 hSb1)
       | (go_at_call 22; (with_reducible refine (HOF2.out _ (by ((repeat' (first | with_reducible assumption | with_reducible exact Below.refl _ _ | with_reducible refine Below.drew ?_ | with_reducible refine Below.alloc ?_ (by first | omega | (simp; omega) | (simp; done) | fail) _ | with_reducible refine Below.setCell ?_ (by first | omega | (simp; omega) | (simp; done) | fail) _ | fail)); (first | done | fail)))).mono ?_); rintro e v2 ⟨m2, p2', c2', d2, rfl, hRb2, hSb2, hb2, hx2⟩; have kX0_2 := below_cell hb2 cX5a; have kX1_2 := below_cell hb2 cX5b; have kY0_2 := below_cell hb2 cY5a; have kY1_2 := below_cell hb2 cY5b; have z2 := hb2.size; (try (have hBox := Box2.keep (B := w5.heap.size) (a := (.bool false)) (b := (.slice none 0 0)) (by ((repeat' (first | with_reducible assumption | (with_reducible exact Hid.out ‹_›) | (with_reducible refine Box2.put0 _ _ ?_) | (with_reducible refine Box2.new _ _ _ _ ?_; (first | with_reducible rfl | (simp; done) | rfl)) | (with_reducible refine Box2.alloc ?_ _) | (with_reducible refine Box2.drew ?_) | (with_reducible refine Box2.set2 ?hn _ _ ?_; case hn => omega) | fail)); (first | done | fail))) hx2; obtain ⟨_, _, _, _, _, _, _, _⟩ := hBox.all)); (try (have hBox := Box2.keep (B := w5.heap.size + 1) (a := (.bool false)) (b := (.slice none 0 0)) (by ((repeat' (first | with_reducible assumption | (with_reducible exact Hid.out ‹_›) | (with_reducible refine Box2.put0 _ _ ?_) | (with_reducible refine Box2.new _ _ _ _ ?_; (first | with_reducible rfl | (simp; done) | rfl)) | (with_reducible refine Box2.alloc ?_ _) | (with_reducible refine Box2.drew ?_) | (with_reducible refine Box2.set2 ?hn _ _ ?_; case hn => omega) | fail)); (first | done | fail))) hx2; obtain ⟨_, _, _, _, _, _, _, _⟩ := hBox.all)); (try (have hBox := Box2.keep (B := v1.heap.size) (a := (.bool false)) (b := (.slice none 0 0)) (by ((repeat' (first | with_reducible assumption | (with_reducible exact Hid.out ‹_›) | (with_reducible refine Box2.put0 _ _ ?_) | (with_reducible refine Box2.new _ _ _ _ ?_; (first | with_reducible rfl | (simp; done) | rfl)) | (with_reducible refine Box2.alloc ?_ _) | (with_reducible refine Box2.drew ?_) | (with_reducible refine Box2.set2 ?hn _ _ ?_; case hn => omega) | fail)); (first | done | fail))) hx2; obtain ⟨_, _, _, _, _, _, _, _⟩ := hBox.all)); (try (have hBox := Box2.keep (B := v1.heap.size + 1) (a := (.bool false)) (b := (.slice none 0 0)) (by ((repeat' (first | with_reducible assumption | (with_reducible exact Hid.out ‹_›) | (with_reducible refine Box2.put0 _ _ ?_) | (with_reducible refine Box2.new _ _ _ _ ?_; (first | with_reducible rfl | (simp; done) | rfl)) | (with_reducible refine Box2.alloc ?_ _) | (with_reducible refine Box2.drew ?_) | (with_reducible refine Box2.set2 ?hn _ _ ?_; case hn => omega) | fail)); (first | done | fail))) hx2; obtain ⟨_, _, _, _, _, _, _, _⟩ := hBox.all)); have RB1b := Lib.hid (Rb.keep (show Rb _ (.slice p1 d1.length c1) d1 by ((repeat' (first | with_reducible exact RB1.out | with_reducible refine Rb.alloc ?_ _ | with_reducible refine Rb.drew ?_ | (with_reducible refine Rb.put2 ?hb _ _ ?_; case hb => ((repeat' (first | with_reducible assumption | (with_reducible exact Hid.out ‹_›) | (with_reducible refine Box2.put0 _ _ ?_) | (with_reducible refine Box2.new _ _ _ _ ?_; (first | with_reducible rfl | (simp; done) | rfl)) | (with_reducible refine Box2.alloc ?_ _) | (with_reducible refine Box2.drew ?_) | (with_reducible refine Box2.set2 ?hn _ _ ?_; case hn => omega) | fail)); (first | done | fail))) | fail)); (first | done | fail))) hx2); have RB2 := Lib.hid hRb2; have SB2 := Lib.hid hSb2; have LB2 := Lib.hid (HSM2.out.len hSb2); clear hx2 hRb2 hSb2)
       | (go_at_call 41; (with_reducible refine (refdiv_at (W := w5) (show Rb _ (.slice p1 d1.length c1) d1 by ((repeat' (first | with_reducible exact RB1b.out | with_reducible refine Rb.alloc ?_ _ | with_reducible refine Rb.drew ?_ | (with_reducible refine Rb.put2 ?hb _ _ ?_; case hb => ((repeat' (first | with_reducible assumption | (with_reducible exact Hid.out ‹_›) | (with_reducible refine Box2.put0 _ _ ?_) | (with_reducible refine Box2.new _ _ _ _ ?_; (first | with_reducible rfl | (simp; done) | rfl)) | (with_reducible refine Box2.alloc ?_ _) | (with_reducible refine Box2.drew ?_) | (with_reducible refine Box2.set2 ?hn _ _ ?_; case hn => omega) | fail)); (first | done | fail))) | fail)); (first | done | fail))) (show Rb _ (.slice p2' d2.length c2') d2 by ((repeat' (first | with_reducible exact RB2.out | with_reducible refine Rb.alloc ?_ _ | with_reducible refine Rb.drew ?_ | (with_reducible refine Rb.put2 ?hb _ _ ?_; case hb => ((repeat' (first | with_reducible assumption | (with_reducible exact Hid.out ‹_›) | (with_reducible refine Box2.put0 _ _ ?_) | (with_reducible refine Box2.new _ _ _ _ ?_; (first | with_reducible rfl | (simp; done) | rfl)) | (with_reducible refine Box2.alloc ?_ _) | (with_reducible refine Box2.drew ?_) | (with_reducible refine Box2.set2 ?hn _ _ ?_; case hn => omega) | fail)); (first | done | fail))) | fail)); (first | done | fail))) SB1.out SB2.out (by have := LB1.out; omega) (by have := LB2.out; omega) (div_pos_len HS2.out.1 HY.out SB2.out) HEQ.out HZR.out (by ((repeat' (first | with_reducible assumption | with_reducible exact Below.refl _ _ | with_reducible refine Below.drew ?_ | with_reducible refine Below.alloc ?_ (by first | omega | (simp; omega) | (simp; done) | fail) _ | with_reducible refine Below.setCell ?_ (by first | omega | (simp; omega) | (simp; done) | fail) _ | fail)); (first | done | fail)))).mono ?_); rintro e v3 ⟨m3, p3, c3, d3, m4, p4, c4, d4, rfl, hRb3, hRb4, hSb3, hSb4, hb3, hx3⟩; have kX0_3 := below_cell hb3 cX5a; have kX1_3 := below_cell hb3 cX5b; have kY0_3 := below_cell hb3 cY5a; have kY1_3 := below_cell hb3 cY5b; have z3 := hb3.size; (try (have hBox := Box2.keep (B := w5.heap.size) (a := (.bool false)) (b := (.slice none 0 0)) (by ((repeat' (first | with_reducible assumption | (with_reducible exact Hid.out ‹_›) | (with_reducible refine Box2.put0 _ _ ?_) | (with_reducible refine Box2.new _ _ _ _ ?_; (first | with_reducible rfl | (simp; done) | rfl)) | (with_reducible refine Box2.alloc ?_ _) | (with_reducible refine Box2.drew ?_) | (with_reducible refine Box2.set2 ?hn _ _ ?_; case hn => omega) | fail)); (first | done | fail))) hx3; obtain ⟨_, _, _, _, _, _, _, _⟩ := hBox.all)); (try (have hBox := Box2.keep (B := w5.heap.size + 1) (a := (.bool false)) (b := (.slice none 0 0)) (by ((repeat' (first | with_reducible assumption | (with_reducible exact Hid.out ‹_›) | (with_reducible refine Box2.put0 _ _ ?_) | (with_reducible refine Box2.new _ _ _ _ ?_; (first | with_reducible rfl | (simp; done) | rfl)) | (with_reducible refine Box2.alloc ?_ _) | (with_reducible refine Box2.drew ?_) | (with_reducible refine Box2.set2 ?hn _ _ ?_; case hn => omega) | fail)); (first | done | fail))) hx3; obtain ⟨_, _, _, _, _, _, _, _⟩ := hBox.all)); (try (have hBox := Box2.keep (B := v1.heap.size) (a := (.bool false)) (b := (.slice none 0 0)) (by ((repeat' (first | with_reducible assumption | (with_reducible exact Hid.out ‹_›) | (with_reducible refine Box2.put0 _ _ ?_) | (with_reducible refine Box2.new _ _ _ _ ?_; (first | with_reducible rfl | (simp; done) | rfl)) | (with_reducible refine Box2.alloc ?_ _) | (with_reducible refine Box2.drew ?_) | (with_reducible refine Box2.set2 ?hn _ _ ?_; case hn => omega) | fail)); (first | done | fail))) hx3; obtain ⟨_, _, _, _, _, _, _, _⟩ := hBox.all)); (try (have hBox := Box2.keep (B := v1.heap.size + 1) (a := (.bool false)) (b := (.slice none 0 0)) (by ((repeat' (first | with_reducible assumption | (with_reducible exact Hid.out ‹_›) | (with_reducible refine Box2.put0 _ _ ?_) | (with_reducible refine Box2.new _ _ _ _ ?_; (first | with_reducible rfl | (simp; done) | rfl)) | (with_reducible refine Box2.alloc ?_ _) | (with_reducible refine Box2.drew ?_) | (with_reducible refine Box2.set2 ?hn _ _ ?_; case hn => omega) | fail)); (first | done | fail))) hx3; obtain ⟨_, _, _, _, _, _, _, _⟩ := hBox.all)); (try (have hBox := Box2.keep (B := v2.heap.size) (a := (.bool false)) (b := (.slice none 0 0)) (by ((repeat' (first | with_reducible assumption | (with_reducible exact Hid.out ‹_›) | (with_reducible refine Box2.put0 _ _ ?_) | (with_reducible refine Box2.new _ _ _ _ ?_; (first | with_reducible rfl | (simp; done) | rfl)) | (with_reducible refine Box2.alloc ?_ _) | (with_reducible refine Box2.drew ?_) | (with_reducible refine Box2.set2 ?hn _ _ ?_; case hn => omega) | fail)); (first | done | fail))) hx3; obtain ⟨_, _, _, _, _, _, _, _⟩ := hBox.all)); (try (have hBox := Box2.keep (B := v2.heap.size + 1) (a := (.bool false)) (b := (.slice none 0 0)) (by ((repeat' (first | with_reducible assumption | (with_reducible exact Hid.out ‹_›) | (with_reducible refine Box2.put0 _ _ ?_) | (with_reducible refine Box2.new _ _ _ _ ?_; (first | with_reducible rfl | (simp; done) | rfl)) | (with_reducible refine Box2.alloc ?_ _) | (with_reducible refine Box2.drew ?_) | (with_reducible refine Box2.set2 ?hn _ _ ?_; case hn => omega) | fail)); (first | done | fail))) hx3; obtain ⟨_, _, _, _, _, _, _, _⟩ := hBox.all)); have RB3 := Lib.hid hRb3; have SB3 := Lib.hid hSb3; have RB4 := Lib.hid hRb4; have SB4 := Lib.hid hSb4; clear hx3 hRb3 hSb3 hRb4 hSb4))
    all_goals (go_wp2_with fail)
    all_goals go_meet
    all_goals exact ⟨_, _, m3, p3, c3, d3, m4, p4, c4, d4, rfl, rfl, ⟨by ((repeat' (first | with_reducible assumption | with_reducible exact Below.refl _ _ | with_reducible refine Below.drew ?_ | with_reducible refine Below.alloc ?_ (by first | omega | (simp; omega) | (simp; done) | fail) _ | with_reducible refine Below.setCell ?_ (by first | omega | (simp; omega) | (simp; done) | fail) _ | fail)); (first | done | fail)), by ((repeat' (first | with_reducible assumption | (with_reducible exact Hid.out ‹_›) | (with_reducible refine Box2.put0 _ _ ?_) | (with_reducible refine Box2.new _ _ _ _ ?_; (first | with_reducible rfl | (simp; done) | rfl)) | (with_reducible refine Box2.alloc ?_ _) | (with_reducible refine Box2.drew ?_) | (with_reducible refine Box2.set2 ?hn _ _ ?_; case hn => omega) | fail)); (first | done | fail)), by ((repeat' (first | with_reducible assumption | (with_reducible exact Hid.out ‹_›) | (with_reducible refine Box2.put0 _ _ ?_) | (with_reducible refine Box2.new _ _ _ _ ?_; (first | with_reducible rfl | (simp; done) | rfl)) | (with_reducible refine Box2.alloc ?_ _) | (with_reducible refine Box2.drew ?_) | (with_reducible refine Box2.set2 ?hn _ _ ?_; case hn => omega) | fail)); (first | done | fail)), by ((repeat' (first | with_reducible exact RB3.out | with_reducible refine Rb.alloc ?_ _ | with_reducible refine Rb.drew ?_ | (with_reducible refine Rb.put2 ?hb _ _ ?_; case hb => ((repeat' (first | with_reducible assumption | (with_reducible exact Hid.out ‹_›) | (with_reducible refine Box2.put0 _ _ ?_) | (with_reducible refine Box2.new _ _ _ _ ?_; (first | with_reducible rfl | (simp; done) | rfl)) | (with_reducible refine Box2.alloc ?_ _) | (with_reducible refine Box2.drew ?_) | (with_reducible refine Box2.set2 ?hn _ _ ?_; case hn => omega) | fail)); (first | done | fail))) | fail)); (first | done | fail)), by ((repeat' (first | with_reducible exact RB4.out | with_reducible refine Rb.alloc ?_ _ | with_reducible refine Rb.drew ?_ | (with_reducible refine Rb.put2 ?hb _ _ ?_; case hb => ((repeat' (first | with_reducible assumption | (with_reducible exact Hid.out ‹_›) | (with_reducible refine Box2.put0 _ _ ?_) | (with_reducible refine Box2.new _ _ _ _ ?_; (first | with_reducible rfl | (simp; done) | rfl)) | (with_reducible refine Box2.alloc ?_ _) | (with_reducible refine Box2.drew ?_) | (with_reducible refine Box2.set2 ?hn _ _ ?_; case hn => omega) | fail)); (first | done | fail))) | fail)); (first | done | fail)), SB3.out, SB4.out, (by first | omega | (simp; omega)), (by first | omega | (simp; omega)), (by first | omega | (simp; omega))⟩⟩
  case rest =>
    obtain ⟨b3, b4, m3, p3, c3, d3, m4, p4, c4, d4, rfl, rfl, hN⟩ := hcut
    have HN := Lib.hid hN
    obtain ⟨w9, rfl⟩ : ∃ w9 : World, w9 = wc := ⟨_, rfl⟩
    clear hN HOF1 HOF2
    have HB9 := Lib.hid (HB5.out.trans (HN.out.below.mono HB5.out.size))
    have KQ := Lib.hid (HQ5.out.keep HN.out.below)
    have KE := Lib.hid (HE5.out.keep HN.out.below)
    have KN := Lib.hid HN.out.x1
    have KM := Lib.hid HN.out.x2
    have RQ := Lib.hid (RWq5.out.keep HN.out.below)
    have RR := Lib.hid (RWr5.out.keep HN.out.below)
    clear cX5a cX5b cX5l cY5a cY5b cY5l cQ5a cQ5b cQ5l cE5a cE5b cE5l HX5 HY5 HQ5 HE5 RWq5 RWr5 HB5
    have kQ0 := KQ.out.c0
    have kQ1 := KQ.out.c1
    have kE0 := KE.out.c0
    have kE1 := KE.out.c1
    have kN0 := KN.out.c0
    have kN1 := KN.out.c1
    have kM0 := KM.out.c0
    have kM1 := KM.out.c1
    have HZQ := Lib.hid (HSQ.out.small.1 HLQ.out)
    have HZS := Lib.hid (HSR.out.small.1 HLR.out)
    have CI1 := Lib.hid (fun (wx : World) (hx : Below w9.heap.size w9 wx) => is_at0 RQ.out HSQ.out HZQ.out HN.out.r1 HN.out.s1 hx)
    have CI2 := Lib.hid (fun (wx : World) (hx : Below w9.heap.size w9 wx) => is_at0 RR.out HSR.out HZS.out HN.out.r2 HN.out.s2 hx)
    go_wp2_with fail
    refine (CI1.out _ (Below.refl _ _)).mono ?_
    rintro e v4 ⟨rfl, hv4⟩
    have jQ0 := below_cell hv4 kQ0
    have jQ1 := below_cell hv4 kQ1
    have jE0 := below_cell hv4 kE0
    have jE1 := below_cell hv4 kE1
    have jN0 := below_cell hv4 kN0
    have jN1 := below_cell hv4 kN1
    have jM0 := below_cell hv4 kM0
    have jM1 := below_cell hv4 kM1
    clear kQ0 kQ1 kE0 kE1 kN0 kN1 kM0 kM1
    go_wp2_with fail
    refine (CI2.out _ hv4).mono ?_
    rintro e v5 ⟨rfl, hv5⟩
    go_wp2_with fail
    go_ret
    exact ⟨rfl, HB9.out.trans (hv5.mono HB9.out.size)⟩
theorem lawQuot (n1 : Bool) (u1 : Value) (xs : List Int) (n2 : Bool) (u2 : Value) (ys : List Int) (w : World) (hr1 : Rd w u1 xs) (hf1 : Fit xs) (hr2 : Rd w u2 ys) (hf2 : Fit ys) :
    Calls Tryd.prog 7 #[.agg #[.bool n1, u1], .agg #[.bool n2, u2]] w (BoolPost w true) := by
  cases hg1 : goodB n1 xs with
  | false => exact quot_bad1 n1 u1 xs n2 u2 ys w hr1 hf1 hr2 hf2 hg1
  | true =>
    cases hg2 : goodB n2 ys with
    | false => exact quot_bad2 n1 u1 xs n2 u2 ys w hr1 hf1 hr2 hf2 hg1 hg2
    | true =>
      by_cases hy : ys = []
      · exact quot_bad0 n1 u1 xs n2 u2 ys w hr1 hf1 hr2 hf2 hg1 hg2 hy
      · exact quot_good n1 u1 xs n2 u2 ys w hr1 hf1 hr2 hf2 hg1 hg2 (by cases ys with | nil => exact absurd rfl hy | cons a b => simp)
end Go.Proofs.YtapeomcnjjfihaaDoor
