/- Layer 2: the law WholeEuclid, walked. -/
import Derived.Test.YtapeomcnjjfihaaDoorLawNum2
import Derived.Test.YtapeomcnjjfihaaDoorWDivLong
import Derived.Deep.RegionHeld3
namespace Go.Proofs.YtapeomcnjjfihaaDoor
open Go.ChangeShapes Go.WideShapes Go.ChangeAt Go.RowKit
set_option linter.unusedVariables false
set_option linter.unusedSimpArgs false
theorem quot_le {z1 z2 zq zr : Int} (h : z1 = zq * z2 + zr) (hr : (0 ≤ zr ∧ zr < z2) ∨ (z2 < zr ∧ zr ≤ 0)) : (0 ≤ z1 → zq ≤ z1 ∧ -z1 ≤ zq) ∧ (z1 < 0 → z1 ≤ zq ∧ zq ≤ -z1) := by
  rcases hr with ⟨h1, h2⟩ | ⟨h1, h2⟩
  · by_cases hp : 1 ≤ zq
    · have := Int.mul_le_mul_of_nonneg_left (show 1 ≤ z2 by omega) (show 0 ≤ zq by omega); omega
    · by_cases hz : zq = 0
      · subst hz; omega
      · have := Int.mul_le_mul_of_nonpos_left (show zq + 1 ≤ 0 by omega) (show 1 ≤ z2 by omega)
        rw [Int.add_mul, Int.one_mul, Int.mul_one] at this
        omega
  · by_cases hp : 1 ≤ zq
    · have := Int.mul_le_mul_of_nonneg_left (show z2 ≤ -1 by omega) (show 0 ≤ zq - 1 by omega)
      rw [Int.sub_mul, Int.one_mul] at this
      omega
    · by_cases hz : zq = 0
      · subst hz; omega
      · have := Int.mul_le_mul_of_nonpos_left (show zq + 1 ≤ 0 by omega) (show z2 ≤ -1 by omega)
        rw [Int.add_mul zq 1 z2, Int.one_mul] at this
        omega
theorem small_le {a b : Int} (h : Small b) (h1 : 0 ≤ b → a ≤ b ∧ -b ≤ a) (h2 : b < 0 → b ≤ a ∧ a ≤ -b) : Small a := by
  refine ⟨Int.lt_of_le_of_lt ?_ h.lt⟩
  by_cases hb : 0 ≤ b
  · have := h1 hb; omega
  · have := h2 (by omega); omega
theorem quot_len {n1 nq : Bool} {xs qs : List Int} {z1 z2 zq zr : Int} (h1 : Sgn B18 n1 xs z1) (hl : xs.length ≤ 30) (hq : Sgn B18 nq qs zq) (he : z1 = zq * z2 + zr) (hr : (0 ≤ zr ∧ zr < z2) ∨ (z2 < zr ∧ zr ≤ 0)) : qs.length ≤ 30 :=
  hq.small.2 (small_le (h1.small.1 hl) (quot_le he hr).1 (quot_le he hr).2)
theorem rest_len {n2 nr : Bool} {ys rs : List Int} {z2 zr : Int} (h2 : Sgn B18 n2 ys z2) (hl : ys.length ≤ 30) (hr' : Sgn B18 nr rs zr) (hr : (0 ≤ zr ∧ zr < z2) ∨ (z2 < zr ∧ zr ≤ 0)) : rs.length ≤ 30 :=
  hr'.small.2 (small_le (h2.small.1 hl) (by omega) (by omega))
theorem sum_back {z1 z2 zq zr : Int} {n1 n : Bool} {xs ws : List Int} {er : Int} (h : ResCase (zq * z2 + zr) n ws er) (he : z1 = zq * z2 + zr) (s : Sgn B18 n1 xs z1) (hl : xs.length ≤ 30) : n1 = n ∧ xs = ws ∧ 0 = er := by
  rw [← he] at h
  exact ResCase.uniq (.inl ⟨s.small.1 hl, rfl, s⟩) h
set_option maxRecDepth 100000 in
set_option maxHeartbeats 16000000 in
theorem euclid_bad1 (n1 : Bool) (u1 : Value) (xs : List Int) (n2 : Bool) (u2 : Value) (ys : List Int)  (w : World) (hr1 : Rd w u1 xs) (hf1 : Fit xs) (hr2 : Rd w u2 ys) (hf2 : Fit ys) (hg1 : goodB n1 xs = false) :
    Calls Tryd.prog 10 #[.agg #[.bool n1, u1], .agg #[.bool n2, u2]] w (BoolPost w true) := by
  have HR1 := Lib.hid hr1
  have HF1 := Lib.hid hf1
  have HR2 := Lib.hid hr2
  have HF2 := Lib.hid hf2
  have HG1 := Lib.hid hg1
  clear hg1
  clear hr1 hf1 hr2 hf2
  go_enter Tryd.func10, Tryd.ntmps10
  go_wp2_with fail
  generalize hw1 : World.alloc (World.alloc w _) _ = w1
  have HB1 := Lib.hid (show Below w.heap.size w w1 by rw [← hw1]; exact (((Below.refl _ _).alloc (by first | exact Nat.le_refl _ | (simp; done) | (simp; omega)) _).alloc (by first | exact Nat.le_refl _ | (simp; done) | (simp; omega)) _))
  have HX1 := Lib.hid (show Box2 w1 (w.heap.size) (.bool n1) u1 by rw [← hw1]; exact (Box2.new _ _ _ _ rfl).alloc _)
  have HY1 := Lib.hid (show Box2 w1 (w.heap.size + 1) (.bool n2) u2 by rw [← hw1]; exact (Box2.new _ _ _ _ (by simp)))
  clear hw1
  have cX1a := HX1.out.c0
  have cX1b := HX1.out.c1
  have cX1l := HX1.out.lt
  have cY1a := HY1.out.c0
  have cY1b := HY1.out.c1
  have cY1l := HY1.out.lt
  refine (known_true w1).mono ?_
  rintro e w2 ⟨rfl, hb2⟩
  have HB2 := Lib.hid (HB1.out.trans (hb2.mono HB1.out.size))
  have HX2 := Lib.hid (HX1.out.keep hb2)
  have HY2 := Lib.hid (HY1.out.keep hb2)
  clear cX1a  cX1b  cX1l  cY1a  cY1b  cY1l  HX1 HY1 HB1 hb2 
  have cX2a := HX2.out.c0
  have cX2b := HX2.out.c1
  have cX2l := HX2.out.lt
  have cY2a := HY2.out.c0
  have cY2b := HY2.out.c1
  have cY2l := HY2.out.lt
  go_wp2_with fail
  refine (div_bad1 n1 u1 xs n2 u2 ys w2 (HR1.out.keep HB2.out) HF1.out (HR2.out.keep HB2.out) HF2.out HG1.out).mono ?_
  rintro e w3 ⟨rfl, hb3⟩
  have HB3 := Lib.hid (HB2.out.trans (hb3.mono HB2.out.size))
  have HX3 := Lib.hid (HX2.out.keep hb3)
  have HY3 := Lib.hid (HY2.out.keep hb3)
  clear cX2a  cX2b  cX2l  cY2a  cY2b  cY2l  HX2 HY2 HB2 hb3 
  have cX3a := HX3.out.c0
  have cX3b := HX3.out.c1
  have cX3l := HX3.out.lt
  have cY3a := HY3.out.c0
  have cY3b := HY3.out.c1
  have cY3l := HY3.out.lt
  go_wp2_with fail
  generalize hw4 : World.alloc (World.alloc w3 _) _ = w4
  have hb4 : Below w3.heap.size w3 w4 := by rw [← hw4]; exact ((Below.refl _ _).alloc (Nat.le_refl _) _).alloc (by simp) _
  have HQ4 := Lib.hid (show Box2 w4 w3.heap.size (.bool false) (.slice none 0 0) by rw [← hw4]; exact (Box2.new _ _ _ _ rfl).alloc _)
  have HR4x := Lib.hid (show Box2 w4 (w3.heap.size + 1) (.bool false) (.slice none 0 0) by rw [← hw4]; exact Box2.new _ _ _ _ (by simp))
  have HB4 := Lib.hid (HB3.out.trans (hb4.mono HB3.out.size))
  have HX4 := Lib.hid (HX3.out.keep hb4)
  have HY4 := Lib.hid (HY3.out.keep hb4)
  clear cX3a  cX3b  cX3l  cY3a  cY3b  cY3l  HX3 HY3 HB3 hb4 hw4
  have cX4a := HX4.out.c0
  have cX4b := HX4.out.c1
  have cX4l := HX4.out.lt
  have cY4a := HY4.out.c0
  have cY4b := HY4.out.c1
  have cY4l := HY4.out.lt
  have HE4 := HR4x
  clear HR4x
  have cQ4a := HQ4.out.c0
  have cQ4b := HQ4.out.c1
  have cQ4l := HQ4.out.lt
  have cE4a := HE4.out.c0
  have cE4b := HE4.out.c1
  have cE4l := HE4.out.lt
  refine (show Calls _ _ _ _ (At w4 (.int .i64 3)) from form_at1 (HR1.out.keep HB4.out) (HR2.out.keep HB4.out) HF1.out HF2.out HG1.out (Below.refl _ _)).mono ?_
  rintro e w5 ⟨rfl, hb5⟩
  have HB5 := Lib.hid (HB4.out.trans (hb5.mono HB4.out.size))
  have HX5 := Lib.hid (HX4.out.keep hb5)
  have HY5 := Lib.hid (HY4.out.keep hb5)
  have HQ5 := Lib.hid (HQ4.out.keep hb5)
  have HE5 := Lib.hid (HE4.out.keep hb5)
  clear cX4a  cX4b  cX4l  cY4a  cY4b  cY4l  cQ4a  cQ4b  cQ4l  cE4a  cE4b  cE4l  HX4 HY4 HQ4 HE4 HB4 hb5 
  have cX5a := HX5.out.c0
  have cX5b := HX5.out.c1
  have cX5l := HX5.out.lt
  have cY5a := HY5.out.c0
  have cY5b := HY5.out.c1
  have cY5l := HY5.out.lt
  have cQ5a := HQ5.out.c0
  have cQ5b := HQ5.out.c1
  have cQ5l := HQ5.out.lt
  have cE5a := HE5.out.c0
  have cE5b := HE5.out.c1
  have cE5l := HE5.out.lt
  go_wp2_with fail
  go_ret
  exact ⟨rfl, HB5.out⟩
set_option maxRecDepth 100000 in
set_option maxHeartbeats 16000000 in
theorem euclid_bad2 (n1 : Bool) (u1 : Value) (xs : List Int) (n2 : Bool) (u2 : Value) (ys : List Int)  (w : World) (hr1 : Rd w u1 xs) (hf1 : Fit xs) (hr2 : Rd w u2 ys) (hf2 : Fit ys) (hg1 : goodB n1 xs = true) (hg2 : goodB n2 ys = false) :
    Calls Tryd.prog 10 #[.agg #[.bool n1, u1], .agg #[.bool n2, u2]] w (BoolPost w true) := by
  have HR1 := Lib.hid hr1
  have HF1 := Lib.hid hf1
  have HR2 := Lib.hid hr2
  have HF2 := Lib.hid hf2
  have HG1 := Lib.hid hg1
  clear hg1
  have HG2 := Lib.hid hg2
  clear hg2
  clear hr1 hf1 hr2 hf2
  go_enter Tryd.func10, Tryd.ntmps10
  go_wp2_with fail
  generalize hw1 : World.alloc (World.alloc w _) _ = w1
  have HB1 := Lib.hid (show Below w.heap.size w w1 by rw [← hw1]; exact (((Below.refl _ _).alloc (by first | exact Nat.le_refl _ | (simp; done) | (simp; omega)) _).alloc (by first | exact Nat.le_refl _ | (simp; done) | (simp; omega)) _))
  have HX1 := Lib.hid (show Box2 w1 (w.heap.size) (.bool n1) u1 by rw [← hw1]; exact (Box2.new _ _ _ _ rfl).alloc _)
  have HY1 := Lib.hid (show Box2 w1 (w.heap.size + 1) (.bool n2) u2 by rw [← hw1]; exact (Box2.new _ _ _ _ (by simp)))
  clear hw1
  have cX1a := HX1.out.c0
  have cX1b := HX1.out.c1
  have cX1l := HX1.out.lt
  have cY1a := HY1.out.c0
  have cY1b := HY1.out.c1
  have cY1l := HY1.out.lt
  refine (known_true w1).mono ?_
  rintro e w2 ⟨rfl, hb2⟩
  have HB2 := Lib.hid (HB1.out.trans (hb2.mono HB1.out.size))
  have HX2 := Lib.hid (HX1.out.keep hb2)
  have HY2 := Lib.hid (HY1.out.keep hb2)
  clear cX1a  cX1b  cX1l  cY1a  cY1b  cY1l  HX1 HY1 HB1 hb2 
  have cX2a := HX2.out.c0
  have cX2b := HX2.out.c1
  have cX2l := HX2.out.lt
  have cY2a := HY2.out.c0
  have cY2b := HY2.out.c1
  have cY2l := HY2.out.lt
  go_wp2_with fail
  refine (div_bad2 n1 u1 xs n2 u2 ys w2 (HR1.out.keep HB2.out) HF1.out (HR2.out.keep HB2.out) HF2.out HG1.out HG2.out).mono ?_
  rintro e w3 ⟨rfl, hb3⟩
  have HB3 := Lib.hid (HB2.out.trans (hb3.mono HB2.out.size))
  have HX3 := Lib.hid (HX2.out.keep hb3)
  have HY3 := Lib.hid (HY2.out.keep hb3)
  clear cX2a  cX2b  cX2l  cY2a  cY2b  cY2l  HX2 HY2 HB2 hb3 
  have cX3a := HX3.out.c0
  have cX3b := HX3.out.c1
  have cX3l := HX3.out.lt
  have cY3a := HY3.out.c0
  have cY3b := HY3.out.c1
  have cY3l := HY3.out.lt
  go_wp2_with fail
  generalize hw4 : World.alloc (World.alloc w3 _) _ = w4
  have hb4 : Below w3.heap.size w3 w4 := by rw [← hw4]; exact ((Below.refl _ _).alloc (Nat.le_refl _) _).alloc (by simp) _
  have HQ4 := Lib.hid (show Box2 w4 w3.heap.size (.bool false) (.slice none 0 0) by rw [← hw4]; exact (Box2.new _ _ _ _ rfl).alloc _)
  have HR4x := Lib.hid (show Box2 w4 (w3.heap.size + 1) (.bool false) (.slice none 0 0) by rw [← hw4]; exact Box2.new _ _ _ _ (by simp))
  have HB4 := Lib.hid (HB3.out.trans (hb4.mono HB3.out.size))
  have HX4 := Lib.hid (HX3.out.keep hb4)
  have HY4 := Lib.hid (HY3.out.keep hb4)
  clear cX3a  cX3b  cX3l  cY3a  cY3b  cY3l  HX3 HY3 HB3 hb4 hw4
  have cX4a := HX4.out.c0
  have cX4b := HX4.out.c1
  have cX4l := HX4.out.lt
  have cY4a := HY4.out.c0
  have cY4b := HY4.out.c1
  have cY4l := HY4.out.lt
  have HE4 := HR4x
  clear HR4x
  have cQ4a := HQ4.out.c0
  have cQ4b := HQ4.out.c1
  have cQ4l := HQ4.out.lt
  have cE4a := HE4.out.c0
  have cE4b := HE4.out.c1
  have cE4l := HE4.out.lt
  refine (show Calls _ _ _ _ (At w4 (.int .i64 3)) from form_at2 (HR1.out.keep HB4.out) (HR2.out.keep HB4.out) HF1.out HF2.out HG1.out HG2.out (Below.refl _ _)).mono ?_
  rintro e w5 ⟨rfl, hb5⟩
  have HB5 := Lib.hid (HB4.out.trans (hb5.mono HB4.out.size))
  have HX5 := Lib.hid (HX4.out.keep hb5)
  have HY5 := Lib.hid (HY4.out.keep hb5)
  have HQ5 := Lib.hid (HQ4.out.keep hb5)
  have HE5 := Lib.hid (HE4.out.keep hb5)
  clear cX4a  cX4b  cX4l  cY4a  cY4b  cY4l  cQ4a  cQ4b  cQ4l  cE4a  cE4b  cE4l  HX4 HY4 HQ4 HE4 HB4 hb5 
  have cX5a := HX5.out.c0
  have cX5b := HX5.out.c1
  have cX5l := HX5.out.lt
  have cY5a := HY5.out.c0
  have cY5b := HY5.out.c1
  have cY5l := HY5.out.lt
  have cQ5a := HQ5.out.c0
  have cQ5b := HQ5.out.c1
  have cQ5l := HQ5.out.lt
  have cE5a := HE5.out.c0
  have cE5b := HE5.out.c1
  have cE5l := HE5.out.lt
  go_wp2_with fail
  go_ret
  exact ⟨rfl, HB5.out⟩
set_option maxRecDepth 100000 in
set_option maxHeartbeats 16000000 in
theorem euclid_bad0 (n1 : Bool) (u1 : Value) (xs : List Int) (n2 : Bool) (u2 : Value) (ys : List Int)  (w : World) (hr1 : Rd w u1 xs) (hf1 : Fit xs) (hr2 : Rd w u2 ys) (hf2 : Fit ys) (hg1 : goodB n1 xs = true) (hg2 : goodB n2 ys = true) (hy : ys = []) :
    Calls Tryd.prog 10 #[.agg #[.bool n1, u1], .agg #[.bool n2, u2]] w (BoolPost w true) := by
  have HR1 := Lib.hid hr1
  have HF1 := Lib.hid hf1
  have HR2 := Lib.hid hr2
  have HF2 := Lib.hid hf2
  subst hy
  obtain ⟨p2, c2, rfl, _, _, _⟩ := rd_form hr2
  have HG1 := Lib.hid hg1
  clear hg1
  have HG2 := Lib.hid hg2
  clear hg2
  clear hr1 hf1 hr2 hf2
  go_enter Tryd.func10, Tryd.ntmps10
  go_wp2_with fail
  generalize hw1 : World.alloc (World.alloc w _) _ = w1
  have HB1 := Lib.hid (show Below w.heap.size w w1 by rw [← hw1]; exact (((Below.refl _ _).alloc (by first | exact Nat.le_refl _ | (simp; done) | (simp; omega)) _).alloc (by first | exact Nat.le_refl _ | (simp; done) | (simp; omega)) _))
  have HX1 := Lib.hid (show Box2 w1 (w.heap.size) (.bool n1) u1 by rw [← hw1]; exact (Box2.new _ _ _ _ rfl).alloc _)
  have HY1 := Lib.hid (show Box2 w1 (w.heap.size + 1) (.bool n2) (.slice p2 0 c2) by rw [← hw1]; exact (Box2.new _ _ _ _ (by simp)))
  clear hw1
  have cX1a := HX1.out.c0
  have cX1b := HX1.out.c1
  have cX1l := HX1.out.lt
  have cY1a := HY1.out.c0
  have cY1b := HY1.out.c1
  have cY1l := HY1.out.lt
  refine (known_true w1).mono ?_
  rintro e w2 ⟨rfl, hb2⟩
  have HB2 := Lib.hid (HB1.out.trans (hb2.mono HB1.out.size))
  have HX2 := Lib.hid (HX1.out.keep hb2)
  have HY2 := Lib.hid (HY1.out.keep hb2)
  clear cX1a  cX1b  cX1l  cY1a  cY1b  cY1l  HX1 HY1 HB1 hb2 
  have cX2a := HX2.out.c0
  have cX2b := HX2.out.c1
  have cX2l := HX2.out.lt
  have cY2a := HY2.out.c0
  have cY2b := HY2.out.c1
  have cY2l := HY2.out.lt
  go_wp2_with fail
  refine (div_zero n1 u1 xs n2 (.slice p2 0 c2) [] w2 (HR1.out.keep HB2.out) HF1.out (HR2.out.keep HB2.out) HF2.out HG1.out HG2.out rfl).mono ?_
  rintro e w3 ⟨rfl, hb3⟩
  have HB3 := Lib.hid (HB2.out.trans (hb3.mono HB2.out.size))
  have HX3 := Lib.hid (HX2.out.keep hb3)
  have HY3 := Lib.hid (HY2.out.keep hb3)
  clear cX2a  cX2b  cX2l  cY2a  cY2b  cY2l  HX2 HY2 HB2 hb3 
  have cX3a := HX3.out.c0
  have cX3b := HX3.out.c1
  have cX3l := HX3.out.lt
  have cY3a := HY3.out.c0
  have cY3b := HY3.out.c1
  have cY3l := HY3.out.lt
  go_wp2_with fail
  generalize hw4 : World.alloc (World.alloc w3 _) _ = w4
  have hb4 : Below w3.heap.size w3 w4 := by rw [← hw4]; exact ((Below.refl _ _).alloc (Nat.le_refl _) _).alloc (by simp) _
  have HQ4 := Lib.hid (show Box2 w4 w3.heap.size (.bool false) (.slice none 0 0) by rw [← hw4]; exact (Box2.new _ _ _ _ rfl).alloc _)
  have HR4x := Lib.hid (show Box2 w4 (w3.heap.size + 1) (.bool false) (.slice none 0 0) by rw [← hw4]; exact Box2.new _ _ _ _ (by simp))
  have HB4 := Lib.hid (HB3.out.trans (hb4.mono HB3.out.size))
  have HX4 := Lib.hid (HX3.out.keep hb4)
  have HY4 := Lib.hid (HY3.out.keep hb4)
  clear cX3a  cX3b  cX3l  cY3a  cY3b  cY3l  HX3 HY3 HB3 hb4 hw4
  have cX4a := HX4.out.c0
  have cX4b := HX4.out.c1
  have cX4l := HX4.out.lt
  have cY4a := HY4.out.c0
  have cY4b := HY4.out.c1
  have cY4l := HY4.out.lt
  have HE4 := HR4x
  clear HR4x
  have cQ4a := HQ4.out.c0
  have cQ4b := HQ4.out.c1
  have cQ4l := HQ4.out.lt
  have cE4a := HE4.out.c0
  have cE4b := HE4.out.c1
  have cE4l := HE4.out.lt
  refine (show Calls _ _ _ _ (At w4 (.int .i64 0)) from form_at (HR1.out.keep HB4.out) (HR2.out.keep HB4.out) HF1.out HF2.out HG1.out HG2.out (Below.refl _ _)).mono ?_
  rintro e w5 ⟨rfl, hb5⟩
  have HB5 := Lib.hid (HB4.out.trans (hb5.mono HB4.out.size))
  have HX5 := Lib.hid (HX4.out.keep hb5)
  have HY5 := Lib.hid (HY4.out.keep hb5)
  have HQ5 := Lib.hid (HQ4.out.keep hb5)
  have HE5 := Lib.hid (HE4.out.keep hb5)
  clear cX4a  cX4b  cX4l  cY4a  cY4b  cY4l  cQ4a  cQ4b  cQ4l  cE4a  cE4b  cE4l  HX4 HY4 HQ4 HE4 HB4 hb5 
  have cX5a := HX5.out.c0
  have cX5b := HX5.out.c1
  have cX5l := HX5.out.lt
  have cY5a := HY5.out.c0
  have cY5b := HY5.out.c1
  have cY5l := HY5.out.lt
  have cQ5a := HQ5.out.c0
  have cQ5b := HQ5.out.c1
  have cQ5l := HQ5.out.lt
  have cE5a := HE5.out.c0
  have cE5b := HE5.out.c1
  have cE5l := HE5.out.lt
  go_wp2_with fail
  refine (show Calls _ _ _ _ (At w5 (.int .i64 0)) from form_at (HR1.out.keep HB5.out) (HR2.out.keep HB5.out) HF1.out HF2.out HG1.out HG2.out (Below.refl _ _)).mono ?_
  rintro e w6 ⟨rfl, hb6⟩
  have HB6 := Lib.hid (HB5.out.trans (hb6.mono HB5.out.size))
  have HX6 := Lib.hid (HX5.out.keep hb6)
  have HY6 := Lib.hid (HY5.out.keep hb6)
  have HQ6 := Lib.hid (HQ5.out.keep hb6)
  have HE6 := Lib.hid (HE5.out.keep hb6)
  clear cX5a  cX5b  cX5l  cY5a  cY5b  cY5l  cQ5a  cQ5b  cQ5l  cE5a  cE5b  cE5l  HX5 HY5 HQ5 HE5 HB5 hb6 
  have cX6a := HX6.out.c0
  have cX6b := HX6.out.c1
  have cX6l := HX6.out.lt
  have cY6a := HY6.out.c0
  have cY6b := HY6.out.c1
  have cY6l := HY6.out.lt
  have cQ6a := HQ6.out.c0
  have cQ6b := HQ6.out.c1
  have cQ6l := HQ6.out.lt
  have cE6a := HE6.out.c0
  have cE6b := HE6.out.c1
  have cE6l := HE6.out.lt
  go_wp2_with fail
  go_ret
  exact ⟨rfl, HB6.out⟩
set_option maxRecDepth 100000 in
set_option maxHeartbeats 16000000 in
theorem euclid_good (n1 : Bool) (u1 : Value) (xs : List Int) (n2 : Bool) (u2 : Value) (ys : List Int)  (w : World) (hr1 : Rd w u1 xs) (hf1 : Fit xs) (hr2 : Rd w u2 ys) (hf2 : Fit ys) (hg1 : goodB n1 xs = true) (hg2 : goodB n2 ys = true) (hy : 0 < ys.length) :
    Calls Tryd.prog 10 #[.agg #[.bool n1, u1], .agg #[.bool n2, u2]] w (BoolPost w true) := by
  have HR1 := Lib.hid hr1
  have HF1 := Lib.hid hf1
  have HR2 := Lib.hid hr2
  have HF2 := Lib.hid hf2
  have HS1 := Lib.hid (goodB_sgn hg1 hf1)
  have HS2 := Lib.hid (goodB_sgn hg2 hf2)
  have HY := Lib.hid hy
  clear hg1 hg2 hy
  clear hr1 hf1 hr2 hf2
  go_enter Tryd.func10, Tryd.ntmps10
  go_wp2_with fail
  generalize hw1 : World.alloc (World.alloc w _) _ = w1
  have HB1 := Lib.hid (show Below w.heap.size w w1 by rw [← hw1]; exact (((Below.refl _ _).alloc (by first | exact Nat.le_refl _ | (simp; done) | (simp; omega)) _).alloc (by first | exact Nat.le_refl _ | (simp; done) | (simp; omega)) _))
  have HX1 := Lib.hid (show Box2 w1 (w.heap.size) (.bool n1) u1 by rw [← hw1]; exact (Box2.new _ _ _ _ rfl).alloc _)
  have HY1 := Lib.hid (show Box2 w1 (w.heap.size + 1) (.bool n2) u2 by rw [← hw1]; exact (Box2.new _ _ _ _ (by simp)))
  clear hw1
  have cX1a := HX1.out.c0
  have cX1b := HX1.out.c1
  have cX1l := HX1.out.lt
  have cY1a := HY1.out.c0
  have cY1b := HY1.out.c1
  have cY1l := HY1.out.lt
  refine (known_true w1).mono ?_
  rintro e w2 ⟨rfl, hb2⟩
  have HB2 := Lib.hid (HB1.out.trans (hb2.mono HB1.out.size))
  have HX2 := Lib.hid (HX1.out.keep hb2)
  have HY2 := Lib.hid (HY1.out.keep hb2)
  clear cX1a  cX1b  cX1l  cY1a  cY1b  cY1l  HX1 HY1 HB1 hb2 
  have cX2a := HX2.out.c0
  have cX2b := HX2.out.c1
  have cX2l := HX2.out.lt
  have cY2a := HY2.out.c0
  have cY2b := HY2.out.c1
  have cY2l := HY2.out.lt
  go_wp2_with fail
  refine (div_good n1 u1 xs _ n2 u2 ys _ w2 (HR1.out.keep HB2.out) (HR2.out.keep HB2.out) HS1.out.1 HS2.out.1 HS1.out.2 HS2.out.2 HY.out).mono ?_
  rintro e w3 ⟨nq, uq, qs, zq, nr, ur, rs, zr, rfl, hMq, hMr, hSq, hSr, heq, hzr, hb3⟩
  have HSQ := Lib.hid hSq
  have HSR := Lib.hid hSr
  have HEQ := Lib.hid heq
  have HZR := Lib.hid hzr
  have HLQ := Lib.hid (quot_len HS1.out.1 HS1.out.2 hSq heq hzr)
  have HLR := Lib.hid (rest_len HS2.out.1 HS2.out.2 hSr hzr)
  obtain ⟨pq, cq, rfl⟩ := MU.form hMq
  obtain ⟨pr, cr, rfl⟩ := MU.form hMr
  have RWq3 := Lib.hid (hMq.rd (by have := HLQ.out; omega))
  have RWr3 := Lib.hid (hMr.rd (by have := HLR.out; omega))
  clear hMq hMr hSq hSr heq hzr
  have HB3 := Lib.hid (HB2.out.trans (hb3.mono HB2.out.size))
  have HX3 := Lib.hid (HX2.out.keep hb3)
  have HY3 := Lib.hid (HY2.out.keep hb3)
  clear cX2a  cX2b  cX2l  cY2a  cY2b  cY2l  HX2 HY2 HB2 hb3 
  have cX3a := HX3.out.c0
  have cX3b := HX3.out.c1
  have cX3l := HX3.out.lt
  have cY3a := HY3.out.c0
  have cY3b := HY3.out.c1
  have cY3l := HY3.out.lt
  go_wp2_with fail
  generalize hw4 : World.alloc (World.alloc w3 _) _ = w4
  have hb4 : Below w3.heap.size w3 w4 := by rw [← hw4]; exact ((Below.refl _ _).alloc (Nat.le_refl _) _).alloc (by simp) _
  have HQ4 := Lib.hid (show Box2 w4 w3.heap.size (.bool nq) (.slice pq qs.length cq) by rw [← hw4]; exact (Box2.new _ _ _ _ rfl).alloc _)
  have HR4x := Lib.hid (show Box2 w4 (w3.heap.size + 1) (.bool nr) (.slice pr rs.length cr) by rw [← hw4]; exact Box2.new _ _ _ _ (by simp))
  have HB4 := Lib.hid (HB3.out.trans (hb4.mono HB3.out.size))
  have HX4 := Lib.hid (HX3.out.keep hb4)
  have HY4 := Lib.hid (HY3.out.keep hb4)
  have RWq4 := Lib.hid (RWq3.out.keep hb4)
  have RWr4 := Lib.hid (RWr3.out.keep hb4)
  clear cX3a  cX3b  cX3l  cY3a  cY3b  cY3l  HX3 HY3 RWq3 RWr3 HB3 hb4 hw4
  have cX4a := HX4.out.c0
  have cX4b := HX4.out.c1
  have cX4l := HX4.out.lt
  have cY4a := HY4.out.c0
  have cY4b := HY4.out.c1
  have cY4l := HY4.out.lt
  have HE4 := HR4x
  clear HR4x
  have cQ4a := HQ4.out.c0
  have cQ4b := HQ4.out.c1
  have cQ4l := HQ4.out.lt
  have cE4a := HE4.out.c0
  have cE4b := HE4.out.c1
  have cE4l := HE4.out.lt
  refine (mul_good nq _ qs zq n2 u2 ys _ w4 RWq4.out (HR2.out.keep HB4.out) HSQ.out HS2.out.1 HLQ.out HS2.out.2).mono ?_
  rintro e w5 ⟨np, up, lp, ep, rfl, hMp, hb5, hCp⟩
  obtain ⟨pp, cp, rfl⟩ := MU.form hMp
  have HCp := Lib.hid (show ResCase _ np lp ep from hCp)
  have RWp5 := Lib.hid (show Rd w5 (.slice pp lp.length cp) lp from hMp.rd (ResCase.len17 HCp.out))
  clear hMp hCp
  have HB5 := Lib.hid (HB4.out.trans (hb5.mono HB4.out.size))
  have HX5 := Lib.hid (HX4.out.keep hb5)
  have HY5 := Lib.hid (HY4.out.keep hb5)
  have HQ5 := Lib.hid (HQ4.out.keep hb5)
  have HE5 := Lib.hid (HE4.out.keep hb5)
  have RWq5 := Lib.hid (RWq4.out.keep hb5)
  have RWr5 := Lib.hid (RWr4.out.keep hb5)
  clear cX4a  cX4b  cX4l  cY4a  cY4b  cY4l  cQ4a  cQ4b  cQ4l  cE4a  cE4b  cE4l  HX4 HY4 HQ4 HE4 RWq4 RWr4 HB4 hb5 
  have cX5a := HX5.out.c0
  have cX5b := HX5.out.c1
  have cX5l := HX5.out.lt
  have cY5a := HY5.out.c0
  have cY5b := HY5.out.c1
  have cY5l := HY5.out.lt
  have cQ5a := HQ5.out.c0
  have cQ5b := HQ5.out.c1
  have cQ5l := HQ5.out.lt
  have cE5a := HE5.out.c0
  have cE5b := HE5.out.c1
  have cE5l := HE5.out.lt
  rcases ResCase.er HCp.out with rfl | rfl
  rotate_left
  · go_wp2_with fail
    go_ret
    exact ⟨rfl, (HB5.out.alloc (by have := HB5.out.size; omega) _)⟩
  have HSP := Lib.hid (ResCase.ok HCp.out)
  go_wp2_with fail
  generalize hw6 : World.alloc w5 _ = w6
  have hb6 : Below w5.heap.size w5 w6 := by rw [← hw6]; exact (Below.refl _ _).alloc (Nat.le_refl _) _
  have HP6 := Lib.hid (show Box2 w6 w5.heap.size (.bool np) (.slice pp lp.length cp) by rw [← hw6]; exact Box2.new _ _ _ _ rfl)
  have HB6 := Lib.hid (HB5.out.trans (hb6.mono HB5.out.size))
  have HX6 := Lib.hid (HX5.out.keep hb6)
  have HY6 := Lib.hid (HY5.out.keep hb6)
  have HQ6 := Lib.hid (HQ5.out.keep hb6)
  have HE6 := Lib.hid (HE5.out.keep hb6)
  have RWq6 := Lib.hid (RWq5.out.keep hb6)
  have RWr6 := Lib.hid (RWr5.out.keep hb6)
  have RWp6 := Lib.hid (RWp5.out.keep hb6)
  clear cX5a  cX5b  cX5l  cY5a  cY5b  cY5l  cQ5a  cQ5b  cQ5l  cE5a  cE5b  cE5l  HX5 HY5 HQ5 HE5 RWq5 RWr5 RWp5 HB5 hb6 hw6
  have cX6a := HX6.out.c0
  have cX6b := HX6.out.c1
  have cX6l := HX6.out.lt
  have cY6a := HY6.out.c0
  have cY6b := HY6.out.c1
  have cY6l := HY6.out.lt
  have cQ6a := HQ6.out.c0
  have cQ6b := HQ6.out.c1
  have cQ6l := HQ6.out.lt
  have cE6a := HE6.out.c0
  have cE6b := HE6.out.c1
  have cE6l := HE6.out.lt
  have cP6a := HP6.out.c0
  have cP6b := HP6.out.c1
  have cP6l := HP6.out.lt
  refine (add_good np _ lp _ nr _ rs _ w6 RWp6.out RWr6.out HSP.out HSR.out (HCp.out.sgn).2 HLR.out).mono ?_
  rintro e w7 ⟨ns, us, ls, es, rfl, hMs, hb7, hCs⟩
  obtain ⟨ps, cs, rfl⟩ := MU.form hMs
  have HCs := Lib.hid (show ResCase _ ns ls es from hCs)
  have RWs7 := Lib.hid (show Rd w7 (.slice ps ls.length cs) ls from hMs.rd (ResCase.len17 HCs.out))
  clear hMs hCs
  have HB7 := Lib.hid (HB6.out.trans (hb7.mono HB6.out.size))
  have HX7 := Lib.hid (HX6.out.keep hb7)
  have HY7 := Lib.hid (HY6.out.keep hb7)
  have HQ7 := Lib.hid (HQ6.out.keep hb7)
  have HE7 := Lib.hid (HE6.out.keep hb7)
  have HP7 := Lib.hid (HP6.out.keep hb7)
  have RWq7 := Lib.hid (RWq6.out.keep hb7)
  have RWr7 := Lib.hid (RWr6.out.keep hb7)
  have RWp7 := Lib.hid (RWp6.out.keep hb7)
  clear cX6a  cX6b  cX6l  cY6a  cY6b  cY6l  cQ6a  cQ6b  cQ6l  cE6a  cE6b  cE6l  cP6a  cP6b  cP6l  HX6 HY6 HQ6 HE6 HP6 RWq6 RWr6 RWp6 HB6 hb7 
  have cX7a := HX7.out.c0
  have cX7b := HX7.out.c1
  have cX7l := HX7.out.lt
  have cY7a := HY7.out.c0
  have cY7b := HY7.out.c1
  have cY7l := HY7.out.lt
  have cQ7a := HQ7.out.c0
  have cQ7b := HQ7.out.c1
  have cQ7l := HQ7.out.lt
  have cE7a := HE7.out.c0
  have cE7b := HE7.out.c1
  have cE7l := HE7.out.lt
  have cP7a := HP7.out.c0
  have cP7b := HP7.out.c1
  have cP7l := HP7.out.lt
  obtain ⟨rfl, rfl, rfl⟩ := sum_back HCs.out HEQ.out HS1.out.1 HS1.out.2
  go_wp2_with fail
  generalize hw8 : World.alloc w7 _ = w8
  have hb8 : Below w7.heap.size w7 w8 := by rw [← hw8]; exact (Below.refl _ _).alloc (Nat.le_refl _) _
  have HS8 := Lib.hid (show Box2 w8 w7.heap.size (.bool n1) (.slice ps xs.length cs) by rw [← hw8]; exact Box2.new _ _ _ _ rfl)
  have HB8 := Lib.hid (HB7.out.trans (hb8.mono HB7.out.size))
  have HX8 := Lib.hid (HX7.out.keep hb8)
  have HY8 := Lib.hid (HY7.out.keep hb8)
  have HQ8 := Lib.hid (HQ7.out.keep hb8)
  have HE8 := Lib.hid (HE7.out.keep hb8)
  have HP8 := Lib.hid (HP7.out.keep hb8)
  have RWq8 := Lib.hid (RWq7.out.keep hb8)
  have RWr8 := Lib.hid (RWr7.out.keep hb8)
  have RWp8 := Lib.hid (RWp7.out.keep hb8)
  have RWs8 := Lib.hid (RWs7.out.keep hb8)
  clear cX7a  cX7b  cX7l  cY7a  cY7b  cY7l  cQ7a  cQ7b  cQ7l  cE7a  cE7b  cE7l  cP7a  cP7b  cP7l  HX7 HY7 HQ7 HE7 HP7 RWq7 RWr7 RWp7 RWs7 HB7 hb8 hw8
  have cX8a := HX8.out.c0
  have cX8b := HX8.out.c1
  have cX8l := HX8.out.lt
  have cY8a := HY8.out.c0
  have cY8b := HY8.out.c1
  have cY8l := HY8.out.lt
  have cQ8a := HQ8.out.c0
  have cQ8b := HQ8.out.c1
  have cQ8l := HQ8.out.lt
  have cE8a := HE8.out.c0
  have cE8b := HE8.out.c1
  have cE8l := HE8.out.lt
  have cP8a := HP8.out.c0
  have cP8b := HP8.out.c1
  have cP8l := HP8.out.lt
  have cS8a := HS8.out.c0
  have cS8b := HS8.out.c1
  have cS8l := HS8.out.lt
  refine (same_self n1 (.slice ps xs.length cs) u1 xs w8 RWs8.out (HR1.out.keep HB8.out)).mono ?_
  rintro e w9 ⟨rfl, hb9⟩
  have HB9 := Lib.hid (HB8.out.trans (hb9.mono HB8.out.size))
  have HX9 := Lib.hid (HX8.out.keep hb9)
  have HY9 := Lib.hid (HY8.out.keep hb9)
  have HQ9 := Lib.hid (HQ8.out.keep hb9)
  have HE9 := Lib.hid (HE8.out.keep hb9)
  have HP9 := Lib.hid (HP8.out.keep hb9)
  have HS9 := Lib.hid (HS8.out.keep hb9)
  have RWq9 := Lib.hid (RWq8.out.keep hb9)
  have RWr9 := Lib.hid (RWr8.out.keep hb9)
  have RWp9 := Lib.hid (RWp8.out.keep hb9)
  have RWs9 := Lib.hid (RWs8.out.keep hb9)
  clear cX8a  cX8b  cX8l  cY8a  cY8b  cY8l  cQ8a  cQ8b  cQ8l  cE8a  cE8b  cE8l  cP8a  cP8b  cP8l  cS8a  cS8b  cS8l  HX8 HY8 HQ8 HE8 HP8 HS8 RWq8 RWr8 RWp8 RWs8 HB8 hb9 
  have cX9a := HX9.out.c0
  have cX9b := HX9.out.c1
  have cX9l := HX9.out.lt
  have cY9a := HY9.out.c0
  have cY9b := HY9.out.c1
  have cY9l := HY9.out.lt
  have cQ9a := HQ9.out.c0
  have cQ9b := HQ9.out.c1
  have cQ9l := HQ9.out.lt
  have cE9a := HE9.out.c0
  have cE9b := HE9.out.c1
  have cE9l := HE9.out.lt
  have cP9a := HP9.out.c0
  have cP9b := HP9.out.c1
  have cP9l := HP9.out.lt
  have cS9a := HS9.out.c0
  have cS9b := HS9.out.c1
  have cS9l := HS9.out.lt
  go_wp2_with fail
  obtain ⟨z2, hz2⟩ : ∃ z2, sg n2 (val B18 ys) = z2 := ⟨_, rfl⟩
  rw [hz2] at HZR HS2
  clear hz2 HEQ HSP HCp HCs
  have hz := HZR.out
  by_cases hc : zr = 0
  · skip
    clear hz
    have e1 : cmpI zr 0 = 0 := cmpI_eq (by omega)
    have HE1 := Lib.hid e1
    clear e1
    clear hc
    refine (show Calls _ _ _ _ (At w9 (.int .i64 (0))) by have h := sign_at (W := w9) RWr9.out HSR.out HLR.out (Below.refl _ _); rwa [HE1.out] at h).mono ?_
    rintro e w10 ⟨rfl, hb10⟩
    have HB10 := Lib.hid (HB9.out.trans (hb10.mono HB9.out.size))
    have HX10 := Lib.hid (HX9.out.keep hb10)
    have HY10 := Lib.hid (HY9.out.keep hb10)
    have HQ10 := Lib.hid (HQ9.out.keep hb10)
    have HE10 := Lib.hid (HE9.out.keep hb10)
    have HP10 := Lib.hid (HP9.out.keep hb10)
    have HS10 := Lib.hid (HS9.out.keep hb10)
    have RWq10 := Lib.hid (RWq9.out.keep hb10)
    have RWr10 := Lib.hid (RWr9.out.keep hb10)
    have RWp10 := Lib.hid (RWp9.out.keep hb10)
    have RWs10 := Lib.hid (RWs9.out.keep hb10)
    clear cX9a  cX9b  cX9l  cY9a  cY9b  cY9l  cQ9a  cQ9b  cQ9l  cE9a  cE9b  cE9l  cP9a  cP9b  cP9l  cS9a  cS9b  cS9l  HX9 HY9 HQ9 HE9 HP9 HS9 RWq9 RWr9 RWp9 RWs9 HB9 hb10 
    have cX10a := HX10.out.c0
    have cX10b := HX10.out.c1
    have cX10l := HX10.out.lt
    have cY10a := HY10.out.c0
    have cY10b := HY10.out.c1
    have cY10l := HY10.out.lt
    have cQ10a := HQ10.out.c0
    have cQ10b := HQ10.out.c1
    have cQ10l := HQ10.out.lt
    have cE10a := HE10.out.c0
    have cE10b := HE10.out.c1
    have cE10l := HE10.out.lt
    have cP10a := HP10.out.c0
    have cP10b := HP10.out.c1
    have cP10l := HP10.out.lt
    have cS10a := HS10.out.c0
    have cS10b := HS10.out.c1
    have cS10l := HS10.out.lt
    go_wp2_with fail
    go_ret
    exact ⟨rfl, HB10.out⟩
  by_cases hc2 : 0 < zr
  · skip
    have e1 : cmpI zr 0 = 1 := cmpI_gt (by omega)
    have e2 : cmpI z2 0 = 1 := cmpI_gt (by omega)
    have e3 : cmpI zr z2 = -1 := cmpI_lt (by omega)
    have HE1 := Lib.hid e1
    clear e1
    have HE2 := Lib.hid e2
    have HE3 := Lib.hid e3
    clear e2 e3 hz
    clear hc hc2
    refine (show Calls _ _ _ _ (At w9 (.int .i64 (1))) by have h := sign_at (W := w9) RWr9.out HSR.out HLR.out (Below.refl _ _); rwa [HE1.out] at h).mono ?_
    rintro e w10 ⟨rfl, hb10⟩
    have HB10 := Lib.hid (HB9.out.trans (hb10.mono HB9.out.size))
    have HX10 := Lib.hid (HX9.out.keep hb10)
    have HY10 := Lib.hid (HY9.out.keep hb10)
    have HQ10 := Lib.hid (HQ9.out.keep hb10)
    have HE10 := Lib.hid (HE9.out.keep hb10)
    have HP10 := Lib.hid (HP9.out.keep hb10)
    have HS10 := Lib.hid (HS9.out.keep hb10)
    have RWq10 := Lib.hid (RWq9.out.keep hb10)
    have RWr10 := Lib.hid (RWr9.out.keep hb10)
    have RWp10 := Lib.hid (RWp9.out.keep hb10)
    have RWs10 := Lib.hid (RWs9.out.keep hb10)
    clear cX9a  cX9b  cX9l  cY9a  cY9b  cY9l  cQ9a  cQ9b  cQ9l  cE9a  cE9b  cE9l  cP9a  cP9b  cP9l  cS9a  cS9b  cS9l  HX9 HY9 HQ9 HE9 HP9 HS9 RWq9 RWr9 RWp9 RWs9 HB9 hb10 
    have cX10a := HX10.out.c0
    have cX10b := HX10.out.c1
    have cX10l := HX10.out.lt
    have cY10a := HY10.out.c0
    have cY10b := HY10.out.c1
    have cY10l := HY10.out.lt
    have cQ10a := HQ10.out.c0
    have cQ10b := HQ10.out.c1
    have cQ10l := HQ10.out.lt
    have cE10a := HE10.out.c0
    have cE10b := HE10.out.c1
    have cE10l := HE10.out.lt
    have cP10a := HP10.out.c0
    have cP10b := HP10.out.c1
    have cP10l := HP10.out.lt
    have cS10a := HS10.out.c0
    have cS10b := HS10.out.c1
    have cS10l := HS10.out.lt
    go_wp2_with fail
    have RR := Lib.hid RWr10.out
    have RY := Lib.hid (HR2.out.keep HB10.out)
    have CSR := Lib.hid (fun (wx : World) (hx : Below w10.heap.size w10 wx) => show Calls _ _ _ _ (At w10 (.int .i64 (1))) by have h := sign_at (W := w10) RR.out HSR.out HLR.out hx; rwa [HE1.out] at h)
    have CSY := Lib.hid (fun (wx : World) (hx : Below w10.heap.size w10 wx) => show Calls _ _ _ _ (At w10 (.int .i64 (1))) by have h := sign_at (W := w10) RY.out HS2.out.1 HS2.out.2 hx; rwa [HE2.out] at h)
    have CCM := Lib.hid (fun (wx : World) (hx : Below w10.heap.size w10 wx) => show Calls _ _ _ _ (At w10 (.int .i64 (-1))) by have h := cmp_at (W := w10) RR.out RY.out HSR.out HS2.out.1 HLR.out HS2.out.2 hx; rwa [HE3.out] at h)
    go_region_held3 (fun w' => w'.cell? ⟨w3.heap.size + 1, 0, none⟩ = some (.bool nr) ∧ w'.cell? ⟨w3.heap.size + 1, 1, none⟩ = some (.slice pr rs.length cr) ∧ w'.cell? ⟨w.heap.size + 1, 0, none⟩ = some (.bool n2) ∧ w'.cell? ⟨w.heap.size + 1, 1, none⟩ = some u2)
      ((repeat' apply And.intro) <;> (first | with_reducible assumption | with_reducible exact drew_cellA (by assumption)))
      (first
       | (go_at_call 32; (with_reducible refine (CSR.out _ (by ((repeat' (first | with_reducible assumption | with_reducible exact Below.refl _ _ | with_reducible refine Below.drew ?_ | with_reducible refine Below.alloc ?_ (by first | omega | (simp; omega) | (simp; done) | fail) _ | with_reducible refine Below.setCell ?_ (by first | omega | (simp; omega) | (simp; done) | fail) _ | fail)); (first | done | fail)))).mono ?_); rintro e v0 ⟨rfl, hv0⟩; have kE0_0 := below_cell hv0 cE10a; have kE1_0 := below_cell hv0 cE10b; have kY0_0 := below_cell hv0 cY10a; have kY1_0 := below_cell hv0 cY10b)
       | (go_at_call 32; (with_reducible refine (CSY.out _ (by ((repeat' (first | with_reducible assumption | with_reducible exact Below.refl _ _ | with_reducible refine Below.drew ?_ | with_reducible refine Below.alloc ?_ (by first | omega | (simp; omega) | (simp; done) | fail) _ | with_reducible refine Below.setCell ?_ (by first | omega | (simp; omega) | (simp; done) | fail) _ | fail)); (first | done | fail)))).mono ?_); rintro e v1 ⟨rfl, hv1⟩; have kE0_1 := below_cell hv1 cE10a; have kE1_1 := below_cell hv1 cE10b; have kY0_1 := below_cell hv1 cY10a; have kY1_1 := below_cell hv1 cY10b)
       | (go_at_call 31; (with_reducible refine (CCM.out _ (by ((repeat' (first | with_reducible assumption | with_reducible exact Below.refl _ _ | with_reducible refine Below.drew ?_ | with_reducible refine Below.alloc ?_ (by first | omega | (simp; omega) | (simp; done) | fail) _ | with_reducible refine Below.setCell ?_ (by first | omega | (simp; omega) | (simp; done) | fail) _ | fail)); (first | done | fail)))).mono ?_); rintro e v2 ⟨rfl, hv2⟩; have kE0_2 := below_cell hv2 cE10a; have kE1_2 := below_cell hv2 cE10b; have kY0_2 := below_cell hv2 cY10a; have kY1_2 := below_cell hv2 cY10b))
    all_goals (go_wp2_with fail)
    all_goals go_ret
    all_goals exact ⟨rfl, HB10.out.trans ((show Below w10.heap.size w10 _ by assumption).mono HB10.out.size)⟩
  · skip
    have e1 : cmpI zr 0 = -1 := cmpI_lt (by omega)
    have e2 : cmpI z2 0 = -1 := cmpI_lt (by omega)
    have e3 : cmpI zr z2 = 1 := cmpI_gt (by omega)
    have HE1 := Lib.hid e1
    clear e1
    have HE2 := Lib.hid e2
    have HE3 := Lib.hid e3
    clear e2 e3 hz
    clear hc hc2
    refine (show Calls _ _ _ _ (At w9 (.int .i64 (-1))) by have h := sign_at (W := w9) RWr9.out HSR.out HLR.out (Below.refl _ _); rwa [HE1.out] at h).mono ?_
    rintro e w10 ⟨rfl, hb10⟩
    have HB10 := Lib.hid (HB9.out.trans (hb10.mono HB9.out.size))
    have HX10 := Lib.hid (HX9.out.keep hb10)
    have HY10 := Lib.hid (HY9.out.keep hb10)
    have HQ10 := Lib.hid (HQ9.out.keep hb10)
    have HE10 := Lib.hid (HE9.out.keep hb10)
    have HP10 := Lib.hid (HP9.out.keep hb10)
    have HS10 := Lib.hid (HS9.out.keep hb10)
    have RWq10 := Lib.hid (RWq9.out.keep hb10)
    have RWr10 := Lib.hid (RWr9.out.keep hb10)
    have RWp10 := Lib.hid (RWp9.out.keep hb10)
    have RWs10 := Lib.hid (RWs9.out.keep hb10)
    clear cX9a  cX9b  cX9l  cY9a  cY9b  cY9l  cQ9a  cQ9b  cQ9l  cE9a  cE9b  cE9l  cP9a  cP9b  cP9l  cS9a  cS9b  cS9l  HX9 HY9 HQ9 HE9 HP9 HS9 RWq9 RWr9 RWp9 RWs9 HB9 hb10 
    have cX10a := HX10.out.c0
    have cX10b := HX10.out.c1
    have cX10l := HX10.out.lt
    have cY10a := HY10.out.c0
    have cY10b := HY10.out.c1
    have cY10l := HY10.out.lt
    have cQ10a := HQ10.out.c0
    have cQ10b := HQ10.out.c1
    have cQ10l := HQ10.out.lt
    have cE10a := HE10.out.c0
    have cE10b := HE10.out.c1
    have cE10l := HE10.out.lt
    have cP10a := HP10.out.c0
    have cP10b := HP10.out.c1
    have cP10l := HP10.out.lt
    have cS10a := HS10.out.c0
    have cS10b := HS10.out.c1
    have cS10l := HS10.out.lt
    go_wp2_with fail
    have RR := Lib.hid RWr10.out
    have RY := Lib.hid (HR2.out.keep HB10.out)
    have CSR := Lib.hid (fun (wx : World) (hx : Below w10.heap.size w10 wx) => show Calls _ _ _ _ (At w10 (.int .i64 (-1))) by have h := sign_at (W := w10) RR.out HSR.out HLR.out hx; rwa [HE1.out] at h)
    have CSY := Lib.hid (fun (wx : World) (hx : Below w10.heap.size w10 wx) => show Calls _ _ _ _ (At w10 (.int .i64 (-1))) by have h := sign_at (W := w10) RY.out HS2.out.1 HS2.out.2 hx; rwa [HE2.out] at h)
    have CCM := Lib.hid (fun (wx : World) (hx : Below w10.heap.size w10 wx) => show Calls _ _ _ _ (At w10 (.int .i64 (1))) by have h := cmp_at (W := w10) RR.out RY.out HSR.out HS2.out.1 HLR.out HS2.out.2 hx; rwa [HE3.out] at h)
    go_region_held3 (fun w' => w'.cell? ⟨w3.heap.size + 1, 0, none⟩ = some (.bool nr) ∧ w'.cell? ⟨w3.heap.size + 1, 1, none⟩ = some (.slice pr rs.length cr) ∧ w'.cell? ⟨w.heap.size + 1, 0, none⟩ = some (.bool n2) ∧ w'.cell? ⟨w.heap.size + 1, 1, none⟩ = some u2)
      ((repeat' apply And.intro) <;> (first | with_reducible assumption | with_reducible exact drew_cellA (by assumption)))
      (first
       | (go_at_call 32; (with_reducible refine (CSR.out _ (by ((repeat' (first | with_reducible assumption | with_reducible exact Below.refl _ _ | with_reducible refine Below.drew ?_ | with_reducible refine Below.alloc ?_ (by first | omega | (simp; omega) | (simp; done) | fail) _ | with_reducible refine Below.setCell ?_ (by first | omega | (simp; omega) | (simp; done) | fail) _ | fail)); (first | done | fail)))).mono ?_); rintro e v0 ⟨rfl, hv0⟩; have kE0_0 := below_cell hv0 cE10a; have kE1_0 := below_cell hv0 cE10b; have kY0_0 := below_cell hv0 cY10a; have kY1_0 := below_cell hv0 cY10b)
       | (go_at_call 32; (with_reducible refine (CSY.out _ (by ((repeat' (first | with_reducible assumption | with_reducible exact Below.refl _ _ | with_reducible refine Below.drew ?_ | with_reducible refine Below.alloc ?_ (by first | omega | (simp; omega) | (simp; done) | fail) _ | with_reducible refine Below.setCell ?_ (by first | omega | (simp; omega) | (simp; done) | fail) _ | fail)); (first | done | fail)))).mono ?_); rintro e v1 ⟨rfl, hv1⟩; have kE0_1 := below_cell hv1 cE10a; have kE1_1 := below_cell hv1 cE10b; have kY0_1 := below_cell hv1 cY10a; have kY1_1 := below_cell hv1 cY10b)
       | (go_at_call 31; (with_reducible refine (CCM.out _ (by ((repeat' (first | with_reducible assumption | with_reducible exact Below.refl _ _ | with_reducible refine Below.drew ?_ | with_reducible refine Below.alloc ?_ (by first | omega | (simp; omega) | (simp; done) | fail) _ | with_reducible refine Below.setCell ?_ (by first | omega | (simp; omega) | (simp; done) | fail) _ | fail)); (first | done | fail)))).mono ?_); rintro e v2 ⟨rfl, hv2⟩; have kE0_2 := below_cell hv2 cE10a; have kE1_2 := below_cell hv2 cE10b; have kY0_2 := below_cell hv2 cY10a; have kY1_2 := below_cell hv2 cY10b))
    all_goals (go_wp2_with fail)
    all_goals go_ret
    all_goals exact ⟨rfl, HB10.out.trans ((show Below w10.heap.size w10 _ by assumption).mono HB10.out.size)⟩
theorem lawEuclid (n1 : Bool) (u1 : Value) (xs : List Int) (n2 : Bool) (u2 : Value) (ys : List Int) (w : World) (hr1 : Rd w u1 xs) (hf1 : Fit xs) (hr2 : Rd w u2 ys) (hf2 : Fit ys) :
    Calls Tryd.prog 10 #[.agg #[.bool n1, u1], .agg #[.bool n2, u2]] w (BoolPost w true) := by
  cases hg1 : goodB n1 xs with
  | false => exact euclid_bad1 n1 u1 xs n2 u2 ys w hr1 hf1 hr2 hf2 hg1
  | true =>
    cases hg2 : goodB n2 ys with
    | false => exact euclid_bad2 n1 u1 xs n2 u2 ys w hr1 hf1 hr2 hf2 hg1 hg2
    | true =>
      by_cases hy : ys = []
      · exact euclid_bad0 n1 u1 xs n2 u2 ys w hr1 hf1 hr2 hf2 hg1 hg2 hy
      · exact euclid_good n1 u1 xs n2 u2 ys w hr1 hf1 hr2 hf2 hg1 hg2 (by cases ys with | nil => exact absurd rfl hy | cons a b => simp)
end Go.Proofs.YtapeomcnjjfihaaDoor
