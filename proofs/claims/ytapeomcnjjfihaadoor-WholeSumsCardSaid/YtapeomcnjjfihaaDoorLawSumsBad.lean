/- Layer 2: the law WholeSums where a number is not in form. -/
import Derived.Test.YtapeomcnjjfihaaDoorWLawIs
import Derived.Test.YtapeomcnjjfihaaDoorWSub
import Derived.Test.YtapeomcnjjfihaaDoorWCmp
import Derived.Test.YtapeomcnjjfihaaDoorWNeg
namespace Go.Proofs.YtapeomcnjjfihaaDoor
open Go.ChangeShapes Go.WideShapes Go.ChangeAt Go.RowKit
set_option linter.unusedVariables false
set_option linter.unusedSimpArgs false
set_option maxRecDepth 100000 in
set_option maxHeartbeats 4000000 in
theorem sums_bad1 (n1 : Bool) (u1 : Value) (xs : List Int) (n2 : Bool) (u2 : Value) (ys : List Int) (w : World) (hr1 : Rd w u1 xs) (hr2 : Rd w u2 ys) (hf1 : Fit xs) (hf2 : Fit ys) (hg1 : goodB n1 xs = false) :
    Calls Tryd.prog 5 #[.agg #[.bool n1, u1], .agg #[.bool n2, u2]] w (BoolPost w true) := by
  have HR1 := Lib.hid hr1
  have HR2 := Lib.hid hr2
  have HF := Lib.hid (fun wx (hb : Below w.heap.size w wx) => (show Calls Tryd.prog 28 #[.agg #[.bool n1, u1], .agg #[.bool n2, u2]] wx (CmpPost wx 3) by have h := form_law n1 u1 xs n2 u2 ys wx (HR1.out.keep hb) (HR2.out.keep hb) hf1 hf2; simpa [hg1] using h))
  clear hr1 hr2
  go_enter Tryd.func5, Tryd.ntmps5
  go_wp2_with fail
  generalize hw1 : World.alloc (World.alloc w _) _ = w1
  have HB1 := Lib.hid (show Below w.heap.size w w1 by rw [← hw1]; exact ((Below.refl _ _).alloc (Nat.le_refl _) _).alloc (by simp) _)
  have HX1 := Lib.hid (show Box2 w1 w.heap.size (.bool n1) u1 by rw [← hw1]; exact (Box2.new _ _ _ _ rfl).alloc _)
  have HY1 := Lib.hid (show Box2 w1 (w.heap.size + 1) (.bool n2) u2 by rw [← hw1]; exact Box2.new _ _ _ _ (by simp))
  clear hw1
  have cX1a := HX1.out.c0
  have cX1b := HX1.out.c1
  have cX1l := HX1.out.lt
  have cY1a := HY1.out.c0
  have cY1b := HY1.out.c1
  have cY1l := HY1.out.lt
  refine (known_true w1).mono ?_
  rintro e w2 ⟨rfl, hb2⟩
  have HB2 := Lib.hid (HB1.out.trans (hb2.mono HB1.out.size))
  have HX2 := Lib.hid (HX1.out.keep hb2)
  have HY2 := Lib.hid (HY1.out.keep hb2)
  clear cX1a cX1b cX1l cY1a cY1b cY1l
  clear HX1 HY1 HB1 hb2
  have cX2a := HX2.out.c0
  have cX2b := HX2.out.c1
  have cX2l := HX2.out.lt
  have cY2a := HY2.out.c0
  have cY2b := HY2.out.c1
  have cY2l := HY2.out.lt
  go_wp2_with fail
  refine (HF.out w2 HB2.out).mono ?_
  rintro e w3 ⟨rfl, hb3⟩
  have HB3 := Lib.hid (HB2.out.trans (hb3.mono HB2.out.size))
  have HX3 := Lib.hid (HX2.out.keep hb3)
  have HY3 := Lib.hid (HY2.out.keep hb3)
  clear cX2a cX2b cX2l cY2a cY2b cY2l
  clear HX2 HY2 HB2 hb3
  have cX3a := HX3.out.c0
  have cX3b := HX3.out.c1
  have cX3l := HX3.out.lt
  have cY3a := HY3.out.c0
  have cY3b := HY3.out.c1
  have cY3l := HY3.out.lt
  go_wp2_with fail
  refine (add_bad1 n1 u1 xs n2 u2 ys w3 (HR1.out.keep HB3.out) hf1 (HR2.out.keep HB3.out) hg1).mono ?_
  rintro e w4 ⟨rfl, hb4⟩
  have HB4 := Lib.hid (HB3.out.trans (hb4.mono HB3.out.size))
  have HX4 := Lib.hid (HX3.out.keep hb4)
  have HY4 := Lib.hid (HY3.out.keep hb4)
  clear cX3a cX3b cX3l cY3a cY3b cY3l
  clear HX3 HY3 HB3 hb4
  have cX4a := HX4.out.c0
  have cX4b := HX4.out.c1
  have cX4l := HX4.out.lt
  have cY4a := HY4.out.c0
  have cY4b := HY4.out.c1
  have cY4l := HY4.out.lt
  go_wp2_with fail
  generalize hw5 : World.alloc w4 _ = w5
  have hb5 : Below w4.heap.size w4 w5 := by rw [← hw5]; exact (Below.refl _ _).alloc (Nat.le_refl _) _
  have HS5 := Lib.hid (show Box2 w5 w4.heap.size (.bool false) (.slice none 0 0) by rw [← hw5]; exact Box2.new _ _ _ _ rfl)
  have HB5 := Lib.hid (HB4.out.trans (hb5.mono HB4.out.size))
  have HX5 := Lib.hid (HX4.out.keep hb5)
  have HY5 := Lib.hid (HY4.out.keep hb5)
  clear cX4a cX4b cX4l cY4a cY4b cY4l
  clear HX4 HY4 HB4 hb5 hw5
  have cX5a := HX5.out.c0
  have cX5b := HX5.out.c1
  have cX5l := HX5.out.lt
  have cY5a := HY5.out.c0
  have cY5b := HY5.out.c1
  have cY5l := HY5.out.lt
  have cS5a := HS5.out.c0
  have cS5b := HS5.out.c1
  have cS5l := HS5.out.lt
  refine (sub_bad1 n1 u1 xs n2 u2 ys w5 (HR1.out.keep HB5.out) hf1 (HR2.out.keep HB5.out) hg1).mono ?_
  rintro e w6 ⟨rfl, hb6⟩
  have HB6 := Lib.hid (HB5.out.trans (hb6.mono HB5.out.size))
  have HX6 := Lib.hid (HX5.out.keep hb6)
  have HY6 := Lib.hid (HY5.out.keep hb6)
  have HS6 := Lib.hid (HS5.out.keep hb6)
  clear cX5a cX5b cX5l cY5a cY5b cY5l cS5a cS5b cS5l
  clear HX5 HY5 HS5 HB5 hb6
  have cX6a := HX6.out.c0
  have cX6b := HX6.out.c1
  have cX6l := HX6.out.lt
  have cY6a := HY6.out.c0
  have cY6b := HY6.out.c1
  have cY6l := HY6.out.lt
  have cS6a := HS6.out.c0
  have cS6b := HS6.out.c1
  have cS6l := HS6.out.lt
  go_wp2_with fail
  generalize hw7 : World.alloc w6 _ = w7
  have hb7 : Below w6.heap.size w6 w7 := by rw [← hw7]; exact (Below.refl _ _).alloc (Nat.le_refl _) _
  have HD7 := Lib.hid (show Box2 w7 w6.heap.size (.bool false) (.slice none 0 0) by rw [← hw7]; exact Box2.new _ _ _ _ rfl)
  have HB7 := Lib.hid (HB6.out.trans (hb7.mono HB6.out.size))
  have HX7 := Lib.hid (HX6.out.keep hb7)
  have HY7 := Lib.hid (HY6.out.keep hb7)
  have HS7 := Lib.hid (HS6.out.keep hb7)
  clear cX6a cX6b cX6l cY6a cY6b cY6l cS6a cS6b cS6l
  clear HX6 HY6 HS6 HB6 hb7 hw7
  have cX7a := HX7.out.c0
  have cX7b := HX7.out.c1
  have cX7l := HX7.out.lt
  have cY7a := HY7.out.c0
  have cY7b := HY7.out.c1
  have cY7l := HY7.out.lt
  have cS7a := HS7.out.c0
  have cS7b := HS7.out.c1
  have cS7l := HS7.out.lt
  have cD7a := HD7.out.c0
  have cD7b := HD7.out.c1
  have cD7l := HD7.out.lt
  refine (cmp_bad1 n1 u1 xs n2 u2 ys w7 (HR1.out.keep HB7.out) (HR2.out.keep HB7.out) hf1 hg1).mono ?_
  rintro e w8 ⟨rfl, hb8⟩
  have HB8 := Lib.hid (HB7.out.trans (hb8.mono HB7.out.size))
  have HX8 := Lib.hid (HX7.out.keep hb8)
  have HY8 := Lib.hid (HY7.out.keep hb8)
  have HS8 := Lib.hid (HS7.out.keep hb8)
  have HD8 := Lib.hid (HD7.out.keep hb8)
  clear cX7a cX7b cX7l cY7a cY7b cY7l cS7a cS7b cS7l cD7a cD7b cD7l
  clear HX7 HY7 HS7 HD7 HB7 hb8
  have cX8a := HX8.out.c0
  have cX8b := HX8.out.c1
  have cX8l := HX8.out.lt
  have cY8a := HY8.out.c0
  have cY8b := HY8.out.c1
  have cY8l := HY8.out.lt
  have cS8a := HS8.out.c0
  have cS8b := HS8.out.c1
  have cS8l := HS8.out.lt
  have cD8a := HD8.out.c0
  have cD8b := HD8.out.c1
  have cD8l := HD8.out.lt
  go_wp2_with fail
  refine (same_any false false (.slice none 0 0) (.slice none 0 0) [] [] w8 (.inl ⟨_, rfl, rfl⟩) (.inl ⟨_, rfl, rfl⟩)).mono ?_
  rintro e w9 ⟨rfl, hb9⟩
  have HB9 := Lib.hid (HB8.out.trans (hb9.mono HB8.out.size))
  have HX9 := Lib.hid (HX8.out.keep hb9)
  have HY9 := Lib.hid (HY8.out.keep hb9)
  have HS9 := Lib.hid (HS8.out.keep hb9)
  have HD9 := Lib.hid (HD8.out.keep hb9)
  clear cX8a cX8b cX8l cY8a cY8b cY8l cS8a cS8b cS8l cD8a cD8b cD8l
  clear HX8 HY8 HS8 HD8 HB8 hb9
  have cX9a := HX9.out.c0
  have cX9b := HX9.out.c1
  have cX9l := HX9.out.lt
  have cY9a := HY9.out.c0
  have cY9b := HY9.out.c1
  have cY9l := HY9.out.lt
  have cS9a := HS9.out.c0
  have cS9b := HS9.out.c1
  have cS9l := HS9.out.lt
  have cD9a := HD9.out.c0
  have cD9b := HD9.out.c1
  have cD9l := HD9.out.lt
  go_wp2_with fail
  refine (same_any false false (.slice none 0 0) (.slice none 0 0) [] [] w9 (.inl ⟨_, rfl, rfl⟩) (.inl ⟨_, rfl, rfl⟩)).mono ?_
  rintro e w10 ⟨rfl, hb10⟩
  have HB10 := Lib.hid (HB9.out.trans (hb10.mono HB9.out.size))
  have HX10 := Lib.hid (HX9.out.keep hb10)
  have HY10 := Lib.hid (HY9.out.keep hb10)
  have HS10 := Lib.hid (HS9.out.keep hb10)
  have HD10 := Lib.hid (HD9.out.keep hb10)
  clear cX9a cX9b cX9l cY9a cY9b cY9l cS9a cS9b cS9l cD9a cD9b cD9l
  clear HX9 HY9 HS9 HD9 HB9 hb10
  have cX10a := HX10.out.c0
  have cX10b := HX10.out.c1
  have cX10l := HX10.out.lt
  have cY10a := HY10.out.c0
  have cY10b := HY10.out.c1
  have cY10l := HY10.out.lt
  have cS10a := HS10.out.c0
  have cS10b := HS10.out.c1
  have cS10l := HS10.out.lt
  have cD10a := HD10.out.c0
  have cD10b := HD10.out.c1
  have cD10l := HD10.out.lt
  go_wp2_with fail
  refine ((show Calls _ _ _ _ (BoolPost w10 false) by have h := refgood_any n1 u1 xs w10 (HR1.out.keep HB10.out) hf1; rwa [hg1] at h)).mono ?_
  rintro e w11 ⟨rfl, hb11⟩
  have HB11 := Lib.hid (HB10.out.trans (hb11.mono HB10.out.size))
  have HX11 := Lib.hid (HX10.out.keep hb11)
  have HY11 := Lib.hid (HY10.out.keep hb11)
  have HS11 := Lib.hid (HS10.out.keep hb11)
  have HD11 := Lib.hid (HD10.out.keep hb11)
  clear cX10a cX10b cX10l cY10a cY10b cY10l cS10a cS10b cS10l cD10a cD10b cD10l
  clear HX10 HY10 HS10 HD10 HB10 hb11
  have cX11a := HX11.out.c0
  have cX11b := HX11.out.c1
  have cX11l := HX11.out.lt
  have cY11a := HY11.out.c0
  have cY11b := HY11.out.c1
  have cY11l := HY11.out.lt
  have cS11a := HS11.out.c0
  have cS11b := HS11.out.c1
  have cS11l := HS11.out.lt
  have cD11a := HD11.out.c0
  have cD11b := HD11.out.c1
  have cD11l := HD11.out.lt
  go_wp2_with fail
  refine (sign_bad n1 u1 xs w11 (HR1.out.keep HB11.out) hf1 hg1).mono ?_
  rintro e w12 ⟨rfl, hb12⟩
  have HB12 := Lib.hid (HB11.out.trans (hb12.mono HB11.out.size))
  have HX12 := Lib.hid (HX11.out.keep hb12)
  have HY12 := Lib.hid (HY11.out.keep hb12)
  have HS12 := Lib.hid (HS11.out.keep hb12)
  have HD12 := Lib.hid (HD11.out.keep hb12)
  clear cX11a cX11b cX11l cY11a cY11b cY11l cS11a cS11b cS11l cD11a cD11b cD11l
  clear HX11 HY11 HS11 HD11 HB11 hb12
  have cX12a := HX12.out.c0
  have cX12b := HX12.out.c1
  have cX12l := HX12.out.lt
  have cY12a := HY12.out.c0
  have cY12b := HY12.out.c1
  have cY12l := HY12.out.lt
  have cS12a := HS12.out.c0
  have cS12b := HS12.out.c1
  have cS12l := HS12.out.lt
  have cD12a := HD12.out.c0
  have cD12b := HD12.out.c1
  have cD12l := HD12.out.lt
  go_wp2_with fail
  refine (neg_bad n1 u1 xs w12 (HR1.out.keep HB12.out) hf1 hg1).mono ?_
  rintro e w13 ⟨rfl, hb13⟩
  have HB13 := Lib.hid (HB12.out.trans (hb13.mono HB12.out.size))
  have HX13 := Lib.hid (HX12.out.keep hb13)
  have HY13 := Lib.hid (HY12.out.keep hb13)
  have HS13 := Lib.hid (HS12.out.keep hb13)
  have HD13 := Lib.hid (HD12.out.keep hb13)
  clear cX12a cX12b cX12l cY12a cY12b cY12l cS12a cS12b cS12l cD12a cD12b cD12l
  clear HX12 HY12 HS12 HD12 HB12 hb13
  have cX13a := HX13.out.c0
  have cX13b := HX13.out.c1
  have cX13l := HX13.out.lt
  have cY13a := HY13.out.c0
  have cY13b := HY13.out.c1
  have cY13l := HY13.out.lt
  have cS13a := HS13.out.c0
  have cS13b := HS13.out.c1
  have cS13l := HS13.out.lt
  have cD13a := HD13.out.c0
  have cD13b := HD13.out.c1
  have cD13l := HD13.out.lt
  go_wp2_with fail
  refine (same_any false false (.slice none 0 0) (.slice none 0 0) [] [] w13 (.inl ⟨_, rfl, rfl⟩) (.inl ⟨_, rfl, rfl⟩)).mono ?_
  rintro e w14 ⟨rfl, hb14⟩
  have HB14 := Lib.hid (HB13.out.trans (hb14.mono HB13.out.size))
  have HX14 := Lib.hid (HX13.out.keep hb14)
  have HY14 := Lib.hid (HY13.out.keep hb14)
  have HS14 := Lib.hid (HS13.out.keep hb14)
  have HD14 := Lib.hid (HD13.out.keep hb14)
  clear cX13a cX13b cX13l cY13a cY13b cY13l cS13a cS13b cS13l cD13a cD13b cD13l
  clear HX13 HY13 HS13 HD13 HB13 hb14
  have cX14a := HX14.out.c0
  have cX14b := HX14.out.c1
  have cX14l := HX14.out.lt
  have cY14a := HY14.out.c0
  have cY14b := HY14.out.c1
  have cY14l := HY14.out.lt
  have cS14a := HS14.out.c0
  have cS14b := HS14.out.c1
  have cS14l := HS14.out.lt
  have cD14a := HD14.out.c0
  have cD14b := HD14.out.c1
  have cD14l := HD14.out.lt
  go_wp2_with fail
  go_ret
  exact ⟨rfl, HB14.out⟩
set_option maxRecDepth 100000 in
set_option maxHeartbeats 4000000 in
theorem sums_bad2 (n1 : Bool) (u1 : Value) (xs : List Int) (n2 : Bool) (u2 : Value) (ys : List Int) (w : World) (hr1 : Rd w u1 xs) (hr2 : Rd w u2 ys) (hf1 : Fit xs) (hf2 : Fit ys) (hg1 : goodB n1 xs = true) (hg2 : goodB n2 ys = false) :
    Calls Tryd.prog 5 #[.agg #[.bool n1, u1], .agg #[.bool n2, u2]] w (BoolPost w true) := by
  have HR1 := Lib.hid hr1
  have HR2 := Lib.hid hr2
  have HF := Lib.hid (fun wx (hb : Below w.heap.size w wx) => (show Calls Tryd.prog 28 #[.agg #[.bool n1, u1], .agg #[.bool n2, u2]] wx (CmpPost wx 3) by have h := form_law n1 u1 xs n2 u2 ys wx (HR1.out.keep hb) (HR2.out.keep hb) hf1 hf2; simpa [hg1, hg2] using h))
  clear hr1 hr2
  go_enter Tryd.func5, Tryd.ntmps5
  go_wp2_with fail
  generalize hw1 : World.alloc (World.alloc w _) _ = w1
  have HB1 := Lib.hid (show Below w.heap.size w w1 by rw [← hw1]; exact ((Below.refl _ _).alloc (Nat.le_refl _) _).alloc (by simp) _)
  have HX1 := Lib.hid (show Box2 w1 w.heap.size (.bool n1) u1 by rw [← hw1]; exact (Box2.new _ _ _ _ rfl).alloc _)
  have HY1 := Lib.hid (show Box2 w1 (w.heap.size + 1) (.bool n2) u2 by rw [← hw1]; exact Box2.new _ _ _ _ (by simp))
  clear hw1
  have cX1a := HX1.out.c0
  have cX1b := HX1.out.c1
  have cX1l := HX1.out.lt
  have cY1a := HY1.out.c0
  have cY1b := HY1.out.c1
  have cY1l := HY1.out.lt
  refine (known_true w1).mono ?_
  rintro e w2 ⟨rfl, hb2⟩
  have HB2 := Lib.hid (HB1.out.trans (hb2.mono HB1.out.size))
  have HX2 := Lib.hid (HX1.out.keep hb2)
  have HY2 := Lib.hid (HY1.out.keep hb2)
  clear cX1a cX1b cX1l cY1a cY1b cY1l
  clear HX1 HY1 HB1 hb2
  have cX2a := HX2.out.c0
  have cX2b := HX2.out.c1
  have cX2l := HX2.out.lt
  have cY2a := HY2.out.c0
  have cY2b := HY2.out.c1
  have cY2l := HY2.out.lt
  go_wp2_with fail
  refine (HF.out w2 HB2.out).mono ?_
  rintro e w3 ⟨rfl, hb3⟩
  have HB3 := Lib.hid (HB2.out.trans (hb3.mono HB2.out.size))
  have HX3 := Lib.hid (HX2.out.keep hb3)
  have HY3 := Lib.hid (HY2.out.keep hb3)
  clear cX2a cX2b cX2l cY2a cY2b cY2l
  clear HX2 HY2 HB2 hb3
  have cX3a := HX3.out.c0
  have cX3b := HX3.out.c1
  have cX3l := HX3.out.lt
  have cY3a := HY3.out.c0
  have cY3b := HY3.out.c1
  have cY3l := HY3.out.lt
  go_wp2_with fail
  refine (add_bad2 n1 u1 xs n2 u2 ys w3 (HR1.out.keep HB3.out) hf1 (HR2.out.keep HB3.out) hf2 hg1 hg2).mono ?_
  rintro e w4 ⟨rfl, hb4⟩
  have HB4 := Lib.hid (HB3.out.trans (hb4.mono HB3.out.size))
  have HX4 := Lib.hid (HX3.out.keep hb4)
  have HY4 := Lib.hid (HY3.out.keep hb4)
  clear cX3a cX3b cX3l cY3a cY3b cY3l
  clear HX3 HY3 HB3 hb4
  have cX4a := HX4.out.c0
  have cX4b := HX4.out.c1
  have cX4l := HX4.out.lt
  have cY4a := HY4.out.c0
  have cY4b := HY4.out.c1
  have cY4l := HY4.out.lt
  go_wp2_with fail
  generalize hw5 : World.alloc w4 _ = w5
  have hb5 : Below w4.heap.size w4 w5 := by rw [← hw5]; exact (Below.refl _ _).alloc (Nat.le_refl _) _
  have HS5 := Lib.hid (show Box2 w5 w4.heap.size (.bool false) (.slice none 0 0) by rw [← hw5]; exact Box2.new _ _ _ _ rfl)
  have HB5 := Lib.hid (HB4.out.trans (hb5.mono HB4.out.size))
  have HX5 := Lib.hid (HX4.out.keep hb5)
  have HY5 := Lib.hid (HY4.out.keep hb5)
  clear cX4a cX4b cX4l cY4a cY4b cY4l
  clear HX4 HY4 HB4 hb5 hw5
  have cX5a := HX5.out.c0
  have cX5b := HX5.out.c1
  have cX5l := HX5.out.lt
  have cY5a := HY5.out.c0
  have cY5b := HY5.out.c1
  have cY5l := HY5.out.lt
  have cS5a := HS5.out.c0
  have cS5b := HS5.out.c1
  have cS5l := HS5.out.lt
  refine (sub_bad2 n1 u1 xs n2 u2 ys w5 (HR1.out.keep HB5.out) hf1 (HR2.out.keep HB5.out) hf2 hg1 hg2).mono ?_
  rintro e w6 ⟨rfl, hb6⟩
  have HB6 := Lib.hid (HB5.out.trans (hb6.mono HB5.out.size))
  have HX6 := Lib.hid (HX5.out.keep hb6)
  have HY6 := Lib.hid (HY5.out.keep hb6)
  have HS6 := Lib.hid (HS5.out.keep hb6)
  clear cX5a cX5b cX5l cY5a cY5b cY5l cS5a cS5b cS5l
  clear HX5 HY5 HS5 HB5 hb6
  have cX6a := HX6.out.c0
  have cX6b := HX6.out.c1
  have cX6l := HX6.out.lt
  have cY6a := HY6.out.c0
  have cY6b := HY6.out.c1
  have cY6l := HY6.out.lt
  have cS6a := HS6.out.c0
  have cS6b := HS6.out.c1
  have cS6l := HS6.out.lt
  go_wp2_with fail
  generalize hw7 : World.alloc w6 _ = w7
  have hb7 : Below w6.heap.size w6 w7 := by rw [← hw7]; exact (Below.refl _ _).alloc (Nat.le_refl _) _
  have HD7 := Lib.hid (show Box2 w7 w6.heap.size (.bool false) (.slice none 0 0) by rw [← hw7]; exact Box2.new _ _ _ _ rfl)
  have HB7 := Lib.hid (HB6.out.trans (hb7.mono HB6.out.size))
  have HX7 := Lib.hid (HX6.out.keep hb7)
  have HY7 := Lib.hid (HY6.out.keep hb7)
  have HS7 := Lib.hid (HS6.out.keep hb7)
  clear cX6a cX6b cX6l cY6a cY6b cY6l cS6a cS6b cS6l
  clear HX6 HY6 HS6 HB6 hb7 hw7
  have cX7a := HX7.out.c0
  have cX7b := HX7.out.c1
  have cX7l := HX7.out.lt
  have cY7a := HY7.out.c0
  have cY7b := HY7.out.c1
  have cY7l := HY7.out.lt
  have cS7a := HS7.out.c0
  have cS7b := HS7.out.c1
  have cS7l := HS7.out.lt
  have cD7a := HD7.out.c0
  have cD7b := HD7.out.c1
  have cD7l := HD7.out.lt
  refine (cmp_bad2 n1 u1 xs n2 u2 ys w7 (HR1.out.keep HB7.out) (HR2.out.keep HB7.out) hf1 hf2 hg1 hg2).mono ?_
  rintro e w8 ⟨rfl, hb8⟩
  have HB8 := Lib.hid (HB7.out.trans (hb8.mono HB7.out.size))
  have HX8 := Lib.hid (HX7.out.keep hb8)
  have HY8 := Lib.hid (HY7.out.keep hb8)
  have HS8 := Lib.hid (HS7.out.keep hb8)
  have HD8 := Lib.hid (HD7.out.keep hb8)
  clear cX7a cX7b cX7l cY7a cY7b cY7l cS7a cS7b cS7l cD7a cD7b cD7l
  clear HX7 HY7 HS7 HD7 HB7 hb8
  have cX8a := HX8.out.c0
  have cX8b := HX8.out.c1
  have cX8l := HX8.out.lt
  have cY8a := HY8.out.c0
  have cY8b := HY8.out.c1
  have cY8l := HY8.out.lt
  have cS8a := HS8.out.c0
  have cS8b := HS8.out.c1
  have cS8l := HS8.out.lt
  have cD8a := HD8.out.c0
  have cD8b := HD8.out.c1
  have cD8l := HD8.out.lt
  go_wp2_with fail
  refine (same_any false false (.slice none 0 0) (.slice none 0 0) [] [] w8 (.inl ⟨_, rfl, rfl⟩) (.inl ⟨_, rfl, rfl⟩)).mono ?_
  rintro e w9 ⟨rfl, hb9⟩
  have HB9 := Lib.hid (HB8.out.trans (hb9.mono HB8.out.size))
  have HX9 := Lib.hid (HX8.out.keep hb9)
  have HY9 := Lib.hid (HY8.out.keep hb9)
  have HS9 := Lib.hid (HS8.out.keep hb9)
  have HD9 := Lib.hid (HD8.out.keep hb9)
  clear cX8a cX8b cX8l cY8a cY8b cY8l cS8a cS8b cS8l cD8a cD8b cD8l
  clear HX8 HY8 HS8 HD8 HB8 hb9
  have cX9a := HX9.out.c0
  have cX9b := HX9.out.c1
  have cX9l := HX9.out.lt
  have cY9a := HY9.out.c0
  have cY9b := HY9.out.c1
  have cY9l := HY9.out.lt
  have cS9a := HS9.out.c0
  have cS9b := HS9.out.c1
  have cS9l := HS9.out.lt
  have cD9a := HD9.out.c0
  have cD9b := HD9.out.c1
  have cD9l := HD9.out.lt
  go_wp2_with fail
  refine (same_any false false (.slice none 0 0) (.slice none 0 0) [] [] w9 (.inl ⟨_, rfl, rfl⟩) (.inl ⟨_, rfl, rfl⟩)).mono ?_
  rintro e w10 ⟨rfl, hb10⟩
  have HB10 := Lib.hid (HB9.out.trans (hb10.mono HB9.out.size))
  have HX10 := Lib.hid (HX9.out.keep hb10)
  have HY10 := Lib.hid (HY9.out.keep hb10)
  have HS10 := Lib.hid (HS9.out.keep hb10)
  have HD10 := Lib.hid (HD9.out.keep hb10)
  clear cX9a cX9b cX9l cY9a cY9b cY9l cS9a cS9b cS9l cD9a cD9b cD9l
  clear HX9 HY9 HS9 HD9 HB9 hb10
  have cX10a := HX10.out.c0
  have cX10b := HX10.out.c1
  have cX10l := HX10.out.lt
  have cY10a := HY10.out.c0
  have cY10b := HY10.out.c1
  have cY10l := HY10.out.lt
  have cS10a := HS10.out.c0
  have cS10b := HS10.out.c1
  have cS10l := HS10.out.lt
  have cD10a := HD10.out.c0
  have cD10b := HD10.out.c1
  have cD10l := HD10.out.lt
  go_wp2_with fail
  refine ((show Calls _ _ _ _ (BoolPost w10 true) by have h := refgood_any n1 u1 xs w10 (HR1.out.keep HB10.out) hf1; rwa [hg1] at h)).mono ?_
  rintro e w11 ⟨rfl, hb11⟩
  have HB11 := Lib.hid (HB10.out.trans (hb11.mono HB10.out.size))
  have HX11 := Lib.hid (HX10.out.keep hb11)
  have HY11 := Lib.hid (HY10.out.keep hb11)
  have HS11 := Lib.hid (HS10.out.keep hb11)
  have HD11 := Lib.hid (HD10.out.keep hb11)
  clear cX10a cX10b cX10l cY10a cY10b cY10l cS10a cS10b cS10l cD10a cD10b cD10l
  clear HX10 HY10 HS10 HD10 HB10 hb11
  have cX11a := HX11.out.c0
  have cX11b := HX11.out.c1
  have cX11l := HX11.out.lt
  have cY11a := HY11.out.c0
  have cY11b := HY11.out.c1
  have cY11l := HY11.out.lt
  have cS11a := HS11.out.c0
  have cS11b := HS11.out.c1
  have cS11l := HS11.out.lt
  have cD11a := HD11.out.c0
  have cD11b := HD11.out.c1
  have cD11l := HD11.out.lt
  go_wp2_with fail
  go_ret
  exact ⟨rfl, HB11.out⟩
end Go.Proofs.YtapeomcnjjfihaaDoor
