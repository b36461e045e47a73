/- Layer 2: the law WholeRing, walked, at every input. -/
import Derived.Test.YtapeomcnjjfihaaDoorLawRingBad
import Derived.Test.YtapeomcnjjfihaaDoorWMul
import Derived.Test.YtapeomcnjjfihaaDoorWSub
namespace Go.Proofs.YtapeomcnjjfihaaDoor
open Go.ChangeShapes Go.WideShapes Go.ChangeAt Go.RowKit
set_option linter.unusedVariables false
set_option linter.unusedSimpArgs false
set_option maxRecDepth 100000 in
set_option maxHeartbeats 16000000 in
theorem ring_good1 (n1 : Bool) (u1 : Value) (xs : List Int) (n2 : Bool) (u2 : Value) (ys : List Int) (n3 : Bool) (u3 : Value) (zs : List Int)  (w : World) (hr1 : Rd w u1 xs) (hf1 : Fit xs) (hr2 : Rd w u2 ys) (hf2 : Fit ys) (hr3 : Rd w u3 zs) (hf3 : Fit zs) (hg1 : goodB n1 xs = true) (hg2 : goodB n2 ys = true) (hg3 : goodB n3 zs = true) (hsm : Small (sg n1 (val B18 xs) + sg n2 (val B18 ys))) :
    Calls Tryd.prog 9 #[.agg #[.bool n1, u1], .agg #[.bool n2, u2], .agg #[.bool n3, u3]] w (BoolPost w true) := by
  have HR1 := Lib.hid hr1
  have HF1 := Lib.hid hf1
  have HR2 := Lib.hid hr2
  have HF2 := Lib.hid hf2
  have HR3 := Lib.hid hr3
  have HF3 := Lib.hid hf3
  have HS1 := Lib.hid (goodB_sgn hg1 hf1)
  have HS2 := Lib.hid (goodB_sgn hg2 hf2)
  have HS3 := Lib.hid (goodB_sgn hg3 hf3)
  have HSM := Lib.hid hsm
  clear hg1 hg2 hg3 hsm
  clear hr1 hf1 hr2 hf2 hr3 hf3
  go_enter Tryd.func9, Tryd.ntmps9
  go_wp2_with fail
  generalize hw1 : World.alloc (World.alloc (World.alloc w _) _) _ = w1
  have HB1 := Lib.hid (show Below w.heap.size w w1 by rw [← hw1]; exact ((((Below.refl _ _).alloc (by first | exact Nat.le_refl _ | (simp; done) | (simp; omega)) _).alloc (by first | exact Nat.le_refl _ | (simp; done) | (simp; omega)) _).alloc (by first | exact Nat.le_refl _ | (simp; done) | (simp; omega)) _))
  have HX1 := Lib.hid (show Box2 w1 (w.heap.size) (.bool n1) u1 by rw [← hw1]; exact ((Box2.new _ _ _ _ rfl).alloc _).alloc _)
  have HY1 := Lib.hid (show Box2 w1 (w.heap.size + 1) (.bool n2) u2 by rw [← hw1]; exact (Box2.new _ _ _ _ (by simp)).alloc _)
  have HZ1 := Lib.hid (show Box2 w1 (w.heap.size + 1 + 1) (.bool n3) u3 by rw [← hw1]; exact (Box2.new _ _ _ _ (by simp)))
  clear hw1
  have cX1a := HX1.out.c0
  have cX1b := HX1.out.c1
  have cX1l := HX1.out.lt
  have cY1a := HY1.out.c0
  have cY1b := HY1.out.c1
  have cY1l := HY1.out.lt
  have cZ1a := HZ1.out.c0
  have cZ1b := HZ1.out.c1
  have cZ1l := HZ1.out.lt
  refine (known_true w1).mono ?_
  rintro e w2 ⟨rfl, hb2⟩
  have HB2 := Lib.hid (HB1.out.trans (hb2.mono HB1.out.size))
  have HX2 := Lib.hid (HX1.out.keep hb2)
  have HY2 := Lib.hid (HY1.out.keep hb2)
  have HZ2 := Lib.hid (HZ1.out.keep hb2)
  clear cX1a  cX1b  cX1l  cY1a  cY1b  cY1l  cZ1a  cZ1b  cZ1l  HX1 HY1 HZ1 HB1 hb2 
  have cX2a := HX2.out.c0
  have cX2b := HX2.out.c1
  have cX2l := HX2.out.lt
  have cY2a := HY2.out.c0
  have cY2b := HY2.out.c1
  have cY2l := HY2.out.lt
  have cZ2a := HZ2.out.c0
  have cZ2b := HZ2.out.c1
  have cZ2l := HZ2.out.lt
  go_wp2_with fail
  refine (good_yes n1 u1 xs _ w2 (HR1.out.keep HB2.out) HS1.out.1 HS1.out.2).mono ?_
  rintro e w3 ⟨rfl, hb3⟩
  have HB3 := Lib.hid (HB2.out.trans (hb3.mono HB2.out.size))
  have HX3 := Lib.hid (HX2.out.keep hb3)
  have HY3 := Lib.hid (HY2.out.keep hb3)
  have HZ3 := Lib.hid (HZ2.out.keep hb3)
  clear cX2a  cX2b  cX2l  cY2a  cY2b  cY2l  cZ2a  cZ2b  cZ2l  HX2 HY2 HZ2 HB2 hb3 
  have cX3a := HX3.out.c0
  have cX3b := HX3.out.c1
  have cX3l := HX3.out.lt
  have cY3a := HY3.out.c0
  have cY3b := HY3.out.c1
  have cY3l := HY3.out.lt
  have cZ3a := HZ3.out.c0
  have cZ3b := HZ3.out.c1
  have cZ3l := HZ3.out.lt
  go_wp2_with fail
  refine (good_yes n2 u2 ys _ w3 (HR2.out.keep HB3.out) HS2.out.1 HS2.out.2).mono ?_
  rintro e w4 ⟨rfl, hb4⟩
  have HB4 := Lib.hid (HB3.out.trans (hb4.mono HB3.out.size))
  have HX4 := Lib.hid (HX3.out.keep hb4)
  have HY4 := Lib.hid (HY3.out.keep hb4)
  have HZ4 := Lib.hid (HZ3.out.keep hb4)
  clear cX3a  cX3b  cX3l  cY3a  cY3b  cY3l  cZ3a  cZ3b  cZ3l  HX3 HY3 HZ3 HB3 hb4 
  have cX4a := HX4.out.c0
  have cX4b := HX4.out.c1
  have cX4l := HX4.out.lt
  have cY4a := HY4.out.c0
  have cY4b := HY4.out.c1
  have cY4l := HY4.out.lt
  have cZ4a := HZ4.out.c0
  have cZ4b := HZ4.out.c1
  have cZ4l := HZ4.out.lt
  go_wp2_with fail
  refine (good_yes n3 u3 zs _ w4 (HR3.out.keep HB4.out) HS3.out.1 HS3.out.2).mono ?_
  rintro e w5 ⟨rfl, hb5⟩
  have HB5 := Lib.hid (HB4.out.trans (hb5.mono HB4.out.size))
  have HX5 := Lib.hid (HX4.out.keep hb5)
  have HY5 := Lib.hid (HY4.out.keep hb5)
  have HZ5 := Lib.hid (HZ4.out.keep hb5)
  clear cX4a  cX4b  cX4l  cY4a  cY4b  cY4l  cZ4a  cZ4b  cZ4l  HX4 HY4 HZ4 HB4 hb5 
  have cX5a := HX5.out.c0
  have cX5b := HX5.out.c1
  have cX5l := HX5.out.lt
  have cY5a := HY5.out.c0
  have cY5b := HY5.out.c1
  have cY5l := HY5.out.lt
  have cZ5a := HZ5.out.c0
  have cZ5b := HZ5.out.c1
  have cZ5l := HZ5.out.lt
  go_wp2_with fail
  refine (add_good n1 u1 xs _ n2 u2 ys _ w5 (HR1.out.keep HB5.out) (HR2.out.keep HB5.out) HS1.out.1 HS2.out.1 HS1.out.2 HS2.out.2).mono ?_
  rintro e w6 ⟨na, ua, la, ea, rfl, hMa, hb6, hCa⟩
  obtain ⟨pa, ca, rfl⟩ := MU.form hMa
  have HCa := Lib.hid (show ResCase _ na la ea from hCa)
  have RWa6 := Lib.hid (show Rd w6 (.slice pa la.length ca) la from hMa.rd (ResCase.len17 HCa.out))
  clear hMa hCa
  have HB6 := Lib.hid (HB5.out.trans (hb6.mono HB5.out.size))
  have HX6 := Lib.hid (HX5.out.keep hb6)
  have HY6 := Lib.hid (HY5.out.keep hb6)
  have HZ6 := Lib.hid (HZ5.out.keep hb6)
  clear cX5a  cX5b  cX5l  cY5a  cY5b  cY5l  cZ5a  cZ5b  cZ5l  HX5 HY5 HZ5 HB5 hb6 
  have cX6a := HX6.out.c0
  have cX6b := HX6.out.c1
  have cX6l := HX6.out.lt
  have cY6a := HY6.out.c0
  have cY6b := HY6.out.c1
  have cY6l := HY6.out.lt
  have cZ6a := HZ6.out.c0
  have cZ6b := HZ6.out.c1
  have cZ6l := HZ6.out.lt
  obtain rfl := ResCase.er0 HCa.out HSM.out
  go_wp2_with fail
  generalize hw7 : World.alloc w6 _ = w7
  have hb7 : Below w6.heap.size w6 w7 := by rw [← hw7]; exact (Below.refl _ _).alloc (Nat.le_refl _) _
  have HS7 := Lib.hid (show Box2 w7 w6.heap.size (.bool na) (.slice pa la.length ca) by rw [← hw7]; exact Box2.new _ _ _ _ rfl)
  have HB7 := Lib.hid (HB6.out.trans (hb7.mono HB6.out.size))
  have HX7 := Lib.hid (HX6.out.keep hb7)
  have HY7 := Lib.hid (HY6.out.keep hb7)
  have HZ7 := Lib.hid (HZ6.out.keep hb7)
  have RWa7 := Lib.hid (RWa6.out.keep hb7)
  clear cX6a  cX6b  cX6l  cY6a  cY6b  cY6l  cZ6a  cZ6b  cZ6l  HX6 HY6 HZ6 RWa6 HB6 hb7 hw7
  have cX7a := HX7.out.c0
  have cX7b := HX7.out.c1
  have cX7l := HX7.out.lt
  have cY7a := HY7.out.c0
  have cY7b := HY7.out.c1
  have cY7l := HY7.out.lt
  have cZ7a := HZ7.out.c0
  have cZ7b := HZ7.out.c1
  have cZ7l := HZ7.out.lt
  have cS7a := HS7.out.c0
  have cS7b := HS7.out.c1
  have cS7l := HS7.out.lt
  refine (add_good n2 u2 ys _ n1 u1 xs _ w7 (HR2.out.keep HB7.out) (HR1.out.keep HB7.out) HS2.out.1 HS1.out.1 HS2.out.2 HS1.out.2).mono ?_
  rintro e w8 ⟨nt, ut, lt, et, rfl, hMt, hb8, hCt⟩
  obtain ⟨rfl, rfl, rfl⟩ := ResCase.uniq HCa.out (show ResCase _ nt lt et from by have h := hCt; rwa [Int.add_comm] at h)
  obtain ⟨pt, ct, rfl⟩ := MU.form hMt
  have RWt8 := Lib.hid (show Rd w8 (.slice pt la.length ct) la from hMt.rd (ResCase.len17 HCa.out))
  clear hMt hCt
  have HB8 := Lib.hid (HB7.out.trans (hb8.mono HB7.out.size))
  have HX8 := Lib.hid (HX7.out.keep hb8)
  have HY8 := Lib.hid (HY7.out.keep hb8)
  have HZ8 := Lib.hid (HZ7.out.keep hb8)
  have HS8 := Lib.hid (HS7.out.keep hb8)
  have RWa8 := Lib.hid (RWa7.out.keep hb8)
  clear cX7a  cX7b  cX7l  cY7a  cY7b  cY7l  cZ7a  cZ7b  cZ7l  cS7a  cS7b  cS7l  HX7 HY7 HZ7 HS7 RWa7 HB7 hb8 
  have cX8a := HX8.out.c0
  have cX8b := HX8.out.c1
  have cX8l := HX8.out.lt
  have cY8a := HY8.out.c0
  have cY8b := HY8.out.c1
  have cY8l := HY8.out.lt
  have cZ8a := HZ8.out.c0
  have cZ8b := HZ8.out.c1
  have cZ8l := HZ8.out.lt
  have cS8a := HS8.out.c0
  have cS8b := HS8.out.c1
  have cS8l := HS8.out.lt
  go_wp2_with fail
  generalize hw9 : World.alloc w8 _ = w9
  have hb9 : Below w8.heap.size w8 w9 := by rw [← hw9]; exact (Below.refl _ _).alloc (Nat.le_refl _) _
  have HT9 := Lib.hid (show Box2 w9 w8.heap.size (.bool na) (.slice pt la.length ct) by rw [← hw9]; exact Box2.new _ _ _ _ rfl)
  have HB9 := Lib.hid (HB8.out.trans (hb9.mono HB8.out.size))
  have HX9 := Lib.hid (HX8.out.keep hb9)
  have HY9 := Lib.hid (HY8.out.keep hb9)
  have HZ9 := Lib.hid (HZ8.out.keep hb9)
  have HS9 := Lib.hid (HS8.out.keep hb9)
  have RWa9 := Lib.hid (RWa8.out.keep hb9)
  have RWt9 := Lib.hid (RWt8.out.keep hb9)
  clear cX8a  cX8b  cX8l  cY8a  cY8b  cY8l  cZ8a  cZ8b  cZ8l  cS8a  cS8b  cS8l  HX8 HY8 HZ8 HS8 RWa8 RWt8 HB8 hb9 hw9
  have cX9a := HX9.out.c0
  have cX9b := HX9.out.c1
  have cX9l := HX9.out.lt
  have cY9a := HY9.out.c0
  have cY9b := HY9.out.c1
  have cY9l := HY9.out.lt
  have cZ9a := HZ9.out.c0
  have cZ9b := HZ9.out.c1
  have cZ9l := HZ9.out.lt
  have cS9a := HS9.out.c0
  have cS9b := HS9.out.c1
  have cS9l := HS9.out.lt
  have cT9a := HT9.out.c0
  have cT9b := HT9.out.c1
  have cT9l := HT9.out.lt
  refine (same_self na (.slice pa la.length ca) (.slice pt la.length ct) la w9 RWa9.out RWt9.out).mono ?_
  rintro e w10 ⟨rfl, hb10⟩
  have HB10 := Lib.hid (HB9.out.trans (hb10.mono HB9.out.size))
  have HX10 := Lib.hid (HX9.out.keep hb10)
  have HY10 := Lib.hid (HY9.out.keep hb10)
  have HZ10 := Lib.hid (HZ9.out.keep hb10)
  have HS10 := Lib.hid (HS9.out.keep hb10)
  have HT10 := Lib.hid (HT9.out.keep hb10)
  have RWa10 := Lib.hid (RWa9.out.keep hb10)
  have RWt10 := Lib.hid (RWt9.out.keep hb10)
  clear cX9a  cX9b  cX9l  cY9a  cY9b  cY9l  cZ9a  cZ9b  cZ9l  cS9a  cS9b  cS9l  cT9a  cT9b  cT9l  HX9 HY9 HZ9 HS9 HT9 RWa9 RWt9 HB9 hb10 
  have cX10a := HX10.out.c0
  have cX10b := HX10.out.c1
  have cX10l := HX10.out.lt
  have cY10a := HY10.out.c0
  have cY10b := HY10.out.c1
  have cY10l := HY10.out.lt
  have cZ10a := HZ10.out.c0
  have cZ10b := HZ10.out.c1
  have cZ10l := HZ10.out.lt
  have cS10a := HS10.out.c0
  have cS10b := HS10.out.c1
  have cS10l := HS10.out.lt
  have cT10a := HT10.out.c0
  have cT10b := HT10.out.c1
  have cT10l := HT10.out.lt
  go_wp2_with fail
  have HSa := Lib.hid (ResCase.ok HCa.out)
  refine (sub_good na (.slice pa la.length ca) la _ n2 u2 ys _ w10 RWa10.out (HR2.out.keep HB10.out) HSa.out HS2.out.1 (HSa.out.small.2 HSM.out) HS2.out.2).mono ?_
  rintro e w11 ⟨nb, ub, lb, eb, rfl, hMb, hb11, hCb⟩
  obtain ⟨pb, cb, rfl⟩ := MU.form hMb
  have HCb := Lib.hid (show ResCase _ nb lb eb from hCb)
  have RWb11 := Lib.hid (show Rd w11 (.slice pb lb.length cb) lb from hMb.rd (ResCase.len17 HCb.out))
  clear hMb hCb
  have HB11 := Lib.hid (HB10.out.trans (hb11.mono HB10.out.size))
  have HX11 := Lib.hid (HX10.out.keep hb11)
  have HY11 := Lib.hid (HY10.out.keep hb11)
  have HZ11 := Lib.hid (HZ10.out.keep hb11)
  have HS11 := Lib.hid (HS10.out.keep hb11)
  have HT11 := Lib.hid (HT10.out.keep hb11)
  have RWa11 := Lib.hid (RWa10.out.keep hb11)
  have RWt11 := Lib.hid (RWt10.out.keep hb11)
  clear cX10a  cX10b  cX10l  cY10a  cY10b  cY10l  cZ10a  cZ10b  cZ10l  cS10a  cS10b  cS10l  cT10a  cT10b  cT10l  HX10 HY10 HZ10 HS10 HT10 RWa10 RWt10 HB10 hb11 
  have cX11a := HX11.out.c0
  have cX11b := HX11.out.c1
  have cX11l := HX11.out.lt
  have cY11a := HY11.out.c0
  have cY11b := HY11.out.c1
  have cY11l := HY11.out.lt
  have cZ11a := HZ11.out.c0
  have cZ11b := HZ11.out.c1
  have cZ11l := HZ11.out.lt
  have cS11a := HS11.out.c0
  have cS11b := HS11.out.c1
  have cS11l := HS11.out.lt
  have cT11a := HT11.out.c0
  have cT11b := HT11.out.c1
  have cT11l := HT11.out.lt
  obtain ⟨rfl, rfl, rfl⟩ := back_same HCb.out HS1.out.1 HS1.out.2
  go_wp2_with fail
  generalize hw12 : World.alloc w11 _ = w12
  have hb12 : Below w11.heap.size w11 w12 := by rw [← hw12]; exact (Below.refl _ _).alloc (Nat.le_refl _) _
  have HK12 := Lib.hid (show Box2 w12 w11.heap.size (.bool n1) (.slice pb xs.length cb) by rw [← hw12]; exact Box2.new _ _ _ _ rfl)
  have HB12 := Lib.hid (HB11.out.trans (hb12.mono HB11.out.size))
  have HX12 := Lib.hid (HX11.out.keep hb12)
  have HY12 := Lib.hid (HY11.out.keep hb12)
  have HZ12 := Lib.hid (HZ11.out.keep hb12)
  have HS12 := Lib.hid (HS11.out.keep hb12)
  have HT12 := Lib.hid (HT11.out.keep hb12)
  have RWa12 := Lib.hid (RWa11.out.keep hb12)
  have RWt12 := Lib.hid (RWt11.out.keep hb12)
  have RWb12 := Lib.hid (RWb11.out.keep hb12)
  clear cX11a  cX11b  cX11l  cY11a  cY11b  cY11l  cZ11a  cZ11b  cZ11l  cS11a  cS11b  cS11l  cT11a  cT11b  cT11l  HX11 HY11 HZ11 HS11 HT11 RWa11 RWt11 RWb11 HB11 hb12 hw12
  have cX12a := HX12.out.c0
  have cX12b := HX12.out.c1
  have cX12l := HX12.out.lt
  have cY12a := HY12.out.c0
  have cY12b := HY12.out.c1
  have cY12l := HY12.out.lt
  have cZ12a := HZ12.out.c0
  have cZ12b := HZ12.out.c1
  have cZ12l := HZ12.out.lt
  have cS12a := HS12.out.c0
  have cS12b := HS12.out.c1
  have cS12l := HS12.out.lt
  have cT12a := HT12.out.c0
  have cT12b := HT12.out.c1
  have cT12l := HT12.out.lt
  have cK12a := HK12.out.c0
  have cK12b := HK12.out.c1
  have cK12l := HK12.out.lt
  refine (same_self n1 (.slice pb xs.length cb) u1 xs w12 RWb12.out (HR1.out.keep HB12.out)).mono ?_
  rintro e w13 ⟨rfl, hb13⟩
  have HB13 := Lib.hid (HB12.out.trans (hb13.mono HB12.out.size))
  have HX13 := Lib.hid (HX12.out.keep hb13)
  have HY13 := Lib.hid (HY12.out.keep hb13)
  have HZ13 := Lib.hid (HZ12.out.keep hb13)
  have HS13 := Lib.hid (HS12.out.keep hb13)
  have HT13 := Lib.hid (HT12.out.keep hb13)
  have HK13 := Lib.hid (HK12.out.keep hb13)
  have RWa13 := Lib.hid (RWa12.out.keep hb13)
  have RWt13 := Lib.hid (RWt12.out.keep hb13)
  have RWb13 := Lib.hid (RWb12.out.keep hb13)
  clear cX12a  cX12b  cX12l  cY12a  cY12b  cY12l  cZ12a  cZ12b  cZ12l  cS12a  cS12b  cS12l  cT12a  cT12b  cT12l  cK12a  cK12b  cK12l  HX12 HY12 HZ12 HS12 HT12 HK12 RWa12 RWt12 RWb12 HB12 hb13 
  have cX13a := HX13.out.c0
  have cX13b := HX13.out.c1
  have cX13l := HX13.out.lt
  have cY13a := HY13.out.c0
  have cY13b := HY13.out.c1
  have cY13l := HY13.out.lt
  have cZ13a := HZ13.out.c0
  have cZ13b := HZ13.out.c1
  have cZ13l := HZ13.out.lt
  have cS13a := HS13.out.c0
  have cS13b := HS13.out.c1
  have cS13l := HS13.out.lt
  have cT13a := HT13.out.c0
  have cT13b := HT13.out.c1
  have cT13l := HT13.out.lt
  have cK13a := HK13.out.c0
  have cK13b := HK13.out.c1
  have cK13l := HK13.out.lt
  go_wp2_with fail
  refine (mul_good n1 u1 xs _ n2 u2 ys _ w13 (HR1.out.keep HB13.out) (HR2.out.keep HB13.out) HS1.out.1 HS2.out.1 HS1.out.2 HS2.out.2).mono ?_
  rintro e w14 ⟨np, up, lp, ep, rfl, hMp, hb14, hCp⟩
  obtain ⟨pp, cp, rfl⟩ := MU.form hMp
  have HCp := Lib.hid (show ResCase _ np lp ep from hCp)
  have RWp14 := Lib.hid (show Rd w14 (.slice pp lp.length cp) lp from hMp.rd (ResCase.len17 HCp.out))
  clear hMp hCp
  have HB14 := Lib.hid (HB13.out.trans (hb14.mono HB13.out.size))
  have HX14 := Lib.hid (HX13.out.keep hb14)
  have HY14 := Lib.hid (HY13.out.keep hb14)
  have HZ14 := Lib.hid (HZ13.out.keep hb14)
  have HS14 := Lib.hid (HS13.out.keep hb14)
  have HT14 := Lib.hid (HT13.out.keep hb14)
  have HK14 := Lib.hid (HK13.out.keep hb14)
  have RWa14 := Lib.hid (RWa13.out.keep hb14)
  have RWt14 := Lib.hid (RWt13.out.keep hb14)
  have RWb14 := Lib.hid (RWb13.out.keep hb14)
  clear cX13a  cX13b  cX13l  cY13a  cY13b  cY13l  cZ13a  cZ13b  cZ13l  cS13a  cS13b  cS13l  cT13a  cT13b  cT13l  cK13a  cK13b  cK13l  HX13 HY13 HZ13 HS13 HT13 HK13 RWa13 RWt13 RWb13 HB13 hb14 
  have cX14a := HX14.out.c0
  have cX14b := HX14.out.c1
  have cX14l := HX14.out.lt
  have cY14a := HY14.out.c0
  have cY14b := HY14.out.c1
  have cY14l := HY14.out.lt
  have cZ14a := HZ14.out.c0
  have cZ14b := HZ14.out.c1
  have cZ14l := HZ14.out.lt
  have cS14a := HS14.out.c0
  have cS14b := HS14.out.c1
  have cS14l := HS14.out.lt
  have cT14a := HT14.out.c0
  have cT14b := HT14.out.c1
  have cT14l := HT14.out.lt
  have cK14a := HK14.out.c0
  have cK14b := HK14.out.c1
  have cK14l := HK14.out.lt
  go_wp2_with fail
  generalize hw15 : World.alloc w14 _ = w15
  have hb15 : Below w14.heap.size w14 w15 := by rw [← hw15]; exact (Below.refl _ _).alloc (Nat.le_refl _) _
  have HP15 := Lib.hid (show Box2 w15 w14.heap.size (.bool np) (.slice pp lp.length cp) by rw [← hw15]; exact Box2.new _ _ _ _ rfl)
  have HB15 := Lib.hid (HB14.out.trans (hb15.mono HB14.out.size))
  have HX15 := Lib.hid (HX14.out.keep hb15)
  have HY15 := Lib.hid (HY14.out.keep hb15)
  have HZ15 := Lib.hid (HZ14.out.keep hb15)
  have HS15 := Lib.hid (HS14.out.keep hb15)
  have HT15 := Lib.hid (HT14.out.keep hb15)
  have HK15 := Lib.hid (HK14.out.keep hb15)
  have RWa15 := Lib.hid (RWa14.out.keep hb15)
  have RWt15 := Lib.hid (RWt14.out.keep hb15)
  have RWb15 := Lib.hid (RWb14.out.keep hb15)
  have RWp15 := Lib.hid (RWp14.out.keep hb15)
  clear cX14a  cX14b  cX14l  cY14a  cY14b  cY14l  cZ14a  cZ14b  cZ14l  cS14a  cS14b  cS14l  cT14a  cT14b  cT14l  cK14a  cK14b  cK14l  HX14 HY14 HZ14 HS14 HT14 HK14 RWa14 RWt14 RWb14 RWp14 HB14 hb15 hw15
  have cX15a := HX15.out.c0
  have cX15b := HX15.out.c1
  have cX15l := HX15.out.lt
  have cY15a := HY15.out.c0
  have cY15b := HY15.out.c1
  have cY15l := HY15.out.lt
  have cZ15a := HZ15.out.c0
  have cZ15b := HZ15.out.c1
  have cZ15l := HZ15.out.lt
  have cS15a := HS15.out.c0
  have cS15b := HS15.out.c1
  have cS15l := HS15.out.lt
  have cT15a := HT15.out.c0
  have cT15b := HT15.out.c1
  have cT15l := HT15.out.lt
  have cK15a := HK15.out.c0
  have cK15b := HK15.out.c1
  have cK15l := HK15.out.lt
  have cP15a := HP15.out.c0
  have cP15b := HP15.out.c1
  have cP15l := HP15.out.lt
  refine (mul_good n2 u2 ys _ n1 u1 xs _ w15 (HR2.out.keep HB15.out) (HR1.out.keep HB15.out) HS2.out.1 HS1.out.1 HS2.out.2 HS1.out.2).mono ?_
  rintro e w16 ⟨nq, uq, lq, eq, rfl, hMq, hb16, hCq⟩
  obtain ⟨rfl, rfl, rfl⟩ := ResCase.uniq HCp.out (show ResCase _ nq lq eq from by have h := hCq; rwa [Int.mul_comm] at h)
  obtain ⟨pq, cq, rfl⟩ := MU.form hMq
  have RWq16 := Lib.hid (show Rd w16 (.slice pq lp.length cq) lp from hMq.rd (ResCase.len17 HCp.out))
  clear hMq hCq
  have HB16 := Lib.hid (HB15.out.trans (hb16.mono HB15.out.size))
  have HX16 := Lib.hid (HX15.out.keep hb16)
  have HY16 := Lib.hid (HY15.out.keep hb16)
  have HZ16 := Lib.hid (HZ15.out.keep hb16)
  have HS16 := Lib.hid (HS15.out.keep hb16)
  have HT16 := Lib.hid (HT15.out.keep hb16)
  have HK16 := Lib.hid (HK15.out.keep hb16)
  have HP16 := Lib.hid (HP15.out.keep hb16)
  have RWa16 := Lib.hid (RWa15.out.keep hb16)
  have RWt16 := Lib.hid (RWt15.out.keep hb16)
  have RWb16 := Lib.hid (RWb15.out.keep hb16)
  have RWp16 := Lib.hid (RWp15.out.keep hb16)
  clear cX15a  cX15b  cX15l  cY15a  cY15b  cY15l  cZ15a  cZ15b  cZ15l  cS15a  cS15b  cS15l  cT15a  cT15b  cT15l  cK15a  cK15b  cK15l  cP15a  cP15b  cP15l  HX15 HY15 HZ15 HS15 HT15 HK15 HP15 RWa15 RWt15 RWb15 RWp15 HB15 hb16 
  have cX16a := HX16.out.c0
  have cX16b := HX16.out.c1
  have cX16l := HX16.out.lt
  have cY16a := HY16.out.c0
  have cY16b := HY16.out.c1
  have cY16l := HY16.out.lt
  have cZ16a := HZ16.out.c0
  have cZ16b := HZ16.out.c1
  have cZ16l := HZ16.out.lt
  have cS16a := HS16.out.c0
  have cS16b := HS16.out.c1
  have cS16l := HS16.out.lt
  have cT16a := HT16.out.c0
  have cT16b := HT16.out.c1
  have cT16l := HT16.out.lt
  have cK16a := HK16.out.c0
  have cK16b := HK16.out.c1
  have cK16l := HK16.out.lt
  have cP16a := HP16.out.c0
  have cP16b := HP16.out.c1
  have cP16l := HP16.out.lt
  go_wp2_with fail
  generalize hw17 : World.alloc w16 _ = w17
  have hb17 : Below w16.heap.size w16 w17 := by rw [← hw17]; exact (Below.refl _ _).alloc (Nat.le_refl _) _
  have HQ17 := Lib.hid (show Box2 w17 w16.heap.size (.bool np) (.slice pq lp.length cq) by rw [← hw17]; exact Box2.new _ _ _ _ rfl)
  have HB17 := Lib.hid (HB16.out.trans (hb17.mono HB16.out.size))
  have HX17 := Lib.hid (HX16.out.keep hb17)
  have HY17 := Lib.hid (HY16.out.keep hb17)
  have HZ17 := Lib.hid (HZ16.out.keep hb17)
  have HS17 := Lib.hid (HS16.out.keep hb17)
  have HT17 := Lib.hid (HT16.out.keep hb17)
  have HK17 := Lib.hid (HK16.out.keep hb17)
  have HP17 := Lib.hid (HP16.out.keep hb17)
  have RWa17 := Lib.hid (RWa16.out.keep hb17)
  have RWt17 := Lib.hid (RWt16.out.keep hb17)
  have RWb17 := Lib.hid (RWb16.out.keep hb17)
  have RWp17 := Lib.hid (RWp16.out.keep hb17)
  have RWq17 := Lib.hid (RWq16.out.keep hb17)
  clear cX16a  cX16b  cX16l  cY16a  cY16b  cY16l  cZ16a  cZ16b  cZ16l  cS16a  cS16b  cS16l  cT16a  cT16b  cT16l  cK16a  cK16b  cK16l  cP16a  cP16b  cP16l  HX16 HY16 HZ16 HS16 HT16 HK16 HP16 RWa16 RWt16 RWb16 RWp16 RWq16 HB16 hb17 hw17
  have cX17a := HX17.out.c0
  have cX17b := HX17.out.c1
  have cX17l := HX17.out.lt
  have cY17a := HY17.out.c0
  have cY17b := HY17.out.c1
  have cY17l := HY17.out.lt
  have cZ17a := HZ17.out.c0
  have cZ17b := HZ17.out.c1
  have cZ17l := HZ17.out.lt
  have cS17a := HS17.out.c0
  have cS17b := HS17.out.c1
  have cS17l := HS17.out.lt
  have cT17a := HT17.out.c0
  have cT17b := HT17.out.c1
  have cT17l := HT17.out.lt
  have cK17a := HK17.out.c0
  have cK17b := HK17.out.c1
  have cK17l := HK17.out.lt
  have cP17a := HP17.out.c0
  have cP17b := HP17.out.c1
  have cP17l := HP17.out.lt
  have cQ17a := HQ17.out.c0
  have cQ17b := HQ17.out.c1
  have cQ17l := HQ17.out.lt
  refine (same_self np (.slice pp lp.length cp) (.slice pq lp.length cq) lp w17 RWp17.out RWq17.out).mono ?_
  rintro e w18 ⟨rfl, hb18⟩
  have HB18 := Lib.hid (HB17.out.trans (hb18.mono HB17.out.size))
  have HX18 := Lib.hid (HX17.out.keep hb18)
  have HY18 := Lib.hid (HY17.out.keep hb18)
  have HZ18 := Lib.hid (HZ17.out.keep hb18)
  have HS18 := Lib.hid (HS17.out.keep hb18)
  have HT18 := Lib.hid (HT17.out.keep hb18)
  have HK18 := Lib.hid (HK17.out.keep hb18)
  have HP18 := Lib.hid (HP17.out.keep hb18)
  have HQ18 := Lib.hid (HQ17.out.keep hb18)
  have RWa18 := Lib.hid (RWa17.out.keep hb18)
  have RWt18 := Lib.hid (RWt17.out.keep hb18)
  have RWb18 := Lib.hid (RWb17.out.keep hb18)
  have RWp18 := Lib.hid (RWp17.out.keep hb18)
  have RWq18 := Lib.hid (RWq17.out.keep hb18)
  clear cX17a  cX17b  cX17l  cY17a  cY17b  cY17l  cZ17a  cZ17b  cZ17l  cS17a  cS17b  cS17l  cT17a  cT17b  cT17l  cK17a  cK17b  cK17l  cP17a  cP17b  cP17l  cQ17a  cQ17b  cQ17l  HX17 HY17 HZ17 HS17 HT17 HK17 HP17 HQ17 RWa17 RWt17 RWb17 RWp17 RWq17 HB17 hb18 
  have cX18a := HX18.out.c0
  have cX18b := HX18.out.c1
  have cX18l := HX18.out.lt
  have cY18a := HY18.out.c0
  have cY18b := HY18.out.c1
  have cY18l := HY18.out.lt
  have cZ18a := HZ18.out.c0
  have cZ18b := HZ18.out.c1
  have cZ18l := HZ18.out.lt
  have cS18a := HS18.out.c0
  have cS18b := HS18.out.c1
  have cS18l := HS18.out.lt
  have cT18a := HT18.out.c0
  have cT18b := HT18.out.c1
  have cT18l := HT18.out.lt
  have cK18a := HK18.out.c0
  have cK18b := HK18.out.c1
  have cK18l := HK18.out.lt
  have cP18a := HP18.out.c0
  have cP18b := HP18.out.c1
  have cP18l := HP18.out.lt
  have cQ18a := HQ18.out.c0
  have cQ18b := HQ18.out.c1
  have cQ18l := HQ18.out.lt
  go_wp2_with fail
  refine (add_good n2 u2 ys _ n3 u3 zs _ w18 (HR2.out.keep HB18.out) (HR3.out.keep HB18.out) HS2.out.1 HS3.out.1 HS2.out.2 HS3.out.2).mono ?_
  rintro e w19 ⟨ny, uy, ly, ey, rfl, hMy, hb19, hCy⟩
  obtain ⟨py, cy, rfl⟩ := MU.form hMy
  have HCy := Lib.hid (show ResCase _ ny ly ey from hCy)
  have RWy19 := Lib.hid (show Rd w19 (.slice py ly.length cy) ly from hMy.rd (ResCase.len17 HCy.out))
  clear hMy hCy
  have HB19 := Lib.hid (HB18.out.trans (hb19.mono HB18.out.size))
  have HX19 := Lib.hid (HX18.out.keep hb19)
  have HY19 := Lib.hid (HY18.out.keep hb19)
  have HZ19 := Lib.hid (HZ18.out.keep hb19)
  have HS19 := Lib.hid (HS18.out.keep hb19)
  have HT19 := Lib.hid (HT18.out.keep hb19)
  have HK19 := Lib.hid (HK18.out.keep hb19)
  have HP19 := Lib.hid (HP18.out.keep hb19)
  have HQ19 := Lib.hid (HQ18.out.keep hb19)
  have RWa19 := Lib.hid (RWa18.out.keep hb19)
  have RWt19 := Lib.hid (RWt18.out.keep hb19)
  have RWb19 := Lib.hid (RWb18.out.keep hb19)
  have RWp19 := Lib.hid (RWp18.out.keep hb19)
  have RWq19 := Lib.hid (RWq18.out.keep hb19)
  clear cX18a  cX18b  cX18l  cY18a  cY18b  cY18l  cZ18a  cZ18b  cZ18l  cS18a  cS18b  cS18l  cT18a  cT18b  cT18l  cK18a  cK18b  cK18l  cP18a  cP18b  cP18l  cQ18a  cQ18b  cQ18l  HX18 HY18 HZ18 HS18 HT18 HK18 HP18 HQ18 RWa18 RWt18 RWb18 RWp18 RWq18 HB18 hb19 
  have cX19a := HX19.out.c0
  have cX19b := HX19.out.c1
  have cX19l := HX19.out.lt
  have cY19a := HY19.out.c0
  have cY19b := HY19.out.c1
  have cY19l := HY19.out.lt
  have cZ19a := HZ19.out.c0
  have cZ19b := HZ19.out.c1
  have cZ19l := HZ19.out.lt
  have cS19a := HS19.out.c0
  have cS19b := HS19.out.c1
  have cS19l := HS19.out.lt
  have cT19a := HT19.out.c0
  have cT19b := HT19.out.c1
  have cT19l := HT19.out.lt
  have cK19a := HK19.out.c0
  have cK19b := HK19.out.c1
  have cK19l := HK19.out.lt
  have cP19a := HP19.out.c0
  have cP19b := HP19.out.c1
  have cP19l := HP19.out.lt
  have cQ19a := HQ19.out.c0
  have cQ19b := HQ19.out.c1
  have cQ19l := HQ19.out.lt
  go_wp2_with fail
  generalize hw20 : World.alloc w19 _ = w20
  have hb20 : Below w19.heap.size w19 w20 := by rw [← hw20]; exact (Below.refl _ _).alloc (Nat.le_refl _) _
  have HU20 := Lib.hid (show Box2 w20 w19.heap.size (.bool ny) (.slice py ly.length cy) by rw [← hw20]; exact Box2.new _ _ _ _ rfl)
  have HB20 := Lib.hid (HB19.out.trans (hb20.mono HB19.out.size))
  have HX20 := Lib.hid (HX19.out.keep hb20)
  have HY20 := Lib.hid (HY19.out.keep hb20)
  have HZ20 := Lib.hid (HZ19.out.keep hb20)
  have HS20 := Lib.hid (HS19.out.keep hb20)
  have HT20 := Lib.hid (HT19.out.keep hb20)
  have HK20 := Lib.hid (HK19.out.keep hb20)
  have HP20 := Lib.hid (HP19.out.keep hb20)
  have HQ20 := Lib.hid (HQ19.out.keep hb20)
  have RWa20 := Lib.hid (RWa19.out.keep hb20)
  have RWt20 := Lib.hid (RWt19.out.keep hb20)
  have RWb20 := Lib.hid (RWb19.out.keep hb20)
  have RWp20 := Lib.hid (RWp19.out.keep hb20)
  have RWq20 := Lib.hid (RWq19.out.keep hb20)
  have RWy20 := Lib.hid (RWy19.out.keep hb20)
  clear cX19a  cX19b  cX19l  cY19a  cY19b  cY19l  cZ19a  cZ19b  cZ19l  cS19a  cS19b  cS19l  cT19a  cT19b  cT19l  cK19a  cK19b  cK19l  cP19a  cP19b  cP19l  cQ19a  cQ19b  cQ19l  HX19 HY19 HZ19 HS19 HT19 HK19 HP19 HQ19 RWa19 RWt19 RWb19 RWp19 RWq19 RWy19 HB19 hb20 hw20
  have cX20a := HX20.out.c0
  have cX20b := HX20.out.c1
  have cX20l := HX20.out.lt
  have cY20a := HY20.out.c0
  have cY20b := HY20.out.c1
  have cY20l := HY20.out.lt
  have cZ20a := HZ20.out.c0
  have cZ20b := HZ20.out.c1
  have cZ20l := HZ20.out.lt
  have cS20a := HS20.out.c0
  have cS20b := HS20.out.c1
  have cS20l := HS20.out.lt
  have cT20a := HT20.out.c0
  have cT20b := HT20.out.c1
  have cT20l := HT20.out.lt
  have cK20a := HK20.out.c0
  have cK20b := HK20.out.c1
  have cK20l := HK20.out.lt
  have cP20a := HP20.out.c0
  have cP20b := HP20.out.c1
  have cP20l := HP20.out.lt
  have cQ20a := HQ20.out.c0
  have cQ20b := HQ20.out.c1
  have cQ20l := HQ20.out.lt
  have cU20a := HU20.out.c0
  have cU20b := HU20.out.c1
  have cU20l := HU20.out.lt
  have HSy := Lib.hid (ResCase.sgn HCy.out)
  refine (mul_good n1 u1 xs _ ny (.slice py ly.length cy) ly _ w20 (HR1.out.keep HB20.out) RWy20.out HS1.out.1 HSy.out.1 HS1.out.2 HSy.out.2).mono ?_
  rintro e w21 ⟨nl, ul, ll, el, rfl, hMl, hb21, hCl⟩
  obtain ⟨pl, cl, rfl⟩ := MU.form hMl
  have HCl := Lib.hid (show ResCase _ nl ll el from hCl)
  have RWl21 := Lib.hid (show Rd w21 (.slice pl ll.length cl) ll from hMl.rd (ResCase.len17 HCl.out))
  clear hMl hCl
  have HB21 := Lib.hid (HB20.out.trans (hb21.mono HB20.out.size))
  have HX21 := Lib.hid (HX20.out.keep hb21)
  have HY21 := Lib.hid (HY20.out.keep hb21)
  have HZ21 := Lib.hid (HZ20.out.keep hb21)
  have HS21 := Lib.hid (HS20.out.keep hb21)
  have HT21 := Lib.hid (HT20.out.keep hb21)
  have HK21 := Lib.hid (HK20.out.keep hb21)
  have HP21 := Lib.hid (HP20.out.keep hb21)
  have HQ21 := Lib.hid (HQ20.out.keep hb21)
  have HU21 := Lib.hid (HU20.out.keep hb21)
  have RWa21 := Lib.hid (RWa20.out.keep hb21)
  have RWt21 := Lib.hid (RWt20.out.keep hb21)
  have RWb21 := Lib.hid (RWb20.out.keep hb21)
  have RWp21 := Lib.hid (RWp20.out.keep hb21)
  have RWq21 := Lib.hid (RWq20.out.keep hb21)
  have RWy21 := Lib.hid (RWy20.out.keep hb21)
  clear cX20a  cX20b  cX20l  cY20a  cY20b  cY20l  cZ20a  cZ20b  cZ20l  cS20a  cS20b  cS20l  cT20a  cT20b  cT20l  cK20a  cK20b  cK20l  cP20a  cP20b  cP20l  cQ20a  cQ20b  cQ20l  cU20a  cU20b  cU20l  HX20 HY20 HZ20 HS20 HT20 HK20 HP20 HQ20 HU20 RWa20 RWt20 RWb20 RWp20 RWq20 RWy20 HB20 hb21 
  have cX21a := HX21.out.c0
  have cX21b := HX21.out.c1
  have cX21l := HX21.out.lt
  have cY21a := HY21.out.c0
  have cY21b := HY21.out.c1
  have cY21l := HY21.out.lt
  have cZ21a := HZ21.out.c0
  have cZ21b := HZ21.out.c1
  have cZ21l := HZ21.out.lt
  have cS21a := HS21.out.c0
  have cS21b := HS21.out.c1
  have cS21l := HS21.out.lt
  have cT21a := HT21.out.c0
  have cT21b := HT21.out.c1
  have cT21l := HT21.out.lt
  have cK21a := HK21.out.c0
  have cK21b := HK21.out.c1
  have cK21l := HK21.out.lt
  have cP21a := HP21.out.c0
  have cP21b := HP21.out.c1
  have cP21l := HP21.out.lt
  have cQ21a := HQ21.out.c0
  have cQ21b := HQ21.out.c1
  have cQ21l := HQ21.out.lt
  have cU21a := HU21.out.c0
  have cU21b := HU21.out.c1
  have cU21l := HU21.out.lt
  go_wp2_with fail
  generalize hw22 : World.alloc w21 _ = w22
  have hb22 : Below w21.heap.size w21 w22 := by rw [← hw22]; exact (Below.refl _ _).alloc (Nat.le_refl _) _
  have HV22 := Lib.hid (show Box2 w22 w21.heap.size (.bool nl) (.slice pl ll.length cl) by rw [← hw22]; exact Box2.new _ _ _ _ rfl)
  have HB22 := Lib.hid (HB21.out.trans (hb22.mono HB21.out.size))
  have HX22 := Lib.hid (HX21.out.keep hb22)
  have HY22 := Lib.hid (HY21.out.keep hb22)
  have HZ22 := Lib.hid (HZ21.out.keep hb22)
  have HS22 := Lib.hid (HS21.out.keep hb22)
  have HT22 := Lib.hid (HT21.out.keep hb22)
  have HK22 := Lib.hid (HK21.out.keep hb22)
  have HP22 := Lib.hid (HP21.out.keep hb22)
  have HQ22 := Lib.hid (HQ21.out.keep hb22)
  have HU22 := Lib.hid (HU21.out.keep hb22)
  have RWa22 := Lib.hid (RWa21.out.keep hb22)
  have RWt22 := Lib.hid (RWt21.out.keep hb22)
  have RWb22 := Lib.hid (RWb21.out.keep hb22)
  have RWp22 := Lib.hid (RWp21.out.keep hb22)
  have RWq22 := Lib.hid (RWq21.out.keep hb22)
  have RWy22 := Lib.hid (RWy21.out.keep hb22)
  have RWl22 := Lib.hid (RWl21.out.keep hb22)
  clear cX21a  cX21b  cX21l  cY21a  cY21b  cY21l  cZ21a  cZ21b  cZ21l  cS21a  cS21b  cS21l  cT21a  cT21b  cT21l  cK21a  cK21b  cK21l  cP21a  cP21b  cP21l  cQ21a  cQ21b  cQ21l  cU21a  cU21b  cU21l  HX21 HY21 HZ21 HS21 HT21 HK21 HP21 HQ21 HU21 RWa21 RWt21 RWb21 RWp21 RWq21 RWy21 RWl21 HB21 hb22 hw22
  have cX22a := HX22.out.c0
  have cX22b := HX22.out.c1
  have cX22l := HX22.out.lt
  have cY22a := HY22.out.c0
  have cY22b := HY22.out.c1
  have cY22l := HY22.out.lt
  have cZ22a := HZ22.out.c0
  have cZ22b := HZ22.out.c1
  have cZ22l := HZ22.out.lt
  have cS22a := HS22.out.c0
  have cS22b := HS22.out.c1
  have cS22l := HS22.out.lt
  have cT22a := HT22.out.c0
  have cT22b := HT22.out.c1
  have cT22l := HT22.out.lt
  have cK22a := HK22.out.c0
  have cK22b := HK22.out.c1
  have cK22l := HK22.out.lt
  have cP22a := HP22.out.c0
  have cP22b := HP22.out.c1
  have cP22l := HP22.out.lt
  have cQ22a := HQ22.out.c0
  have cQ22b := HQ22.out.c1
  have cQ22l := HQ22.out.lt
  have cU22a := HU22.out.c0
  have cU22b := HU22.out.c1
  have cU22l := HU22.out.lt
  have cV22a := HV22.out.c0
  have cV22b := HV22.out.c1
  have cV22l := HV22.out.lt
  refine (mul_good n1 u1 xs _ n3 u3 zs _ w22 (HR1.out.keep HB22.out) (HR3.out.keep HB22.out) HS1.out.1 HS3.out.1 HS1.out.2 HS3.out.2).mono ?_
  rintro e w23 ⟨ng, ug, lg, eg, rfl, hMg, hb23, hCg⟩
  obtain ⟨pg, cg, rfl⟩ := MU.form hMg
  have HCg := Lib.hid (show ResCase _ ng lg eg from hCg)
  have RWg23 := Lib.hid (show Rd w23 (.slice pg lg.length cg) lg from hMg.rd (ResCase.len17 HCg.out))
  clear hMg hCg
  have HB23 := Lib.hid (HB22.out.trans (hb23.mono HB22.out.size))
  have HX23 := Lib.hid (HX22.out.keep hb23)
  have HY23 := Lib.hid (HY22.out.keep hb23)
  have HZ23 := Lib.hid (HZ22.out.keep hb23)
  have HS23 := Lib.hid (HS22.out.keep hb23)
  have HT23 := Lib.hid (HT22.out.keep hb23)
  have HK23 := Lib.hid (HK22.out.keep hb23)
  have HP23 := Lib.hid (HP22.out.keep hb23)
  have HQ23 := Lib.hid (HQ22.out.keep hb23)
  have HU23 := Lib.hid (HU22.out.keep hb23)
  have HV23 := Lib.hid (HV22.out.keep hb23)
  have RWa23 := Lib.hid (RWa22.out.keep hb23)
  have RWt23 := Lib.hid (RWt22.out.keep hb23)
  have RWb23 := Lib.hid (RWb22.out.keep hb23)
  have RWp23 := Lib.hid (RWp22.out.keep hb23)
  have RWq23 := Lib.hid (RWq22.out.keep hb23)
  have RWy23 := Lib.hid (RWy22.out.keep hb23)
  have RWl23 := Lib.hid (RWl22.out.keep hb23)
  clear cX22a  cX22b  cX22l  cY22a  cY22b  cY22l  cZ22a  cZ22b  cZ22l  cS22a  cS22b  cS22l  cT22a  cT22b  cT22l  cK22a  cK22b  cK22l  cP22a  cP22b  cP22l  cQ22a  cQ22b  cQ22l  cU22a  cU22b  cU22l  cV22a  cV22b  cV22l  HX22 HY22 HZ22 HS22 HT22 HK22 HP22 HQ22 HU22 HV22 RWa22 RWt22 RWb22 RWp22 RWq22 RWy22 RWl22 HB22 hb23 
  have cX23a := HX23.out.c0
  have cX23b := HX23.out.c1
  have cX23l := HX23.out.lt
  have cY23a := HY23.out.c0
  have cY23b := HY23.out.c1
  have cY23l := HY23.out.lt
  have cZ23a := HZ23.out.c0
  have cZ23b := HZ23.out.c1
  have cZ23l := HZ23.out.lt
  have cS23a := HS23.out.c0
  have cS23b := HS23.out.c1
  have cS23l := HS23.out.lt
  have cT23a := HT23.out.c0
  have cT23b := HT23.out.c1
  have cT23l := HT23.out.lt
  have cK23a := HK23.out.c0
  have cK23b := HK23.out.c1
  have cK23l := HK23.out.lt
  have cP23a := HP23.out.c0
  have cP23b := HP23.out.c1
  have cP23l := HP23.out.lt
  have cQ23a := HQ23.out.c0
  have cQ23b := HQ23.out.c1
  have cQ23l := HQ23.out.lt
  have cU23a := HU23.out.c0
  have cU23b := HU23.out.c1
  have cU23l := HU23.out.lt
  have cV23a := HV23.out.c0
  have cV23b := HV23.out.c1
  have cV23l := HV23.out.lt
  go_wp2_with fail
  generalize hw24 : World.alloc w23 _ = w24
  have hb24 : Below w23.heap.size w23 w24 := by rw [← hw24]; exact (Below.refl _ _).alloc (Nat.le_refl _) _
  have HG24 := Lib.hid (show Box2 w24 w23.heap.size (.bool ng) (.slice pg lg.length cg) by rw [← hw24]; exact Box2.new _ _ _ _ rfl)
  have HB24 := Lib.hid (HB23.out.trans (hb24.mono HB23.out.size))
  have HX24 := Lib.hid (HX23.out.keep hb24)
  have HY24 := Lib.hid (HY23.out.keep hb24)
  have HZ24 := Lib.hid (HZ23.out.keep hb24)
  have HS24 := Lib.hid (HS23.out.keep hb24)
  have HT24 := Lib.hid (HT23.out.keep hb24)
  have HK24 := Lib.hid (HK23.out.keep hb24)
  have HP24 := Lib.hid (HP23.out.keep hb24)
  have HQ24 := Lib.hid (HQ23.out.keep hb24)
  have HU24 := Lib.hid (HU23.out.keep hb24)
  have HV24 := Lib.hid (HV23.out.keep hb24)
  have RWa24 := Lib.hid (RWa23.out.keep hb24)
  have RWt24 := Lib.hid (RWt23.out.keep hb24)
  have RWb24 := Lib.hid (RWb23.out.keep hb24)
  have RWp24 := Lib.hid (RWp23.out.keep hb24)
  have RWq24 := Lib.hid (RWq23.out.keep hb24)
  have RWy24 := Lib.hid (RWy23.out.keep hb24)
  have RWl24 := Lib.hid (RWl23.out.keep hb24)
  have RWg24 := Lib.hid (RWg23.out.keep hb24)
  clear cX23a  cX23b  cX23l  cY23a  cY23b  cY23l  cZ23a  cZ23b  cZ23l  cS23a  cS23b  cS23l  cT23a  cT23b  cT23l  cK23a  cK23b  cK23l  cP23a  cP23b  cP23l  cQ23a  cQ23b  cQ23l  cU23a  cU23b  cU23l  cV23a  cV23b  cV23l  HX23 HY23 HZ23 HS23 HT23 HK23 HP23 HQ23 HU23 HV23 RWa23 RWt23 RWb23 RWp23 RWq23 RWy23 RWl23 RWg23 HB23 hb24 hw24
  have cX24a := HX24.out.c0
  have cX24b := HX24.out.c1
  have cX24l := HX24.out.lt
  have cY24a := HY24.out.c0
  have cY24b := HY24.out.c1
  have cY24l := HY24.out.lt
  have cZ24a := HZ24.out.c0
  have cZ24b := HZ24.out.c1
  have cZ24l := HZ24.out.lt
  have cS24a := HS24.out.c0
  have cS24b := HS24.out.c1
  have cS24l := HS24.out.lt
  have cT24a := HT24.out.c0
  have cT24b := HT24.out.c1
  have cT24l := HT24.out.lt
  have cK24a := HK24.out.c0
  have cK24b := HK24.out.c1
  have cK24l := HK24.out.lt
  have cP24a := HP24.out.c0
  have cP24b := HP24.out.c1
  have cP24l := HP24.out.lt
  have cQ24a := HQ24.out.c0
  have cQ24b := HQ24.out.c1
  have cQ24l := HQ24.out.lt
  have cU24a := HU24.out.c0
  have cU24b := HU24.out.c1
  have cU24l := HU24.out.lt
  have cV24a := HV24.out.c0
  have cV24b := HV24.out.c1
  have cV24l := HV24.out.lt
  have cG24a := HG24.out.c0
  have cG24b := HG24.out.c1
  have cG24l := HG24.out.lt
  have HSg := Lib.hid (ResCase.sgn HCg.out)
  refine (mul_good n1 u1 xs _ n2 u2 ys _ w24 (HR1.out.keep HB24.out) (HR2.out.keep HB24.out) HS1.out.1 HS2.out.1 HS1.out.2 HS2.out.2).mono ?_
  rintro e w25 ⟨nh, uh, lh, eh, rfl, hMh, hb25, hCh⟩
  obtain ⟨ph, ch, rfl⟩ := MU.form hMh
  have HCh := Lib.hid (show ResCase _ nh lh eh from hCh)
  have RWh25 := Lib.hid (show Rd w25 (.slice ph lh.length ch) lh from hMh.rd (ResCase.len17 HCh.out))
  clear hMh hCh
  have HB25 := Lib.hid (HB24.out.trans (hb25.mono HB24.out.size))
  have HX25 := Lib.hid (HX24.out.keep hb25)
  have HY25 := Lib.hid (HY24.out.keep hb25)
  have HZ25 := Lib.hid (HZ24.out.keep hb25)
  have HS25 := Lib.hid (HS24.out.keep hb25)
  have HT25 := Lib.hid (HT24.out.keep hb25)
  have HK25 := Lib.hid (HK24.out.keep hb25)
  have HP25 := Lib.hid (HP24.out.keep hb25)
  have HQ25 := Lib.hid (HQ24.out.keep hb25)
  have HU25 := Lib.hid (HU24.out.keep hb25)
  have HV25 := Lib.hid (HV24.out.keep hb25)
  have HG25 := Lib.hid (HG24.out.keep hb25)
  have RWa25 := Lib.hid (RWa24.out.keep hb25)
  have RWt25 := Lib.hid (RWt24.out.keep hb25)
  have RWb25 := Lib.hid (RWb24.out.keep hb25)
  have RWp25 := Lib.hid (RWp24.out.keep hb25)
  have RWq25 := Lib.hid (RWq24.out.keep hb25)
  have RWy25 := Lib.hid (RWy24.out.keep hb25)
  have RWl25 := Lib.hid (RWl24.out.keep hb25)
  have RWg25 := Lib.hid (RWg24.out.keep hb25)
  clear cX24a  cX24b  cX24l  cY24a  cY24b  cY24l  cZ24a  cZ24b  cZ24l  cS24a  cS24b  cS24l  cT24a  cT24b  cT24l  cK24a  cK24b  cK24l  cP24a  cP24b  cP24l  cQ24a  cQ24b  cQ24l  cU24a  cU24b  cU24l  cV24a  cV24b  cV24l  cG24a  cG24b  cG24l  HX24 HY24 HZ24 HS24 HT24 HK24 HP24 HQ24 HU24 HV24 HG24 RWa24 RWt24 RWb24 RWp24 RWq24 RWy24 RWl24 RWg24 HB24 hb25 
  have cX25a := HX25.out.c0
  have cX25b := HX25.out.c1
  have cX25l := HX25.out.lt
  have cY25a := HY25.out.c0
  have cY25b := HY25.out.c1
  have cY25l := HY25.out.lt
  have cZ25a := HZ25.out.c0
  have cZ25b := HZ25.out.c1
  have cZ25l := HZ25.out.lt
  have cS25a := HS25.out.c0
  have cS25b := HS25.out.c1
  have cS25l := HS25.out.lt
  have cT25a := HT25.out.c0
  have cT25b := HT25.out.c1
  have cT25l := HT25.out.lt
  have cK25a := HK25.out.c0
  have cK25b := HK25.out.c1
  have cK25l := HK25.out.lt
  have cP25a := HP25.out.c0
  have cP25b := HP25.out.c1
  have cP25l := HP25.out.lt
  have cQ25a := HQ25.out.c0
  have cQ25b := HQ25.out.c1
  have cQ25l := HQ25.out.lt
  have cU25a := HU25.out.c0
  have cU25b := HU25.out.c1
  have cU25l := HU25.out.lt
  have cV25a := HV25.out.c0
  have cV25b := HV25.out.c1
  have cV25l := HV25.out.lt
  have cG25a := HG25.out.c0
  have cG25b := HG25.out.c1
  have cG25l := HG25.out.lt
  go_wp2_with fail
  generalize hw26 : World.alloc w25 _ = w26
  have hb26 : Below w25.heap.size w25 w26 := by rw [← hw26]; exact (Below.refl _ _).alloc (Nat.le_refl _) _
  have HH26 := Lib.hid (show Box2 w26 w25.heap.size (.bool nh) (.slice ph lh.length ch) by rw [← hw26]; exact Box2.new _ _ _ _ rfl)
  have HB26 := Lib.hid (HB25.out.trans (hb26.mono HB25.out.size))
  have HX26 := Lib.hid (HX25.out.keep hb26)
  have HY26 := Lib.hid (HY25.out.keep hb26)
  have HZ26 := Lib.hid (HZ25.out.keep hb26)
  have HS26 := Lib.hid (HS25.out.keep hb26)
  have HT26 := Lib.hid (HT25.out.keep hb26)
  have HK26 := Lib.hid (HK25.out.keep hb26)
  have HP26 := Lib.hid (HP25.out.keep hb26)
  have HQ26 := Lib.hid (HQ25.out.keep hb26)
  have HU26 := Lib.hid (HU25.out.keep hb26)
  have HV26 := Lib.hid (HV25.out.keep hb26)
  have HG26 := Lib.hid (HG25.out.keep hb26)
  have RWa26 := Lib.hid (RWa25.out.keep hb26)
  have RWt26 := Lib.hid (RWt25.out.keep hb26)
  have RWb26 := Lib.hid (RWb25.out.keep hb26)
  have RWp26 := Lib.hid (RWp25.out.keep hb26)
  have RWq26 := Lib.hid (RWq25.out.keep hb26)
  have RWy26 := Lib.hid (RWy25.out.keep hb26)
  have RWl26 := Lib.hid (RWl25.out.keep hb26)
  have RWg26 := Lib.hid (RWg25.out.keep hb26)
  have RWh26 := Lib.hid (RWh25.out.keep hb26)
  clear cX25a  cX25b  cX25l  cY25a  cY25b  cY25l  cZ25a  cZ25b  cZ25l  cS25a  cS25b  cS25l  cT25a  cT25b  cT25l  cK25a  cK25b  cK25l  cP25a  cP25b  cP25l  cQ25a  cQ25b  cQ25l  cU25a  cU25b  cU25l  cV25a  cV25b  cV25l  cG25a  cG25b  cG25l  HX25 HY25 HZ25 HS25 HT25 HK25 HP25 HQ25 HU25 HV25 HG25 RWa25 RWt25 RWb25 RWp25 RWq25 RWy25 RWl25 RWg25 RWh25 HB25 hb26 hw26
  have cX26a := HX26.out.c0
  have cX26b := HX26.out.c1
  have cX26l := HX26.out.lt
  have cY26a := HY26.out.c0
  have cY26b := HY26.out.c1
  have cY26l := HY26.out.lt
  have cZ26a := HZ26.out.c0
  have cZ26b := HZ26.out.c1
  have cZ26l := HZ26.out.lt
  have cS26a := HS26.out.c0
  have cS26b := HS26.out.c1
  have cS26l := HS26.out.lt
  have cT26a := HT26.out.c0
  have cT26b := HT26.out.c1
  have cT26l := HT26.out.lt
  have cK26a := HK26.out.c0
  have cK26b := HK26.out.c1
  have cK26l := HK26.out.lt
  have cP26a := HP26.out.c0
  have cP26b := HP26.out.c1
  have cP26l := HP26.out.lt
  have cQ26a := HQ26.out.c0
  have cQ26b := HQ26.out.c1
  have cQ26l := HQ26.out.lt
  have cU26a := HU26.out.c0
  have cU26b := HU26.out.c1
  have cU26l := HU26.out.lt
  have cV26a := HV26.out.c0
  have cV26b := HV26.out.c1
  have cV26l := HV26.out.lt
  have cG26a := HG26.out.c0
  have cG26b := HG26.out.c1
  have cG26l := HG26.out.lt
  have cH26a := HH26.out.c0
  have cH26b := HH26.out.c1
  have cH26l := HH26.out.lt
  have HSh := Lib.hid (ResCase.sgn HCh.out)
  refine (add_good nh (.slice ph lh.length ch) lh _ ng (.slice pg lg.length cg) lg _ w26 RWh26.out RWg26.out HSh.out.1 HSg.out.1 HSh.out.2 HSg.out.2).mono ?_
  rintro e w27 ⟨nr, ur, lr, er, rfl, hMr, hb27, hCr⟩
  obtain ⟨pr, cr, rfl⟩ := MU.form hMr
  have HCr := Lib.hid (show ResCase _ nr lr er from hCr)
  have RWr27 := Lib.hid (show Rd w27 (.slice pr lr.length cr) lr from hMr.rd (ResCase.len17 HCr.out))
  clear hMr hCr
  have HB27 := Lib.hid (HB26.out.trans (hb27.mono HB26.out.size))
  have HX27 := Lib.hid (HX26.out.keep hb27)
  have HY27 := Lib.hid (HY26.out.keep hb27)
  have HZ27 := Lib.hid (HZ26.out.keep hb27)
  have HS27 := Lib.hid (HS26.out.keep hb27)
  have HT27 := Lib.hid (HT26.out.keep hb27)
  have HK27 := Lib.hid (HK26.out.keep hb27)
  have HP27 := Lib.hid (HP26.out.keep hb27)
  have HQ27 := Lib.hid (HQ26.out.keep hb27)
  have HU27 := Lib.hid (HU26.out.keep hb27)
  have HV27 := Lib.hid (HV26.out.keep hb27)
  have HG27 := Lib.hid (HG26.out.keep hb27)
  have HH27 := Lib.hid (HH26.out.keep hb27)
  have RWa27 := Lib.hid (RWa26.out.keep hb27)
  have RWt27 := Lib.hid (RWt26.out.keep hb27)
  have RWb27 := Lib.hid (RWb26.out.keep hb27)
  have RWp27 := Lib.hid (RWp26.out.keep hb27)
  have RWq27 := Lib.hid (RWq26.out.keep hb27)
  have RWy27 := Lib.hid (RWy26.out.keep hb27)
  have RWl27 := Lib.hid (RWl26.out.keep hb27)
  have RWg27 := Lib.hid (RWg26.out.keep hb27)
  have RWh27 := Lib.hid (RWh26.out.keep hb27)
  clear cX26a  cX26b  cX26l  cY26a  cY26b  cY26l  cZ26a  cZ26b  cZ26l  cS26a  cS26b  cS26l  cT26a  cT26b  cT26l  cK26a  cK26b  cK26l  cP26a  cP26b  cP26l  cQ26a  cQ26b  cQ26l  cU26a  cU26b  cU26l  cV26a  cV26b  cV26l  cG26a  cG26b  cG26l  cH26a  cH26b  cH26l  HX26 HY26 HZ26 HS26 HT26 HK26 HP26 HQ26 HU26 HV26 HG26 HH26 RWa26 RWt26 RWb26 RWp26 RWq26 RWy26 RWl26 RWg26 RWh26 HB26 hb27 
  have cX27a := HX27.out.c0
  have cX27b := HX27.out.c1
  have cX27l := HX27.out.lt
  have cY27a := HY27.out.c0
  have cY27b := HY27.out.c1
  have cY27l := HY27.out.lt
  have cZ27a := HZ27.out.c0
  have cZ27b := HZ27.out.c1
  have cZ27l := HZ27.out.lt
  have cS27a := HS27.out.c0
  have cS27b := HS27.out.c1
  have cS27l := HS27.out.lt
  have cT27a := HT27.out.c0
  have cT27b := HT27.out.c1
  have cT27l := HT27.out.lt
  have cK27a := HK27.out.c0
  have cK27b := HK27.out.c1
  have cK27l := HK27.out.lt
  have cP27a := HP27.out.c0
  have cP27b := HP27.out.c1
  have cP27l := HP27.out.lt
  have cQ27a := HQ27.out.c0
  have cQ27b := HQ27.out.c1
  have cQ27l := HQ27.out.lt
  have cU27a := HU27.out.c0
  have cU27b := HU27.out.c1
  have cU27l := HU27.out.lt
  have cV27a := HV27.out.c0
  have cV27b := HV27.out.c1
  have cV27l := HV27.out.lt
  have cG27a := HG27.out.c0
  have cG27b := HG27.out.c1
  have cG27l := HG27.out.lt
  have cH27a := HH27.out.c0
  have cH27b := HH27.out.c1
  have cH27l := HH27.out.lt
  rcases ResCase.er HCy.out with rfl | rfl
  rotate_left
  · go_wp2_with fail
    go_ret
    exact ⟨rfl, (HB27.out.alloc (by have := HB27.out.size; omega) _)⟩
  rcases ResCase.er HCl.out with rfl | rfl
  rotate_left
  · go_wp2_with fail
    go_ret
    exact ⟨rfl, (HB27.out.alloc (by have := HB27.out.size; omega) _)⟩
  rcases ResCase.er HCg.out with rfl | rfl
  rotate_left
  · go_wp2_with fail
    go_ret
    exact ⟨rfl, (HB27.out.alloc (by have := HB27.out.size; omega) _)⟩
  rcases ResCase.er HCh.out with rfl | rfl
  rotate_left
  · go_wp2_with fail
    go_ret
    exact ⟨rfl, (HB27.out.alloc (by have := HB27.out.size; omega) _)⟩
  rcases ResCase.er HCr.out with rfl | rfl
  rotate_left
  · go_wp2_with fail
    go_ret
    exact ⟨rfl, (HB27.out.alloc (by have := HB27.out.size; omega) _)⟩
  have eY := ResCase.ok HCy.out
  have eG := ResCase.ok HCg.out
  have eH := ResCase.ok HCh.out
  have sL := ResCase.ok HCl.out
  have sR := ResCase.ok HCr.out
  rw [← eY.eq] at sL
  rw [← eG.eq, ← eH.eq] at sR
  have HSR := Lib.hid (show Sgn B18 nr lr ((sg n1 (val B18 xs)) * ((sg n2 (val B18 ys)) + (sg n3 (val B18 zs)))) by rw [Int.mul_add]; exact sR)
  have HSL := Lib.hid sL
  clear eY eG eH sL sR
  go_wp2_with fail
  refine (same_yes nl nr (.slice pl ll.length cl) (.slice pr lr.length cr) ll lr _ _ ((RWl27.out).alloc _) ((RWr27.out).alloc _) HSL.out HSR.out).mono ?_
  rintro e v ⟨rfl, hv⟩
  go_wp2_with fail
  go_ret
  exact ⟨rfl, (HB27.out.alloc (by have := HB27.out.size; omega) _).trans (hv.mono (by have := HB27.out.size; simp; omega))⟩
set_option maxRecDepth 100000 in
set_option maxHeartbeats 16000000 in
theorem ring_good2 (n1 : Bool) (u1 : Value) (xs : List Int) (n2 : Bool) (u2 : Value) (ys : List Int) (n3 : Bool) (u3 : Value) (zs : List Int)  (w : World) (hr1 : Rd w u1 xs) (hf1 : Fit xs) (hr2 : Rd w u2 ys) (hf2 : Fit ys) (hr3 : Rd w u3 zs) (hf3 : Fit zs) (hg1 : goodB n1 xs = true) (hg2 : goodB n2 ys = true) (hg3 : goodB n3 zs = true) (hsm : ¬ Small (sg n1 (val B18 xs) + sg n2 (val B18 ys))) :
    Calls Tryd.prog 9 #[.agg #[.bool n1, u1], .agg #[.bool n2, u2], .agg #[.bool n3, u3]] w (BoolPost w true) := by
  have HR1 := Lib.hid hr1
  have HF1 := Lib.hid hf1
  have HR2 := Lib.hid hr2
  have HF2 := Lib.hid hf2
  have HR3 := Lib.hid hr3
  have HF3 := Lib.hid hf3
  have HS1 := Lib.hid (goodB_sgn hg1 hf1)
  have HS2 := Lib.hid (goodB_sgn hg2 hf2)
  have HS3 := Lib.hid (goodB_sgn hg3 hf3)
  have HSM := Lib.hid hsm
  clear hg1 hg2 hg3 hsm
  clear hr1 hf1 hr2 hf2 hr3 hf3
  go_enter Tryd.func9, Tryd.ntmps9
  go_wp2_with fail
  generalize hw1 : World.alloc (World.alloc (World.alloc w _) _) _ = w1
  have HB1 := Lib.hid (show Below w.heap.size w w1 by rw [← hw1]; exact ((((Below.refl _ _).alloc (by first | exact Nat.le_refl _ | (simp; done) | (simp; omega)) _).alloc (by first | exact Nat.le_refl _ | (simp; done) | (simp; omega)) _).alloc (by first | exact Nat.le_refl _ | (simp; done) | (simp; omega)) _))
  have HX1 := Lib.hid (show Box2 w1 (w.heap.size) (.bool n1) u1 by rw [← hw1]; exact ((Box2.new _ _ _ _ rfl).alloc _).alloc _)
  have HY1 := Lib.hid (show Box2 w1 (w.heap.size + 1) (.bool n2) u2 by rw [← hw1]; exact (Box2.new _ _ _ _ (by simp)).alloc _)
  have HZ1 := Lib.hid (show Box2 w1 (w.heap.size + 1 + 1) (.bool n3) u3 by rw [← hw1]; exact (Box2.new _ _ _ _ (by simp)))
  clear hw1
  have cX1a := HX1.out.c0
  have cX1b := HX1.out.c1
  have cX1l := HX1.out.lt
  have cY1a := HY1.out.c0
  have cY1b := HY1.out.c1
  have cY1l := HY1.out.lt
  have cZ1a := HZ1.out.c0
  have cZ1b := HZ1.out.c1
  have cZ1l := HZ1.out.lt
  refine (known_true w1).mono ?_
  rintro e w2 ⟨rfl, hb2⟩
  have HB2 := Lib.hid (HB1.out.trans (hb2.mono HB1.out.size))
  have HX2 := Lib.hid (HX1.out.keep hb2)
  have HY2 := Lib.hid (HY1.out.keep hb2)
  have HZ2 := Lib.hid (HZ1.out.keep hb2)
  clear cX1a  cX1b  cX1l  cY1a  cY1b  cY1l  cZ1a  cZ1b  cZ1l  HX1 HY1 HZ1 HB1 hb2 
  have cX2a := HX2.out.c0
  have cX2b := HX2.out.c1
  have cX2l := HX2.out.lt
  have cY2a := HY2.out.c0
  have cY2b := HY2.out.c1
  have cY2l := HY2.out.lt
  have cZ2a := HZ2.out.c0
  have cZ2b := HZ2.out.c1
  have cZ2l := HZ2.out.lt
  go_wp2_with fail
  refine (good_yes n1 u1 xs _ w2 (HR1.out.keep HB2.out) HS1.out.1 HS1.out.2).mono ?_
  rintro e w3 ⟨rfl, hb3⟩
  have HB3 := Lib.hid (HB2.out.trans (hb3.mono HB2.out.size))
  have HX3 := Lib.hid (HX2.out.keep hb3)
  have HY3 := Lib.hid (HY2.out.keep hb3)
  have HZ3 := Lib.hid (HZ2.out.keep hb3)
  clear cX2a  cX2b  cX2l  cY2a  cY2b  cY2l  cZ2a  cZ2b  cZ2l  HX2 HY2 HZ2 HB2 hb3 
  have cX3a := HX3.out.c0
  have cX3b := HX3.out.c1
  have cX3l := HX3.out.lt
  have cY3a := HY3.out.c0
  have cY3b := HY3.out.c1
  have cY3l := HY3.out.lt
  have cZ3a := HZ3.out.c0
  have cZ3b := HZ3.out.c1
  have cZ3l := HZ3.out.lt
  go_wp2_with fail
  refine (good_yes n2 u2 ys _ w3 (HR2.out.keep HB3.out) HS2.out.1 HS2.out.2).mono ?_
  rintro e w4 ⟨rfl, hb4⟩
  have HB4 := Lib.hid (HB3.out.trans (hb4.mono HB3.out.size))
  have HX4 := Lib.hid (HX3.out.keep hb4)
  have HY4 := Lib.hid (HY3.out.keep hb4)
  have HZ4 := Lib.hid (HZ3.out.keep hb4)
  clear cX3a  cX3b  cX3l  cY3a  cY3b  cY3l  cZ3a  cZ3b  cZ3l  HX3 HY3 HZ3 HB3 hb4 
  have cX4a := HX4.out.c0
  have cX4b := HX4.out.c1
  have cX4l := HX4.out.lt
  have cY4a := HY4.out.c0
  have cY4b := HY4.out.c1
  have cY4l := HY4.out.lt
  have cZ4a := HZ4.out.c0
  have cZ4b := HZ4.out.c1
  have cZ4l := HZ4.out.lt
  go_wp2_with fail
  refine (good_yes n3 u3 zs _ w4 (HR3.out.keep HB4.out) HS3.out.1 HS3.out.2).mono ?_
  rintro e w5 ⟨rfl, hb5⟩
  have HB5 := Lib.hid (HB4.out.trans (hb5.mono HB4.out.size))
  have HX5 := Lib.hid (HX4.out.keep hb5)
  have HY5 := Lib.hid (HY4.out.keep hb5)
  have HZ5 := Lib.hid (HZ4.out.keep hb5)
  clear cX4a  cX4b  cX4l  cY4a  cY4b  cY4l  cZ4a  cZ4b  cZ4l  HX4 HY4 HZ4 HB4 hb5 
  have cX5a := HX5.out.c0
  have cX5b := HX5.out.c1
  have cX5l := HX5.out.lt
  have cY5a := HY5.out.c0
  have cY5b := HY5.out.c1
  have cY5l := HY5.out.lt
  have cZ5a := HZ5.out.c0
  have cZ5b := HZ5.out.c1
  have cZ5l := HZ5.out.lt
  go_wp2_with fail
  refine (add_good n1 u1 xs _ n2 u2 ys _ w5 (HR1.out.keep HB5.out) (HR2.out.keep HB5.out) HS1.out.1 HS2.out.1 HS1.out.2 HS2.out.2).mono ?_
  rintro e w6 ⟨na, ua, la, ea, rfl, hMa, hb6, hCa⟩
  obtain ⟨pa, ca, rfl⟩ := MU.form hMa
  have HCa := Lib.hid (show ResCase _ na la ea from hCa)
  have RWa6 := Lib.hid (show Rd w6 (.slice pa la.length ca) la from hMa.rd (ResCase.len17 HCa.out))
  clear hMa hCa
  have HB6 := Lib.hid (HB5.out.trans (hb6.mono HB5.out.size))
  have HX6 := Lib.hid (HX5.out.keep hb6)
  have HY6 := Lib.hid (HY5.out.keep hb6)
  have HZ6 := Lib.hid (HZ5.out.keep hb6)
  clear cX5a  cX5b  cX5l  cY5a  cY5b  cY5l  cZ5a  cZ5b  cZ5l  HX5 HY5 HZ5 HB5 hb6 
  have cX6a := HX6.out.c0
  have cX6b := HX6.out.c1
  have cX6l := HX6.out.lt
  have cY6a := HY6.out.c0
  have cY6b := HY6.out.c1
  have cY6l := HY6.out.lt
  have cZ6a := HZ6.out.c0
  have cZ6b := HZ6.out.c1
  have cZ6l := HZ6.out.lt
  obtain rfl := ResCase.er7 HCa.out HSM.out
  go_wp2_with fail
  generalize hw7 : World.alloc w6 _ = w7
  have hb7 : Below w6.heap.size w6 w7 := by rw [← hw7]; exact (Below.refl _ _).alloc (Nat.le_refl _) _
  have HS7 := Lib.hid (show Box2 w7 w6.heap.size (.bool na) (.slice pa la.length ca) by rw [← hw7]; exact Box2.new _ _ _ _ rfl)
  have HB7 := Lib.hid (HB6.out.trans (hb7.mono HB6.out.size))
  have HX7 := Lib.hid (HX6.out.keep hb7)
  have HY7 := Lib.hid (HY6.out.keep hb7)
  have HZ7 := Lib.hid (HZ6.out.keep hb7)
  have RWa7 := Lib.hid (RWa6.out.keep hb7)
  clear cX6a  cX6b  cX6l  cY6a  cY6b  cY6l  cZ6a  cZ6b  cZ6l  HX6 HY6 HZ6 RWa6 HB6 hb7 hw7
  have cX7a := HX7.out.c0
  have cX7b := HX7.out.c1
  have cX7l := HX7.out.lt
  have cY7a := HY7.out.c0
  have cY7b := HY7.out.c1
  have cY7l := HY7.out.lt
  have cZ7a := HZ7.out.c0
  have cZ7b := HZ7.out.c1
  have cZ7l := HZ7.out.lt
  have cS7a := HS7.out.c0
  have cS7b := HS7.out.c1
  have cS7l := HS7.out.lt
  refine (add_good n2 u2 ys _ n1 u1 xs _ w7 (HR2.out.keep HB7.out) (HR1.out.keep HB7.out) HS2.out.1 HS1.out.1 HS2.out.2 HS1.out.2).mono ?_
  rintro e w8 ⟨nt, ut, lt, et, rfl, hMt, hb8, hCt⟩
  obtain ⟨rfl, rfl, rfl⟩ := ResCase.uniq HCa.out (show ResCase _ nt lt et from by have h := hCt; rwa [Int.add_comm] at h)
  obtain ⟨pt, ct, rfl⟩ := MU.form hMt
  have RWt8 := Lib.hid (show Rd w8 (.slice pt la.length ct) la from hMt.rd (ResCase.len17 HCa.out))
  clear hMt hCt
  have HB8 := Lib.hid (HB7.out.trans (hb8.mono HB7.out.size))
  have HX8 := Lib.hid (HX7.out.keep hb8)
  have HY8 := Lib.hid (HY7.out.keep hb8)
  have HZ8 := Lib.hid (HZ7.out.keep hb8)
  have HS8 := Lib.hid (HS7.out.keep hb8)
  have RWa8 := Lib.hid (RWa7.out.keep hb8)
  clear cX7a  cX7b  cX7l  cY7a  cY7b  cY7l  cZ7a  cZ7b  cZ7l  cS7a  cS7b  cS7l  HX7 HY7 HZ7 HS7 RWa7 HB7 hb8 
  have cX8a := HX8.out.c0
  have cX8b := HX8.out.c1
  have cX8l := HX8.out.lt
  have cY8a := HY8.out.c0
  have cY8b := HY8.out.c1
  have cY8l := HY8.out.lt
  have cZ8a := HZ8.out.c0
  have cZ8b := HZ8.out.c1
  have cZ8l := HZ8.out.lt
  have cS8a := HS8.out.c0
  have cS8b := HS8.out.c1
  have cS8l := HS8.out.lt
  go_wp2_with fail
  generalize hw9 : World.alloc w8 _ = w9
  have hb9 : Below w8.heap.size w8 w9 := by rw [← hw9]; exact (Below.refl _ _).alloc (Nat.le_refl _) _
  have HT9 := Lib.hid (show Box2 w9 w8.heap.size (.bool na) (.slice pt la.length ct) by rw [← hw9]; exact Box2.new _ _ _ _ rfl)
  have HB9 := Lib.hid (HB8.out.trans (hb9.mono HB8.out.size))
  have HX9 := Lib.hid (HX8.out.keep hb9)
  have HY9 := Lib.hid (HY8.out.keep hb9)
  have HZ9 := Lib.hid (HZ8.out.keep hb9)
  have HS9 := Lib.hid (HS8.out.keep hb9)
  have RWa9 := Lib.hid (RWa8.out.keep hb9)
  have RWt9 := Lib.hid (RWt8.out.keep hb9)
  clear cX8a  cX8b  cX8l  cY8a  cY8b  cY8l  cZ8a  cZ8b  cZ8l  cS8a  cS8b  cS8l  HX8 HY8 HZ8 HS8 RWa8 RWt8 HB8 hb9 hw9
  have cX9a := HX9.out.c0
  have cX9b := HX9.out.c1
  have cX9l := HX9.out.lt
  have cY9a := HY9.out.c0
  have cY9b := HY9.out.c1
  have cY9l := HY9.out.lt
  have cZ9a := HZ9.out.c0
  have cZ9b := HZ9.out.c1
  have cZ9l := HZ9.out.lt
  have cS9a := HS9.out.c0
  have cS9b := HS9.out.c1
  have cS9l := HS9.out.lt
  have cT9a := HT9.out.c0
  have cT9b := HT9.out.c1
  have cT9l := HT9.out.lt
  refine (same_self na (.slice pa la.length ca) (.slice pt la.length ct) la w9 RWa9.out RWt9.out).mono ?_
  rintro e w10 ⟨rfl, hb10⟩
  have HB10 := Lib.hid (HB9.out.trans (hb10.mono HB9.out.size))
  have HX10 := Lib.hid (HX9.out.keep hb10)
  have HY10 := Lib.hid (HY9.out.keep hb10)
  have HZ10 := Lib.hid (HZ9.out.keep hb10)
  have HS10 := Lib.hid (HS9.out.keep hb10)
  have HT10 := Lib.hid (HT9.out.keep hb10)
  have RWa10 := Lib.hid (RWa9.out.keep hb10)
  have RWt10 := Lib.hid (RWt9.out.keep hb10)
  clear cX9a  cX9b  cX9l  cY9a  cY9b  cY9l  cZ9a  cZ9b  cZ9l  cS9a  cS9b  cS9l  cT9a  cT9b  cT9l  HX9 HY9 HZ9 HS9 HT9 RWa9 RWt9 HB9 hb10 
  have cX10a := HX10.out.c0
  have cX10b := HX10.out.c1
  have cX10l := HX10.out.lt
  have cY10a := HY10.out.c0
  have cY10b := HY10.out.c1
  have cY10l := HY10.out.lt
  have cZ10a := HZ10.out.c0
  have cZ10b := HZ10.out.c1
  have cZ10l := HZ10.out.lt
  have cS10a := HS10.out.c0
  have cS10b := HS10.out.c1
  have cS10l := HS10.out.lt
  have cT10a := HT10.out.c0
  have cT10b := HT10.out.c1
  have cT10l := HT10.out.lt
  go_wp2_with fail
  refine (mul_good n1 u1 xs _ n2 u2 ys _ w10 (HR1.out.keep HB10.out) (HR2.out.keep HB10.out) HS1.out.1 HS2.out.1 HS1.out.2 HS2.out.2).mono ?_
  rintro e w11 ⟨np, up, lp, ep, rfl, hMp, hb11, hCp⟩
  obtain ⟨pp, cp, rfl⟩ := MU.form hMp
  have HCp := Lib.hid (show ResCase _ np lp ep from hCp)
  have RWp11 := Lib.hid (show Rd w11 (.slice pp lp.length cp) lp from hMp.rd (ResCase.len17 HCp.out))
  clear hMp hCp
  have HB11 := Lib.hid (HB10.out.trans (hb11.mono HB10.out.size))
  have HX11 := Lib.hid (HX10.out.keep hb11)
  have HY11 := Lib.hid (HY10.out.keep hb11)
  have HZ11 := Lib.hid (HZ10.out.keep hb11)
  have HS11 := Lib.hid (HS10.out.keep hb11)
  have HT11 := Lib.hid (HT10.out.keep hb11)
  have RWa11 := Lib.hid (RWa10.out.keep hb11)
  have RWt11 := Lib.hid (RWt10.out.keep hb11)
  clear cX10a  cX10b  cX10l  cY10a  cY10b  cY10l  cZ10a  cZ10b  cZ10l  cS10a  cS10b  cS10l  cT10a  cT10b  cT10l  HX10 HY10 HZ10 HS10 HT10 RWa10 RWt10 HB10 hb11 
  have cX11a := HX11.out.c0
  have cX11b := HX11.out.c1
  have cX11l := HX11.out.lt
  have cY11a := HY11.out.c0
  have cY11b := HY11.out.c1
  have cY11l := HY11.out.lt
  have cZ11a := HZ11.out.c0
  have cZ11b := HZ11.out.c1
  have cZ11l := HZ11.out.lt
  have cS11a := HS11.out.c0
  have cS11b := HS11.out.c1
  have cS11l := HS11.out.lt
  have cT11a := HT11.out.c0
  have cT11b := HT11.out.c1
  have cT11l := HT11.out.lt
  go_wp2_with fail
  generalize hw12 : World.alloc w11 _ = w12
  have hb12 : Below w11.heap.size w11 w12 := by rw [← hw12]; exact (Below.refl _ _).alloc (Nat.le_refl _) _
  have HP12 := Lib.hid (show Box2 w12 w11.heap.size (.bool np) (.slice pp lp.length cp) by rw [← hw12]; exact Box2.new _ _ _ _ rfl)
  have HB12 := Lib.hid (HB11.out.trans (hb12.mono HB11.out.size))
  have HX12 := Lib.hid (HX11.out.keep hb12)
  have HY12 := Lib.hid (HY11.out.keep hb12)
  have HZ12 := Lib.hid (HZ11.out.keep hb12)
  have HS12 := Lib.hid (HS11.out.keep hb12)
  have HT12 := Lib.hid (HT11.out.keep hb12)
  have RWa12 := Lib.hid (RWa11.out.keep hb12)
  have RWt12 := Lib.hid (RWt11.out.keep hb12)
  have RWp12 := Lib.hid (RWp11.out.keep hb12)
  clear cX11a  cX11b  cX11l  cY11a  cY11b  cY11l  cZ11a  cZ11b  cZ11l  cS11a  cS11b  cS11l  cT11a  cT11b  cT11l  HX11 HY11 HZ11 HS11 HT11 RWa11 RWt11 RWp11 HB11 hb12 hw12
  have cX12a := HX12.out.c0
  have cX12b := HX12.out.c1
  have cX12l := HX12.out.lt
  have cY12a := HY12.out.c0
  have cY12b := HY12.out.c1
  have cY12l := HY12.out.lt
  have cZ12a := HZ12.out.c0
  have cZ12b := HZ12.out.c1
  have cZ12l := HZ12.out.lt
  have cS12a := HS12.out.c0
  have cS12b := HS12.out.c1
  have cS12l := HS12.out.lt
  have cT12a := HT12.out.c0
  have cT12b := HT12.out.c1
  have cT12l := HT12.out.lt
  have cP12a := HP12.out.c0
  have cP12b := HP12.out.c1
  have cP12l := HP12.out.lt
  refine (mul_good n2 u2 ys _ n1 u1 xs _ w12 (HR2.out.keep HB12.out) (HR1.out.keep HB12.out) HS2.out.1 HS1.out.1 HS2.out.2 HS1.out.2).mono ?_
  rintro e w13 ⟨nq, uq, lq, eq, rfl, hMq, hb13, hCq⟩
  obtain ⟨rfl, rfl, rfl⟩ := ResCase.uniq HCp.out (show ResCase _ nq lq eq from by have h := hCq; rwa [Int.mul_comm] at h)
  obtain ⟨pq, cq, rfl⟩ := MU.form hMq
  have RWq13 := Lib.hid (show Rd w13 (.slice pq lp.length cq) lp from hMq.rd (ResCase.len17 HCp.out))
  clear hMq hCq
  have HB13 := Lib.hid (HB12.out.trans (hb13.mono HB12.out.size))
  have HX13 := Lib.hid (HX12.out.keep hb13)
  have HY13 := Lib.hid (HY12.out.keep hb13)
  have HZ13 := Lib.hid (HZ12.out.keep hb13)
  have HS13 := Lib.hid (HS12.out.keep hb13)
  have HT13 := Lib.hid (HT12.out.keep hb13)
  have HP13 := Lib.hid (HP12.out.keep hb13)
  have RWa13 := Lib.hid (RWa12.out.keep hb13)
  have RWt13 := Lib.hid (RWt12.out.keep hb13)
  have RWp13 := Lib.hid (RWp12.out.keep hb13)
  clear cX12a  cX12b  cX12l  cY12a  cY12b  cY12l  cZ12a  cZ12b  cZ12l  cS12a  cS12b  cS12l  cT12a  cT12b  cT12l  cP12a  cP12b  cP12l  HX12 HY12 HZ12 HS12 HT12 HP12 RWa12 RWt12 RWp12 HB12 hb13 
  have cX13a := HX13.out.c0
  have cX13b := HX13.out.c1
  have cX13l := HX13.out.lt
  have cY13a := HY13.out.c0
  have cY13b := HY13.out.c1
  have cY13l := HY13.out.lt
  have cZ13a := HZ13.out.c0
  have cZ13b := HZ13.out.c1
  have cZ13l := HZ13.out.lt
  have cS13a := HS13.out.c0
  have cS13b := HS13.out.c1
  have cS13l := HS13.out.lt
  have cT13a := HT13.out.c0
  have cT13b := HT13.out.c1
  have cT13l := HT13.out.lt
  have cP13a := HP13.out.c0
  have cP13b := HP13.out.c1
  have cP13l := HP13.out.lt
  go_wp2_with fail
  generalize hw14 : World.alloc w13 _ = w14
  have hb14 : Below w13.heap.size w13 w14 := by rw [← hw14]; exact (Below.refl _ _).alloc (Nat.le_refl _) _
  have HQ14 := Lib.hid (show Box2 w14 w13.heap.size (.bool np) (.slice pq lp.length cq) by rw [← hw14]; exact Box2.new _ _ _ _ rfl)
  have HB14 := Lib.hid (HB13.out.trans (hb14.mono HB13.out.size))
  have HX14 := Lib.hid (HX13.out.keep hb14)
  have HY14 := Lib.hid (HY13.out.keep hb14)
  have HZ14 := Lib.hid (HZ13.out.keep hb14)
  have HS14 := Lib.hid (HS13.out.keep hb14)
  have HT14 := Lib.hid (HT13.out.keep hb14)
  have HP14 := Lib.hid (HP13.out.keep hb14)
  have RWa14 := Lib.hid (RWa13.out.keep hb14)
  have RWt14 := Lib.hid (RWt13.out.keep hb14)
  have RWp14 := Lib.hid (RWp13.out.keep hb14)
  have RWq14 := Lib.hid (RWq13.out.keep hb14)
  clear cX13a  cX13b  cX13l  cY13a  cY13b  cY13l  cZ13a  cZ13b  cZ13l  cS13a  cS13b  cS13l  cT13a  cT13b  cT13l  cP13a  cP13b  cP13l  HX13 HY13 HZ13 HS13 HT13 HP13 RWa13 RWt13 RWp13 RWq13 HB13 hb14 hw14
  have cX14a := HX14.out.c0
  have cX14b := HX14.out.c1
  have cX14l := HX14.out.lt
  have cY14a := HY14.out.c0
  have cY14b := HY14.out.c1
  have cY14l := HY14.out.lt
  have cZ14a := HZ14.out.c0
  have cZ14b := HZ14.out.c1
  have cZ14l := HZ14.out.lt
  have cS14a := HS14.out.c0
  have cS14b := HS14.out.c1
  have cS14l := HS14.out.lt
  have cT14a := HT14.out.c0
  have cT14b := HT14.out.c1
  have cT14l := HT14.out.lt
  have cP14a := HP14.out.c0
  have cP14b := HP14.out.c1
  have cP14l := HP14.out.lt
  have cQ14a := HQ14.out.c0
  have cQ14b := HQ14.out.c1
  have cQ14l := HQ14.out.lt
  refine (same_self np (.slice pp lp.length cp) (.slice pq lp.length cq) lp w14 RWp14.out RWq14.out).mono ?_
  rintro e w15 ⟨rfl, hb15⟩
  have HB15 := Lib.hid (HB14.out.trans (hb15.mono HB14.out.size))
  have HX15 := Lib.hid (HX14.out.keep hb15)
  have HY15 := Lib.hid (HY14.out.keep hb15)
  have HZ15 := Lib.hid (HZ14.out.keep hb15)
  have HS15 := Lib.hid (HS14.out.keep hb15)
  have HT15 := Lib.hid (HT14.out.keep hb15)
  have HP15 := Lib.hid (HP14.out.keep hb15)
  have HQ15 := Lib.hid (HQ14.out.keep hb15)
  have RWa15 := Lib.hid (RWa14.out.keep hb15)
  have RWt15 := Lib.hid (RWt14.out.keep hb15)
  have RWp15 := Lib.hid (RWp14.out.keep hb15)
  have RWq15 := Lib.hid (RWq14.out.keep hb15)
  clear cX14a  cX14b  cX14l  cY14a  cY14b  cY14l  cZ14a  cZ14b  cZ14l  cS14a  cS14b  cS14l  cT14a  cT14b  cT14l  cP14a  cP14b  cP14l  cQ14a  cQ14b  cQ14l  HX14 HY14 HZ14 HS14 HT14 HP14 HQ14 RWa14 RWt14 RWp14 RWq14 HB14 hb15 
  have cX15a := HX15.out.c0
  have cX15b := HX15.out.c1
  have cX15l := HX15.out.lt
  have cY15a := HY15.out.c0
  have cY15b := HY15.out.c1
  have cY15l := HY15.out.lt
  have cZ15a := HZ15.out.c0
  have cZ15b := HZ15.out.c1
  have cZ15l := HZ15.out.lt
  have cS15a := HS15.out.c0
  have cS15b := HS15.out.c1
  have cS15l := HS15.out.lt
  have cT15a := HT15.out.c0
  have cT15b := HT15.out.c1
  have cT15l := HT15.out.lt
  have cP15a := HP15.out.c0
  have cP15b := HP15.out.c1
  have cP15l := HP15.out.lt
  have cQ15a := HQ15.out.c0
  have cQ15b := HQ15.out.c1
  have cQ15l := HQ15.out.lt
  go_wp2_with fail
  refine (add_good n2 u2 ys _ n3 u3 zs _ w15 (HR2.out.keep HB15.out) (HR3.out.keep HB15.out) HS2.out.1 HS3.out.1 HS2.out.2 HS3.out.2).mono ?_
  rintro e w16 ⟨ny, uy, ly, ey, rfl, hMy, hb16, hCy⟩
  obtain ⟨py, cy, rfl⟩ := MU.form hMy
  have HCy := Lib.hid (show ResCase _ ny ly ey from hCy)
  have RWy16 := Lib.hid (show Rd w16 (.slice py ly.length cy) ly from hMy.rd (ResCase.len17 HCy.out))
  clear hMy hCy
  have HB16 := Lib.hid (HB15.out.trans (hb16.mono HB15.out.size))
  have HX16 := Lib.hid (HX15.out.keep hb16)
  have HY16 := Lib.hid (HY15.out.keep hb16)
  have HZ16 := Lib.hid (HZ15.out.keep hb16)
  have HS16 := Lib.hid (HS15.out.keep hb16)
  have HT16 := Lib.hid (HT15.out.keep hb16)
  have HP16 := Lib.hid (HP15.out.keep hb16)
  have HQ16 := Lib.hid (HQ15.out.keep hb16)
  have RWa16 := Lib.hid (RWa15.out.keep hb16)
  have RWt16 := Lib.hid (RWt15.out.keep hb16)
  have RWp16 := Lib.hid (RWp15.out.keep hb16)
  have RWq16 := Lib.hid (RWq15.out.keep hb16)
  clear cX15a  cX15b  cX15l  cY15a  cY15b  cY15l  cZ15a  cZ15b  cZ15l  cS15a  cS15b  cS15l  cT15a  cT15b  cT15l  cP15a  cP15b  cP15l  cQ15a  cQ15b  cQ15l  HX15 HY15 HZ15 HS15 HT15 HP15 HQ15 RWa15 RWt15 RWp15 RWq15 HB15 hb16 
  have cX16a := HX16.out.c0
  have cX16b := HX16.out.c1
  have cX16l := HX16.out.lt
  have cY16a := HY16.out.c0
  have cY16b := HY16.out.c1
  have cY16l := HY16.out.lt
  have cZ16a := HZ16.out.c0
  have cZ16b := HZ16.out.c1
  have cZ16l := HZ16.out.lt
  have cS16a := HS16.out.c0
  have cS16b := HS16.out.c1
  have cS16l := HS16.out.lt
  have cT16a := HT16.out.c0
  have cT16b := HT16.out.c1
  have cT16l := HT16.out.lt
  have cP16a := HP16.out.c0
  have cP16b := HP16.out.c1
  have cP16l := HP16.out.lt
  have cQ16a := HQ16.out.c0
  have cQ16b := HQ16.out.c1
  have cQ16l := HQ16.out.lt
  go_wp2_with fail
  generalize hw17 : World.alloc w16 _ = w17
  have hb17 : Below w16.heap.size w16 w17 := by rw [← hw17]; exact (Below.refl _ _).alloc (Nat.le_refl _) _
  have HU17 := Lib.hid (show Box2 w17 w16.heap.size (.bool ny) (.slice py ly.length cy) by rw [← hw17]; exact Box2.new _ _ _ _ rfl)
  have HB17 := Lib.hid (HB16.out.trans (hb17.mono HB16.out.size))
  have HX17 := Lib.hid (HX16.out.keep hb17)
  have HY17 := Lib.hid (HY16.out.keep hb17)
  have HZ17 := Lib.hid (HZ16.out.keep hb17)
  have HS17 := Lib.hid (HS16.out.keep hb17)
  have HT17 := Lib.hid (HT16.out.keep hb17)
  have HP17 := Lib.hid (HP16.out.keep hb17)
  have HQ17 := Lib.hid (HQ16.out.keep hb17)
  have RWa17 := Lib.hid (RWa16.out.keep hb17)
  have RWt17 := Lib.hid (RWt16.out.keep hb17)
  have RWp17 := Lib.hid (RWp16.out.keep hb17)
  have RWq17 := Lib.hid (RWq16.out.keep hb17)
  have RWy17 := Lib.hid (RWy16.out.keep hb17)
  clear cX16a  cX16b  cX16l  cY16a  cY16b  cY16l  cZ16a  cZ16b  cZ16l  cS16a  cS16b  cS16l  cT16a  cT16b  cT16l  cP16a  cP16b  cP16l  cQ16a  cQ16b  cQ16l  HX16 HY16 HZ16 HS16 HT16 HP16 HQ16 RWa16 RWt16 RWp16 RWq16 RWy16 HB16 hb17 hw17
  have cX17a := HX17.out.c0
  have cX17b := HX17.out.c1
  have cX17l := HX17.out.lt
  have cY17a := HY17.out.c0
  have cY17b := HY17.out.c1
  have cY17l := HY17.out.lt
  have cZ17a := HZ17.out.c0
  have cZ17b := HZ17.out.c1
  have cZ17l := HZ17.out.lt
  have cS17a := HS17.out.c0
  have cS17b := HS17.out.c1
  have cS17l := HS17.out.lt
  have cT17a := HT17.out.c0
  have cT17b := HT17.out.c1
  have cT17l := HT17.out.lt
  have cP17a := HP17.out.c0
  have cP17b := HP17.out.c1
  have cP17l := HP17.out.lt
  have cQ17a := HQ17.out.c0
  have cQ17b := HQ17.out.c1
  have cQ17l := HQ17.out.lt
  have cU17a := HU17.out.c0
  have cU17b := HU17.out.c1
  have cU17l := HU17.out.lt
  have HSy := Lib.hid (ResCase.sgn HCy.out)
  refine (mul_good n1 u1 xs _ ny (.slice py ly.length cy) ly _ w17 (HR1.out.keep HB17.out) RWy17.out HS1.out.1 HSy.out.1 HS1.out.2 HSy.out.2).mono ?_
  rintro e w18 ⟨nl, ul, ll, el, rfl, hMl, hb18, hCl⟩
  obtain ⟨pl, cl, rfl⟩ := MU.form hMl
  have HCl := Lib.hid (show ResCase _ nl ll el from hCl)
  have RWl18 := Lib.hid (show Rd w18 (.slice pl ll.length cl) ll from hMl.rd (ResCase.len17 HCl.out))
  clear hMl hCl
  have HB18 := Lib.hid (HB17.out.trans (hb18.mono HB17.out.size))
  have HX18 := Lib.hid (HX17.out.keep hb18)
  have HY18 := Lib.hid (HY17.out.keep hb18)
  have HZ18 := Lib.hid (HZ17.out.keep hb18)
  have HS18 := Lib.hid (HS17.out.keep hb18)
  have HT18 := Lib.hid (HT17.out.keep hb18)
  have HP18 := Lib.hid (HP17.out.keep hb18)
  have HQ18 := Lib.hid (HQ17.out.keep hb18)
  have HU18 := Lib.hid (HU17.out.keep hb18)
  have RWa18 := Lib.hid (RWa17.out.keep hb18)
  have RWt18 := Lib.hid (RWt17.out.keep hb18)
  have RWp18 := Lib.hid (RWp17.out.keep hb18)
  have RWq18 := Lib.hid (RWq17.out.keep hb18)
  have RWy18 := Lib.hid (RWy17.out.keep hb18)
  clear cX17a  cX17b  cX17l  cY17a  cY17b  cY17l  cZ17a  cZ17b  cZ17l  cS17a  cS17b  cS17l  cT17a  cT17b  cT17l  cP17a  cP17b  cP17l  cQ17a  cQ17b  cQ17l  cU17a  cU17b  cU17l  HX17 HY17 HZ17 HS17 HT17 HP17 HQ17 HU17 RWa17 RWt17 RWp17 RWq17 RWy17 HB17 hb18 
  have cX18a := HX18.out.c0
  have cX18b := HX18.out.c1
  have cX18l := HX18.out.lt
  have cY18a := HY18.out.c0
  have cY18b := HY18.out.c1
  have cY18l := HY18.out.lt
  have cZ18a := HZ18.out.c0
  have cZ18b := HZ18.out.c1
  have cZ18l := HZ18.out.lt
  have cS18a := HS18.out.c0
  have cS18b := HS18.out.c1
  have cS18l := HS18.out.lt
  have cT18a := HT18.out.c0
  have cT18b := HT18.out.c1
  have cT18l := HT18.out.lt
  have cP18a := HP18.out.c0
  have cP18b := HP18.out.c1
  have cP18l := HP18.out.lt
  have cQ18a := HQ18.out.c0
  have cQ18b := HQ18.out.c1
  have cQ18l := HQ18.out.lt
  have cU18a := HU18.out.c0
  have cU18b := HU18.out.c1
  have cU18l := HU18.out.lt
  go_wp2_with fail
  generalize hw19 : World.alloc w18 _ = w19
  have hb19 : Below w18.heap.size w18 w19 := by rw [← hw19]; exact (Below.refl _ _).alloc (Nat.le_refl _) _
  have HV19 := Lib.hid (show Box2 w19 w18.heap.size (.bool nl) (.slice pl ll.length cl) by rw [← hw19]; exact Box2.new _ _ _ _ rfl)
  have HB19 := Lib.hid (HB18.out.trans (hb19.mono HB18.out.size))
  have HX19 := Lib.hid (HX18.out.keep hb19)
  have HY19 := Lib.hid (HY18.out.keep hb19)
  have HZ19 := Lib.hid (HZ18.out.keep hb19)
  have HS19 := Lib.hid (HS18.out.keep hb19)
  have HT19 := Lib.hid (HT18.out.keep hb19)
  have HP19 := Lib.hid (HP18.out.keep hb19)
  have HQ19 := Lib.hid (HQ18.out.keep hb19)
  have HU19 := Lib.hid (HU18.out.keep hb19)
  have RWa19 := Lib.hid (RWa18.out.keep hb19)
  have RWt19 := Lib.hid (RWt18.out.keep hb19)
  have RWp19 := Lib.hid (RWp18.out.keep hb19)
  have RWq19 := Lib.hid (RWq18.out.keep hb19)
  have RWy19 := Lib.hid (RWy18.out.keep hb19)
  have RWl19 := Lib.hid (RWl18.out.keep hb19)
  clear cX18a  cX18b  cX18l  cY18a  cY18b  cY18l  cZ18a  cZ18b  cZ18l  cS18a  cS18b  cS18l  cT18a  cT18b  cT18l  cP18a  cP18b  cP18l  cQ18a  cQ18b  cQ18l  cU18a  cU18b  cU18l  HX18 HY18 HZ18 HS18 HT18 HP18 HQ18 HU18 RWa18 RWt18 RWp18 RWq18 RWy18 RWl18 HB18 hb19 hw19
  have cX19a := HX19.out.c0
  have cX19b := HX19.out.c1
  have cX19l := HX19.out.lt
  have cY19a := HY19.out.c0
  have cY19b := HY19.out.c1
  have cY19l := HY19.out.lt
  have cZ19a := HZ19.out.c0
  have cZ19b := HZ19.out.c1
  have cZ19l := HZ19.out.lt
  have cS19a := HS19.out.c0
  have cS19b := HS19.out.c1
  have cS19l := HS19.out.lt
  have cT19a := HT19.out.c0
  have cT19b := HT19.out.c1
  have cT19l := HT19.out.lt
  have cP19a := HP19.out.c0
  have cP19b := HP19.out.c1
  have cP19l := HP19.out.lt
  have cQ19a := HQ19.out.c0
  have cQ19b := HQ19.out.c1
  have cQ19l := HQ19.out.lt
  have cU19a := HU19.out.c0
  have cU19b := HU19.out.c1
  have cU19l := HU19.out.lt
  have cV19a := HV19.out.c0
  have cV19b := HV19.out.c1
  have cV19l := HV19.out.lt
  refine (mul_good n1 u1 xs _ n3 u3 zs _ w19 (HR1.out.keep HB19.out) (HR3.out.keep HB19.out) HS1.out.1 HS3.out.1 HS1.out.2 HS3.out.2).mono ?_
  rintro e w20 ⟨ng, ug, lg, eg, rfl, hMg, hb20, hCg⟩
  obtain ⟨pg, cg, rfl⟩ := MU.form hMg
  have HCg := Lib.hid (show ResCase _ ng lg eg from hCg)
  have RWg20 := Lib.hid (show Rd w20 (.slice pg lg.length cg) lg from hMg.rd (ResCase.len17 HCg.out))
  clear hMg hCg
  have HB20 := Lib.hid (HB19.out.trans (hb20.mono HB19.out.size))
  have HX20 := Lib.hid (HX19.out.keep hb20)
  have HY20 := Lib.hid (HY19.out.keep hb20)
  have HZ20 := Lib.hid (HZ19.out.keep hb20)
  have HS20 := Lib.hid (HS19.out.keep hb20)
  have HT20 := Lib.hid (HT19.out.keep hb20)
  have HP20 := Lib.hid (HP19.out.keep hb20)
  have HQ20 := Lib.hid (HQ19.out.keep hb20)
  have HU20 := Lib.hid (HU19.out.keep hb20)
  have HV20 := Lib.hid (HV19.out.keep hb20)
  have RWa20 := Lib.hid (RWa19.out.keep hb20)
  have RWt20 := Lib.hid (RWt19.out.keep hb20)
  have RWp20 := Lib.hid (RWp19.out.keep hb20)
  have RWq20 := Lib.hid (RWq19.out.keep hb20)
  have RWy20 := Lib.hid (RWy19.out.keep hb20)
  have RWl20 := Lib.hid (RWl19.out.keep hb20)
  clear cX19a  cX19b  cX19l  cY19a  cY19b  cY19l  cZ19a  cZ19b  cZ19l  cS19a  cS19b  cS19l  cT19a  cT19b  cT19l  cP19a  cP19b  cP19l  cQ19a  cQ19b  cQ19l  cU19a  cU19b  cU19l  cV19a  cV19b  cV19l  HX19 HY19 HZ19 HS19 HT19 HP19 HQ19 HU19 HV19 RWa19 RWt19 RWp19 RWq19 RWy19 RWl19 HB19 hb20 
  have cX20a := HX20.out.c0
  have cX20b := HX20.out.c1
  have cX20l := HX20.out.lt
  have cY20a := HY20.out.c0
  have cY20b := HY20.out.c1
  have cY20l := HY20.out.lt
  have cZ20a := HZ20.out.c0
  have cZ20b := HZ20.out.c1
  have cZ20l := HZ20.out.lt
  have cS20a := HS20.out.c0
  have cS20b := HS20.out.c1
  have cS20l := HS20.out.lt
  have cT20a := HT20.out.c0
  have cT20b := HT20.out.c1
  have cT20l := HT20.out.lt
  have cP20a := HP20.out.c0
  have cP20b := HP20.out.c1
  have cP20l := HP20.out.lt
  have cQ20a := HQ20.out.c0
  have cQ20b := HQ20.out.c1
  have cQ20l := HQ20.out.lt
  have cU20a := HU20.out.c0
  have cU20b := HU20.out.c1
  have cU20l := HU20.out.lt
  have cV20a := HV20.out.c0
  have cV20b := HV20.out.c1
  have cV20l := HV20.out.lt
  go_wp2_with fail
  generalize hw21 : World.alloc w20 _ = w21
  have hb21 : Below w20.heap.size w20 w21 := by rw [← hw21]; exact (Below.refl _ _).alloc (Nat.le_refl _) _
  have HG21 := Lib.hid (show Box2 w21 w20.heap.size (.bool ng) (.slice pg lg.length cg) by rw [← hw21]; exact Box2.new _ _ _ _ rfl)
  have HB21 := Lib.hid (HB20.out.trans (hb21.mono HB20.out.size))
  have HX21 := Lib.hid (HX20.out.keep hb21)
  have HY21 := Lib.hid (HY20.out.keep hb21)
  have HZ21 := Lib.hid (HZ20.out.keep hb21)
  have HS21 := Lib.hid (HS20.out.keep hb21)
  have HT21 := Lib.hid (HT20.out.keep hb21)
  have HP21 := Lib.hid (HP20.out.keep hb21)
  have HQ21 := Lib.hid (HQ20.out.keep hb21)
  have HU21 := Lib.hid (HU20.out.keep hb21)
  have HV21 := Lib.hid (HV20.out.keep hb21)
  have RWa21 := Lib.hid (RWa20.out.keep hb21)
  have RWt21 := Lib.hid (RWt20.out.keep hb21)
  have RWp21 := Lib.hid (RWp20.out.keep hb21)
  have RWq21 := Lib.hid (RWq20.out.keep hb21)
  have RWy21 := Lib.hid (RWy20.out.keep hb21)
  have RWl21 := Lib.hid (RWl20.out.keep hb21)
  have RWg21 := Lib.hid (RWg20.out.keep hb21)
  clear cX20a  cX20b  cX20l  cY20a  cY20b  cY20l  cZ20a  cZ20b  cZ20l  cS20a  cS20b  cS20l  cT20a  cT20b  cT20l  cP20a  cP20b  cP20l  cQ20a  cQ20b  cQ20l  cU20a  cU20b  cU20l  cV20a  cV20b  cV20l  HX20 HY20 HZ20 HS20 HT20 HP20 HQ20 HU20 HV20 RWa20 RWt20 RWp20 RWq20 RWy20 RWl20 RWg20 HB20 hb21 hw21
  have cX21a := HX21.out.c0
  have cX21b := HX21.out.c1
  have cX21l := HX21.out.lt
  have cY21a := HY21.out.c0
  have cY21b := HY21.out.c1
  have cY21l := HY21.out.lt
  have cZ21a := HZ21.out.c0
  have cZ21b := HZ21.out.c1
  have cZ21l := HZ21.out.lt
  have cS21a := HS21.out.c0
  have cS21b := HS21.out.c1
  have cS21l := HS21.out.lt
  have cT21a := HT21.out.c0
  have cT21b := HT21.out.c1
  have cT21l := HT21.out.lt
  have cP21a := HP21.out.c0
  have cP21b := HP21.out.c1
  have cP21l := HP21.out.lt
  have cQ21a := HQ21.out.c0
  have cQ21b := HQ21.out.c1
  have cQ21l := HQ21.out.lt
  have cU21a := HU21.out.c0
  have cU21b := HU21.out.c1
  have cU21l := HU21.out.lt
  have cV21a := HV21.out.c0
  have cV21b := HV21.out.c1
  have cV21l := HV21.out.lt
  have cG21a := HG21.out.c0
  have cG21b := HG21.out.c1
  have cG21l := HG21.out.lt
  have HSg := Lib.hid (ResCase.sgn HCg.out)
  refine (mul_good n1 u1 xs _ n2 u2 ys _ w21 (HR1.out.keep HB21.out) (HR2.out.keep HB21.out) HS1.out.1 HS2.out.1 HS1.out.2 HS2.out.2).mono ?_
  rintro e w22 ⟨nh, uh, lh, eh, rfl, hMh, hb22, hCh⟩
  obtain ⟨ph, ch, rfl⟩ := MU.form hMh
  have HCh := Lib.hid (show ResCase _ nh lh eh from hCh)
  have RWh22 := Lib.hid (show Rd w22 (.slice ph lh.length ch) lh from hMh.rd (ResCase.len17 HCh.out))
  clear hMh hCh
  have HB22 := Lib.hid (HB21.out.trans (hb22.mono HB21.out.size))
  have HX22 := Lib.hid (HX21.out.keep hb22)
  have HY22 := Lib.hid (HY21.out.keep hb22)
  have HZ22 := Lib.hid (HZ21.out.keep hb22)
  have HS22 := Lib.hid (HS21.out.keep hb22)
  have HT22 := Lib.hid (HT21.out.keep hb22)
  have HP22 := Lib.hid (HP21.out.keep hb22)
  have HQ22 := Lib.hid (HQ21.out.keep hb22)
  have HU22 := Lib.hid (HU21.out.keep hb22)
  have HV22 := Lib.hid (HV21.out.keep hb22)
  have HG22 := Lib.hid (HG21.out.keep hb22)
  have RWa22 := Lib.hid (RWa21.out.keep hb22)
  have RWt22 := Lib.hid (RWt21.out.keep hb22)
  have RWp22 := Lib.hid (RWp21.out.keep hb22)
  have RWq22 := Lib.hid (RWq21.out.keep hb22)
  have RWy22 := Lib.hid (RWy21.out.keep hb22)
  have RWl22 := Lib.hid (RWl21.out.keep hb22)
  have RWg22 := Lib.hid (RWg21.out.keep hb22)
  clear cX21a  cX21b  cX21l  cY21a  cY21b  cY21l  cZ21a  cZ21b  cZ21l  cS21a  cS21b  cS21l  cT21a  cT21b  cT21l  cP21a  cP21b  cP21l  cQ21a  cQ21b  cQ21l  cU21a  cU21b  cU21l  cV21a  cV21b  cV21l  cG21a  cG21b  cG21l  HX21 HY21 HZ21 HS21 HT21 HP21 HQ21 HU21 HV21 HG21 RWa21 RWt21 RWp21 RWq21 RWy21 RWl21 RWg21 HB21 hb22 
  have cX22a := HX22.out.c0
  have cX22b := HX22.out.c1
  have cX22l := HX22.out.lt
  have cY22a := HY22.out.c0
  have cY22b := HY22.out.c1
  have cY22l := HY22.out.lt
  have cZ22a := HZ22.out.c0
  have cZ22b := HZ22.out.c1
  have cZ22l := HZ22.out.lt
  have cS22a := HS22.out.c0
  have cS22b := HS22.out.c1
  have cS22l := HS22.out.lt
  have cT22a := HT22.out.c0
  have cT22b := HT22.out.c1
  have cT22l := HT22.out.lt
  have cP22a := HP22.out.c0
  have cP22b := HP22.out.c1
  have cP22l := HP22.out.lt
  have cQ22a := HQ22.out.c0
  have cQ22b := HQ22.out.c1
  have cQ22l := HQ22.out.lt
  have cU22a := HU22.out.c0
  have cU22b := HU22.out.c1
  have cU22l := HU22.out.lt
  have cV22a := HV22.out.c0
  have cV22b := HV22.out.c1
  have cV22l := HV22.out.lt
  have cG22a := HG22.out.c0
  have cG22b := HG22.out.c1
  have cG22l := HG22.out.lt
  go_wp2_with fail
  generalize hw23 : World.alloc w22 _ = w23
  have hb23 : Below w22.heap.size w22 w23 := by rw [← hw23]; exact (Below.refl _ _).alloc (Nat.le_refl _) _
  have HH23 := Lib.hid (show Box2 w23 w22.heap.size (.bool nh) (.slice ph lh.length ch) by rw [← hw23]; exact Box2.new _ _ _ _ rfl)
  have HB23 := Lib.hid (HB22.out.trans (hb23.mono HB22.out.size))
  have HX23 := Lib.hid (HX22.out.keep hb23)
  have HY23 := Lib.hid (HY22.out.keep hb23)
  have HZ23 := Lib.hid (HZ22.out.keep hb23)
  have HS23 := Lib.hid (HS22.out.keep hb23)
  have HT23 := Lib.hid (HT22.out.keep hb23)
  have HP23 := Lib.hid (HP22.out.keep hb23)
  have HQ23 := Lib.hid (HQ22.out.keep hb23)
  have HU23 := Lib.hid (HU22.out.keep hb23)
  have HV23 := Lib.hid (HV22.out.keep hb23)
  have HG23 := Lib.hid (HG22.out.keep hb23)
  have RWa23 := Lib.hid (RWa22.out.keep hb23)
  have RWt23 := Lib.hid (RWt22.out.keep hb23)
  have RWp23 := Lib.hid (RWp22.out.keep hb23)
  have RWq23 := Lib.hid (RWq22.out.keep hb23)
  have RWy23 := Lib.hid (RWy22.out.keep hb23)
  have RWl23 := Lib.hid (RWl22.out.keep hb23)
  have RWg23 := Lib.hid (RWg22.out.keep hb23)
  have RWh23 := Lib.hid (RWh22.out.keep hb23)
  clear cX22a  cX22b  cX22l  cY22a  cY22b  cY22l  cZ22a  cZ22b  cZ22l  cS22a  cS22b  cS22l  cT22a  cT22b  cT22l  cP22a  cP22b  cP22l  cQ22a  cQ22b  cQ22l  cU22a  cU22b  cU22l  cV22a  cV22b  cV22l  cG22a  cG22b  cG22l  HX22 HY22 HZ22 HS22 HT22 HP22 HQ22 HU22 HV22 HG22 RWa22 RWt22 RWp22 RWq22 RWy22 RWl22 RWg22 RWh22 HB22 hb23 hw23
  have cX23a := HX23.out.c0
  have cX23b := HX23.out.c1
  have cX23l := HX23.out.lt
  have cY23a := HY23.out.c0
  have cY23b := HY23.out.c1
  have cY23l := HY23.out.lt
  have cZ23a := HZ23.out.c0
  have cZ23b := HZ23.out.c1
  have cZ23l := HZ23.out.lt
  have cS23a := HS23.out.c0
  have cS23b := HS23.out.c1
  have cS23l := HS23.out.lt
  have cT23a := HT23.out.c0
  have cT23b := HT23.out.c1
  have cT23l := HT23.out.lt
  have cP23a := HP23.out.c0
  have cP23b := HP23.out.c1
  have cP23l := HP23.out.lt
  have cQ23a := HQ23.out.c0
  have cQ23b := HQ23.out.c1
  have cQ23l := HQ23.out.lt
  have cU23a := HU23.out.c0
  have cU23b := HU23.out.c1
  have cU23l := HU23.out.lt
  have cV23a := HV23.out.c0
  have cV23b := HV23.out.c1
  have cV23l := HV23.out.lt
  have cG23a := HG23.out.c0
  have cG23b := HG23.out.c1
  have cG23l := HG23.out.lt
  have cH23a := HH23.out.c0
  have cH23b := HH23.out.c1
  have cH23l := HH23.out.lt
  have HSh := Lib.hid (ResCase.sgn HCh.out)
  refine (add_good nh (.slice ph lh.length ch) lh _ ng (.slice pg lg.length cg) lg _ w23 RWh23.out RWg23.out HSh.out.1 HSg.out.1 HSh.out.2 HSg.out.2).mono ?_
  rintro e w24 ⟨nr, ur, lr, er, rfl, hMr, hb24, hCr⟩
  obtain ⟨pr, cr, rfl⟩ := MU.form hMr
  have HCr := Lib.hid (show ResCase _ nr lr er from hCr)
  have RWr24 := Lib.hid (show Rd w24 (.slice pr lr.length cr) lr from hMr.rd (ResCase.len17 HCr.out))
  clear hMr hCr
  have HB24 := Lib.hid (HB23.out.trans (hb24.mono HB23.out.size))
  have HX24 := Lib.hid (HX23.out.keep hb24)
  have HY24 := Lib.hid (HY23.out.keep hb24)
  have HZ24 := Lib.hid (HZ23.out.keep hb24)
  have HS24 := Lib.hid (HS23.out.keep hb24)
  have HT24 := Lib.hid (HT23.out.keep hb24)
  have HP24 := Lib.hid (HP23.out.keep hb24)
  have HQ24 := Lib.hid (HQ23.out.keep hb24)
  have HU24 := Lib.hid (HU23.out.keep hb24)
  have HV24 := Lib.hid (HV23.out.keep hb24)
  have HG24 := Lib.hid (HG23.out.keep hb24)
  have HH24 := Lib.hid (HH23.out.keep hb24)
  have RWa24 := Lib.hid (RWa23.out.keep hb24)
  have RWt24 := Lib.hid (RWt23.out.keep hb24)
  have RWp24 := Lib.hid (RWp23.out.keep hb24)
  have RWq24 := Lib.hid (RWq23.out.keep hb24)
  have RWy24 := Lib.hid (RWy23.out.keep hb24)
  have RWl24 := Lib.hid (RWl23.out.keep hb24)
  have RWg24 := Lib.hid (RWg23.out.keep hb24)
  have RWh24 := Lib.hid (RWh23.out.keep hb24)
  clear cX23a  cX23b  cX23l  cY23a  cY23b  cY23l  cZ23a  cZ23b  cZ23l  cS23a  cS23b  cS23l  cT23a  cT23b  cT23l  cP23a  cP23b  cP23l  cQ23a  cQ23b  cQ23l  cU23a  cU23b  cU23l  cV23a  cV23b  cV23l  cG23a  cG23b  cG23l  cH23a  cH23b  cH23l  HX23 HY23 HZ23 HS23 HT23 HP23 HQ23 HU23 HV23 HG23 HH23 RWa23 RWt23 RWp23 RWq23 RWy23 RWl23 RWg23 RWh23 HB23 hb24 
  have cX24a := HX24.out.c0
  have cX24b := HX24.out.c1
  have cX24l := HX24.out.lt
  have cY24a := HY24.out.c0
  have cY24b := HY24.out.c1
  have cY24l := HY24.out.lt
  have cZ24a := HZ24.out.c0
  have cZ24b := HZ24.out.c1
  have cZ24l := HZ24.out.lt
  have cS24a := HS24.out.c0
  have cS24b := HS24.out.c1
  have cS24l := HS24.out.lt
  have cT24a := HT24.out.c0
  have cT24b := HT24.out.c1
  have cT24l := HT24.out.lt
  have cP24a := HP24.out.c0
  have cP24b := HP24.out.c1
  have cP24l := HP24.out.lt
  have cQ24a := HQ24.out.c0
  have cQ24b := HQ24.out.c1
  have cQ24l := HQ24.out.lt
  have cU24a := HU24.out.c0
  have cU24b := HU24.out.c1
  have cU24l := HU24.out.lt
  have cV24a := HV24.out.c0
  have cV24b := HV24.out.c1
  have cV24l := HV24.out.lt
  have cG24a := HG24.out.c0
  have cG24b := HG24.out.c1
  have cG24l := HG24.out.lt
  have cH24a := HH24.out.c0
  have cH24b := HH24.out.c1
  have cH24l := HH24.out.lt
  rcases ResCase.er HCy.out with rfl | rfl
  rotate_left
  · go_wp2_with fail
    go_ret
    exact ⟨rfl, (HB24.out.alloc (by have := HB24.out.size; omega) _)⟩
  rcases ResCase.er HCl.out with rfl | rfl
  rotate_left
  · go_wp2_with fail
    go_ret
    exact ⟨rfl, (HB24.out.alloc (by have := HB24.out.size; omega) _)⟩
  rcases ResCase.er HCg.out with rfl | rfl
  rotate_left
  · go_wp2_with fail
    go_ret
    exact ⟨rfl, (HB24.out.alloc (by have := HB24.out.size; omega) _)⟩
  rcases ResCase.er HCh.out with rfl | rfl
  rotate_left
  · go_wp2_with fail
    go_ret
    exact ⟨rfl, (HB24.out.alloc (by have := HB24.out.size; omega) _)⟩
  rcases ResCase.er HCr.out with rfl | rfl
  rotate_left
  · go_wp2_with fail
    go_ret
    exact ⟨rfl, (HB24.out.alloc (by have := HB24.out.size; omega) _)⟩
  have eY := ResCase.ok HCy.out
  have eG := ResCase.ok HCg.out
  have eH := ResCase.ok HCh.out
  have sL := ResCase.ok HCl.out
  have sR := ResCase.ok HCr.out
  rw [← eY.eq] at sL
  rw [← eG.eq, ← eH.eq] at sR
  have HSR := Lib.hid (show Sgn B18 nr lr ((sg n1 (val B18 xs)) * ((sg n2 (val B18 ys)) + (sg n3 (val B18 zs)))) by rw [Int.mul_add]; exact sR)
  have HSL := Lib.hid sL
  clear eY eG eH sL sR
  go_wp2_with fail
  refine (same_yes nl nr (.slice pl ll.length cl) (.slice pr lr.length cr) ll lr _ _ ((RWl24.out).alloc _) ((RWr24.out).alloc _) HSL.out HSR.out).mono ?_
  rintro e v ⟨rfl, hv⟩
  go_wp2_with fail
  go_ret
  exact ⟨rfl, (HB24.out.alloc (by have := HB24.out.size; omega) _).trans (hv.mono (by have := HB24.out.size; simp; omega))⟩
theorem lawRing (n1 : Bool) (u1 : Value) (xs : List Int) (n2 : Bool) (u2 : Value) (ys : List Int) (n3 : Bool) (u3 : Value) (zs : List Int) (w : World) (hr1 : Rd w u1 xs) (hf1 : Fit xs) (hr2 : Rd w u2 ys) (hf2 : Fit ys) (hr3 : Rd w u3 zs) (hf3 : Fit zs) :
    Calls Tryd.prog 9 #[.agg #[.bool n1, u1], .agg #[.bool n2, u2], .agg #[.bool n3, u3]] w (BoolPost w true) := by
  cases hg1 : goodB n1 xs with
  | false => exact ring_bad1 n1 u1 xs n2 u2 ys n3 u3 zs w hr1 hf1 hr2 hf2 hr3 hf3 hg1
  | true =>
    cases hg2 : goodB n2 ys with
    | false => exact ring_bad2 n1 u1 xs n2 u2 ys n3 u3 zs w hr1 hf1 hr2 hf2 hr3 hf3 hg1 hg2
    | true =>
      cases hg3 : goodB n3 zs with
      | false => exact ring_bad3 n1 u1 xs n2 u2 ys n3 u3 zs w hr1 hf1 hr2 hf2 hr3 hf3 hg1 hg2 hg3
      | true =>
        by_cases hs : Small (sg n1 (val B18 xs) + sg n2 (val B18 ys))
        · exact ring_good1 n1 u1 xs n2 u2 ys n3 u3 zs w hr1 hf1 hr2 hf2 hr3 hf3 hg1 hg2 hg3 hs
        · exact ring_good2 n1 u1 xs n2 u2 ys n3 u3 zs w hr1 hf1 hr2 hf2 hr3 hf3 hg1 hg2 hg3 hs
end Go.Proofs.YtapeomcnjjfihaaDoor
