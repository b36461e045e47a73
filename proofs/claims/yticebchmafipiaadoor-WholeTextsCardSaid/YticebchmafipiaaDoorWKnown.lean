/- Layer 2: known(): the example that each statement asks first: it answers true. -/
import Derived.Test.YticebchmafipiaaDoorWKnownDiv
import Derived.Test.YticebchmafipiaaDoorWText0
import Derived.Test.YticebchmafipiaaDoorWOf
namespace Go.Proofs.YticebchmafipiaaDoor
open Go.ChangeShapes Go.WideShapes Go.ChangeAt Go.RowKit
set_option linter.unusedVariables false
set_option linter.unusedSimpArgs false
theorem sgn4 : Sgn B18 true [4] (-4) := ⟨canon_d ⟨by decide, by decide⟩, fun _ => by simp, by simp [sg, val]⟩
theorem sgn1 : Sgn B18 false [1] 1 := ⟨canon_d ⟨by decide, by decide⟩, fun h => (by cases h), by simp [sg, val]⟩
set_option maxRecDepth 100000 in
set_option maxHeartbeats 2000000 in
theorem known_true (w : World) : Calls Tryd.prog 5 #[] w fun e w' => e = .returned (.bool true) ∧ Below w.heap.size w w' := by
  go_enter Tryd.func5, Tryd.ntmps5
  go_wp2_with fail
  refine (of_int (-7) w (by omega) (by omega)).mono ?_
  rintro e w1 ⟨n1, u1, xs, rfl, hM1, hS1, hb1⟩
  obtain ⟨rfl, rfl⟩ := hS1.uniq (by decide) sgn7
  have HR1 := Lib.hid (hM1.rd (by simp))
  have HB1 := Lib.hid hb1
  clear hM1 hS1 hb1
  go_wp2_with fail
  refine (of_int 2 w1 (by omega) (by omega)).mono ?_
  rintro e w2 ⟨n2, u2, ys, rfl, hM2, hS2, hb2⟩
  obtain ⟨rfl, rfl⟩ := hS2.uniq (by decide) sgn2
  have HR2 := Lib.hid (hM2.rd (by simp))
  have HR1' := Lib.hid (HR1.out.keep hb2)
  have HB2 := Lib.hid (HB1.out.trans (hb2.mono HB1.out.size))
  clear hM2 hS2 hb2 HB1 HR1
  go_wp2_with fail
  refine (div_known _ _ _ _ _ _ w2 HR1'.out HR2.out sgn7 sgn2).mono ?_
  rintro e w3 ⟨nq, uq, qs, nr, ur, rs, rfl, hq, hr, hsq, hsr, hb3⟩
  obtain ⟨rfl, rfl⟩ := hsq.uniq (by decide) sgn4
  obtain ⟨rfl, rfl⟩ := hsr.uniq (by decide) sgn1
  have HQ3 := Lib.hid (hq.rd (by simp))
  have HR3 := Lib.hid (hr.rd (by simp))
  obtain ⟨p1, c1, rfl⟩ := MU.form hq
  obtain ⟨p2, c2, rfl⟩ := MU.form hr
  have HB3 := Lib.hid (HB2.out.trans (hb3.mono HB2.out.size))
  have hz3 := HB3.out.size
  clear hq hr hsq hsr hb3 HB2 HR1' HR2
  go_wp2_with fail
  generalize hw4 : World.alloc (World.alloc w3 _) _ = w4
  have HK1 := Lib.hid (show Box2 w4 w3.heap.size (.bool true) (.slice p1 1 c1) by rw [← hw4]; exact (Box2.new _ _ _ _ rfl).alloc _)
  have HK2 := Lib.hid (show Box2 w4 (w3.heap.size + 1) (.bool false) (.slice p2 1 c2) by rw [← hw4]; exact Box2.new _ _ _ _ (by simp))
  have hb4 : Below w3.heap.size w3 w4 := by rw [← hw4]; exact ((Below.refl _ _).alloc (Nat.le_refl _) _).alloc (by simp) _
  have HQ4 := Lib.hid (show Rd w4 (.slice p1 1 c1) [4] from HQ3.out.keep hb4)
  have HR4 := Lib.hid (show Rd w4 (.slice p2 1 c2) [1] from HR3.out.keep hb4)
  have HB4 := Lib.hid (HB3.out.trans (hb4.mono HB3.out.size))
  have hc2 := HK2.out.c0
  have hc3 := HK2.out.c1
  clear hw4 hb4 HQ3 HR3 HB3
  refine (text_m4 _ w4 HQ4.out).mono ?_
  rintro e w5 ⟨rfl, hb5⟩
  have HX5 := Lib.hid (HK1.out.keep hb5)
  have HY5 := Lib.hid (HK2.out.keep hb5)
  have HQ5 := Lib.hid (HQ4.out.keep hb5)
  have HR5 := Lib.hid (HR4.out.keep hb5)
  have HB5 := Lib.hid (HB4.out.trans (hb5.mono HB4.out.size))
  have d2 := HY5.out.c0
  have d3 := HY5.out.c1
  clear hc2 hc3 hb5 HK1 HK2 HQ4 HR4 HB4
  go_wp2_with fail
  refine (text_1 _ w5 HR5.out).mono ?_
  rintro e w6 ⟨rfl, hb6⟩
  have HX6 := Lib.hid (HX5.out.keep hb6)
  have HQ6 := Lib.hid (HQ5.out.keep hb6)
  have HB6 := Lib.hid (HB5.out.trans (hb6.mono HB5.out.size))
  have e2 := HX6.out.c0
  have e3 := HX6.out.c1
  clear d2 d3 hb6 HX5 HY5 HQ5 HR5 HB5
  go_wp2_with fail
  refine (good_yes _ _ [4] (-4) w6 HQ6.out sgn4 (by simp)).mono ?_
  rintro e w7 ⟨rfl, hb7⟩
  have HB7 := Lib.hid (HB6.out.trans (hb7.mono HB6.out.size))
  clear e2 e3 hb7 HX6 HQ6 HB6
  go_wp2_with fail
  refine (good_no true (.slice none 0 0) [] w7 (.inl ⟨_, rfl, rfl⟩) (Canon.fit (Canon.nil (by decide))) rfl).mono ?_
  rintro e w8 ⟨rfl, hb8⟩
  go_wp2_with fail
  go_ret
  exact ⟨rfl, HB7.out.trans (hb8.mono HB7.out.size)⟩
end Go.Proofs.YticebchmafipiaaDoor
