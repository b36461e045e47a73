/- Layer 2: the helpers of the laws: form, fits, is. -/
import Derived.Test.YtapeomcnjjfihaaDoorWKnown
import Derived.Test.YtapeomcnjjfihaaDoorWRefCmp
import Derived.Test.YtapeomcnjjfihaaDoorWRefTo
import Derived.Test.YtapeomcnjjfihaaDoorWRefGood
namespace Go.Proofs.YtapeomcnjjfihaaDoor
open Go.ChangeShapes Go.WideShapes Go.ChangeAt Go.RowKit
set_option linter.unusedVariables false
set_option linter.unusedSimpArgs false
set_option maxRecDepth 100000 in
set_option maxHeartbeats 1000000 in
theorem fits_law (n1 : Bool) (u1 : Value) (ds : List Int) (w : World) (hr : Rb w u1 ds) :
    Calls Tryd.prog 36 #[.agg #[.bool n1, u1]] w (CmpPost w (if (ds.length : Int) ≤ 540 then 0 else 7)) := by
  have HB := Lib.hid (show Below w.heap.size w (w.alloc (.cells #[.bool n1, u1] 32)) from (Below.refl _ _).alloc (Nat.le_refl _) _)
  have HF := Lib.hid (fits_any n1 u1 ds (w.alloc (.cells #[.bool n1, u1] 32)) (hr.keep HB.out))
  by_cases hd : (ds.length : Int) ≤ 540
  · rw [if_pos hd]
    rw [decide_eq_true hd] at HF
    clear hr hd
    go_enter Tryd.func36, Tryd.ntmps36
    go_wp2_with fail
    refine HF.out.mono ?_
    rintro e w1 ⟨rfl, hb⟩
    go_wp2_with fail
    go_ret
    exact ⟨rfl, HB.out.trans (hb.mono HB.out.size)⟩
  · rw [if_neg hd]
    rw [decide_eq_false hd] at HF
    clear hr hd
    go_enter Tryd.func36, Tryd.ntmps36
    go_wp2_with fail
    refine HF.out.mono ?_
    rintro e w1 ⟨rfl, hb⟩
    go_wp2_with fail
    go_ret
    exact ⟨rfl, HB.out.trans (hb.mono HB.out.size)⟩
set_option maxRecDepth 100000 in
set_option maxHeartbeats 1000000 in
theorem form_law (n1 : Bool) (u1 : Value) (xs : List Int) (n2 : Bool) (u2 : Value) (ys : List Int) (w : World) (hr1 : Rd w u1 xs) (hr2 : Rd w u2 ys) (hf1 : Fit xs) (hf2 : Fit ys) :
    Calls Tryd.prog 28 #[.agg #[.bool n1, u1], .agg #[.bool n2, u2]] w (CmpPost w (if goodB n1 xs && goodB n2 ys then 0 else 3)) := by
  have HR1 := Lib.hid hr1
  have HR2 := Lib.hid hr2
  have HG1 := Lib.hid (fun wx (hb : Below w.heap.size w wx) => refgood_any n1 u1 xs wx (HR1.out.keep hb) hf1)
  have HG2 := Lib.hid (fun wx (hb : Below w.heap.size w wx) => refgood_any n2 u2 ys wx (HR2.out.keep hb) hf2)
  generalize goodB n1 xs = b1 at HG1
  generalize goodB n2 ys = b2 at HG2
  clear hr1 hr2 hf1 hf2
  cases b1 <;> cases b2
  all_goals
    go_enter Tryd.func28, Tryd.ntmps28
    go_wp2_with fail
    generalize hw1 : World.alloc (World.alloc w _) _ = w1
    have HB1 := Lib.hid (show Below w.heap.size w w1 by rw [← hw1]; exact ((Below.refl _ _).alloc (Nat.le_refl _) _).alloc (by simp) _)
    have HK2 := Lib.hid (show Box2 w1 (w.heap.size + 1) (.bool n2) u2 by rw [← hw1]; exact Box2.new _ _ _ _ (by simp))
    clear hw1
    refine (HG1.out w1 HB1.out).mono ?_
    rintro e w2 ⟨rfl, hb2⟩
    have HB2 := Lib.hid (HB1.out.trans (hb2.mono HB1.out.size))
    have hk := HK2.out.keep hb2
    have k0 := hk.c0
    have k1 := hk.c1
    clear hk hb2
    go_wp2_with fail
  all_goals first
    | (go_ret; exact ⟨rfl, HB2.out⟩)
    | (refine (HG2.out w2 HB2.out).mono ?_
       rintro e w3 ⟨rfl, hb3⟩
       go_wp2_with fail
       go_ret
       exact ⟨rfl, HB2.out.trans (hb3.mono HB2.out.size)⟩)
end Go.Proofs.YtapeomcnjjfihaaDoor
