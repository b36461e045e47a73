/- Layer 2, the document's answer: Turn, Plus, Cmp, Fits. -/
import Derived.Test.YtapeomcnjjfihaaDoorWRefTo
namespace Go.Proofs.YtapeomcnjjfihaaDoor
open Go.ChangeShapes Go.WideShapes Go.ChangeAt Go.RowKit
set_option linter.unusedVariables false
set_option linter.unusedSimpArgs false
set_option maxRecDepth 100000 in
set_option maxHeartbeats 800000 in
theorem turn_any (n1 : Bool) (u1 : Value) (ds : List Int) (z1 : Int) (w : World) (hr1 : Rb w u1 ds) (hs1 : Sgn 10 n1 ds z1) :
    Calls Tryd.prog 35 #[.agg #[.bool n1, u1]] w (NumPost w (-z1)) := by
  have HR1 := Lib.hid hr1
  obtain ⟨p1, c1, rfl, _, _, _⟩ := rb_form hr1
  have HS1 := Lib.hid hs1
  have HT := Lib.hid (hs1.turn (by decide))
  clear hr1 hs1
  have hB : ∀ o o', Below w.heap.size w ((w.alloc o).alloc o') := fun o o' => ((Below.refl _ _).alloc (Nat.le_refl _) _).alloc (by simp) _
  have HB := Lib.hid hB
  have FIN := Lib.hid (fun (b : Bool) (o o' : Obj) (hb : b = (!n1 && decide (0 < ds.length))) => show NumPost w (-z1) (.returned (.agg #[.bool b, .slice p1 ds.length c1])) ((w.alloc o).alloc o') from
    ⟨b, _, ds, rfl, HR1.out.keep (HB.out _ _), by rw [hb]; exact HT.out, HB.out _ _⟩)
  clear hB
  cases n1 with
  | true =>
    go_enter Tryd.func35, Tryd.ntmps35
    go_wp2
    exact bodyPost_ret (v := .agg #[.bool false, .slice p1 ds.length c1]) (by simp [results, Tryd.results35, go_sem]) rfl (FIN.out false _ _ rfl)
  | false =>
    by_cases hl : 0 < ds.length
    · have hlz : (0 : Int) < (ds.length : Int) := by omega
      have hd : decide ((0 : Int) < (ds.length : Int)) = true := by simpa using hl
      have HD := Lib.hid (show true = (!false && decide (0 < ds.length)) by simp [hl])
      go_enter Tryd.func35, Tryd.ntmps35
      go_wp2
      exact bodyPost_ret (v := .agg #[.bool true, .slice p1 ds.length c1]) (by simp [results, Tryd.results35, go_sem]) rfl (FIN.out true _ _ HD.out)
    · have hlz : ¬ (0 : Int) < (ds.length : Int) := by omega
      have hd : decide ((0 : Int) < (ds.length : Int)) = false := by simpa using hl
      have HD := Lib.hid (show false = (!false && decide (0 < ds.length)) by rw [decide_eq_false hl]; rfl)
      go_enter Tryd.func35, Tryd.ntmps35
      go_wp2
      exact bodyPost_ret (v := .agg #[.bool false, .slice p1 ds.length c1]) (by simp [results, Tryd.results35, go_sem]) rfl (FIN.out false _ _ HD.out)
set_option maxRecDepth 100000 in
theorem fits_any (n1 : Bool) (u1 : Value) (ds : List Int) (w : World) (hr1 : Rb w u1 ds) :
    Calls Tryd.prog 65 #[.agg #[.bool n1, u1]] w (BoolPost w (decide ((ds.length : Int) ≤ 540))) := by
  obtain ⟨p1, c1, rfl, _, _, _⟩ := rb_form hr1
  have HB := Lib.hid (show Below w.heap.size w (w.alloc (.cells #[.bool n1, .slice p1 ds.length c1] 32)) from (Below.refl _ _).alloc (Nat.le_refl _) _)
  clear hr1
  go_enter Tryd.func65, Tryd.ntmps65
  go_wp2
  go_ret
  exact BoolPost.mk rfl HB.out
set_option maxRecDepth 100000 in
set_option maxHeartbeats 800000 in
theorem refcmp_tt (u1 : Value) (xs : List Int) (z1 : Int) (u2 : Value) (ys : List Int) (z2 : Int) (w : World) (hr1 : Rb w u1 xs) (hr2 : Rb w u2 ys) (hs1 : Sgn 10 true xs z1) (hs2 : Sgn 10 true ys z2) :
    Calls Tryd.prog 37 #[.agg #[.bool true, u1], .agg #[.bool true, u2]] w (CmpPost w (cmpI z1 z2)) := by
  have HR1 := Lib.hid hr1
  have HR2 := Lib.hid hr2
  obtain ⟨p1, c1, rfl, _, _, _⟩ := rb_form hr1
  obtain ⟨p2, c2, rfl, _, _, _⟩ := rb_form hr2
  have HS1 := Lib.hid hs1
  have HS2 := Lib.hid hs2
  clear hr1 hr2 hs1 hs2
  go_enter Tryd.func37, Tryd.ntmps37
  go_wp2_with fail
  generalize hw2 : World.alloc (World.alloc w _) _ = w2
  have hbx : Bx2c w2 w.heap.size true (.slice p1 xs.length c1) true (.slice p2 ys.length c2) := by
    rw [← hw2]
    refine ⟨alloc_cell (by simp) _, alloc_cell (by simp) _, ?_, ?_⟩ <;> simp
  have HB2 := Lib.hid (show Below w.heap.size w w2 by rw [← hw2]; exact ((Below.refl _ _).alloc (Nat.le_refl _) _).alloc (by simp) _)
  clear hw2
  have HX2 := Lib.hid hbx
  have q0 := hbx.x0
  have q1 := hbx.x1
  have q2 := hbx.y0
  have q3 := hbx.y1
  refine (sizes_any _ _ ys xs w2 (HR2.out.keep HB2.out) (HR1.out.keep HB2.out) HS2.out.canon HS1.out.canon).mono ?_
  rintro e w5 ⟨rfl, hb5⟩
  have HB5 := Lib.hid (HB2.out.trans (hb5.mono HB2.out.size))
  clear hb5
  rw [cmp_sgn_nn (by decide) HS1.out HS2.out]
  go_wp2_with fail
  go_ret
  exact CmpPost.mk rfl HB5.out
set_option maxRecDepth 100000 in
set_option maxHeartbeats 800000 in
theorem refcmp_tf (u1 : Value) (xs : List Int) (z1 : Int) (u2 : Value) (ys : List Int) (z2 : Int) (w : World) (hr1 : Rb w u1 xs) (hr2 : Rb w u2 ys) (hs1 : Sgn 10 true xs z1) (hs2 : Sgn 10 false ys z2) :
    Calls Tryd.prog 37 #[.agg #[.bool true, u1], .agg #[.bool false, u2]] w (CmpPost w (cmpI z1 z2)) := by
  have HR1 := Lib.hid hr1
  have HR2 := Lib.hid hr2
  obtain ⟨p1, c1, rfl, _, _, _⟩ := rb_form hr1
  obtain ⟨p2, c2, rfl, _, _, _⟩ := rb_form hr2
  have HS1 := Lib.hid hs1
  have HS2 := Lib.hid hs2
  clear hr1 hr2 hs1 hs2
  go_enter Tryd.func37, Tryd.ntmps37
  go_wp2
  go_ret
  exact CmpPost.mk (cmp_sgn_np (by decide) HS1.out HS2.out) (((Below.refl _ _).alloc (Nat.le_refl _) _).alloc (by simp) _)
set_option maxRecDepth 100000 in
set_option maxHeartbeats 800000 in
theorem refcmp_ft (u1 : Value) (xs : List Int) (z1 : Int) (u2 : Value) (ys : List Int) (z2 : Int) (w : World) (hr1 : Rb w u1 xs) (hr2 : Rb w u2 ys) (hs1 : Sgn 10 false xs z1) (hs2 : Sgn 10 true ys z2) :
    Calls Tryd.prog 37 #[.agg #[.bool false, u1], .agg #[.bool true, u2]] w (CmpPost w (cmpI z1 z2)) := by
  have HR1 := Lib.hid hr1
  have HR2 := Lib.hid hr2
  obtain ⟨p1, c1, rfl, _, _, _⟩ := rb_form hr1
  obtain ⟨p2, c2, rfl, _, _, _⟩ := rb_form hr2
  have HS1 := Lib.hid hs1
  have HS2 := Lib.hid hs2
  clear hr1 hr2 hs1 hs2
  go_enter Tryd.func37, Tryd.ntmps37
  go_wp2
  go_ret
  exact CmpPost.mk (cmp_sgn_pn (by decide) HS1.out HS2.out) (((Below.refl _ _).alloc (Nat.le_refl _) _).alloc (by simp) _)
set_option maxRecDepth 100000 in
set_option maxHeartbeats 800000 in
theorem refcmp_ff (u1 : Value) (xs : List Int) (z1 : Int) (u2 : Value) (ys : List Int) (z2 : Int) (w : World) (hr1 : Rb w u1 xs) (hr2 : Rb w u2 ys) (hs1 : Sgn 10 false xs z1) (hs2 : Sgn 10 false ys z2) :
    Calls Tryd.prog 37 #[.agg #[.bool false, u1], .agg #[.bool false, u2]] w (CmpPost w (cmpI z1 z2)) := by
  have HR1 := Lib.hid hr1
  have HR2 := Lib.hid hr2
  obtain ⟨p1, c1, rfl, _, _, _⟩ := rb_form hr1
  obtain ⟨p2, c2, rfl, _, _, _⟩ := rb_form hr2
  have HS1 := Lib.hid hs1
  have HS2 := Lib.hid hs2
  clear hr1 hr2 hs1 hs2
  go_enter Tryd.func37, Tryd.ntmps37
  go_wp2_with fail
  generalize hw2 : World.alloc (World.alloc w _) _ = w2
  have hbx : Bx2c w2 w.heap.size false (.slice p1 xs.length c1) false (.slice p2 ys.length c2) := by
    rw [← hw2]
    refine ⟨alloc_cell (by simp) _, alloc_cell (by simp) _, ?_, ?_⟩ <;> simp
  have HB2 := Lib.hid (show Below w.heap.size w w2 by rw [← hw2]; exact ((Below.refl _ _).alloc (Nat.le_refl _) _).alloc (by simp) _)
  clear hw2
  have HX2 := Lib.hid hbx
  have q0 := hbx.x0
  have q1 := hbx.x1
  have q2 := hbx.y0
  have q3 := hbx.y1
  refine (sizes_any _ _ xs ys w2 (HR1.out.keep HB2.out) (HR2.out.keep HB2.out) HS1.out.canon HS2.out.canon).mono ?_
  rintro e w5 ⟨rfl, hb5⟩
  have HB5 := Lib.hid (HB2.out.trans (hb5.mono HB2.out.size))
  clear hb5
  rw [cmp_sgn_pp (by decide) HS1.out HS2.out]
  go_wp2_with fail
  go_ret
  exact CmpPost.mk rfl HB5.out
theorem refcmp_any (n1 : Bool) (u1 : Value) (xs : List Int) (z1 : Int) (n2 : Bool) (u2 : Value) (ys : List Int) (z2 : Int) (w : World) (hr1 : Rb w u1 xs) (hr2 : Rb w u2 ys) (hs1 : Sgn 10 n1 xs z1) (hs2 : Sgn 10 n2 ys z2) :
    Calls Tryd.prog 37 #[.agg #[.bool n1, u1], .agg #[.bool n2, u2]] w (CmpPost w (cmpI z1 z2)) := by
  cases n1 <;> cases n2
  · exact refcmp_ff u1 xs z1 u2 ys z2 w hr1 hr2 hs1 hs2
  · exact refcmp_ft u1 xs z1 u2 ys z2 w hr1 hr2 hs1 hs2
  · exact refcmp_tf u1 xs z1 u2 ys z2 w hr1 hr2 hs1 hs2
  · exact refcmp_tt u1 xs z1 u2 ys z2 w hr1 hr2 hs1 hs2
end Go.Proofs.YtapeomcnjjfihaaDoor
