/- Layer 2: whole.Neg. -/
import Derived.Test.YticebchmafipiaaDoorWAddBad
namespace Go.Proofs.YticebchmafipiaaDoor
open Go.ChangeShapes Go.WideShapes Go.ChangeAt Go.RowKit
set_option linter.unusedVariables false
set_option linter.unusedSimpArgs false
def BigPost (W : World) (B0 : Nat) (z : Int) (e : Ending) (w' : World) : Prop :=
  ∃ neg u ws, e = .returned (.agg #[.bool neg, u]) ∧ MU w' B0 u ws ∧ Sgn B18 neg ws z ∧ Below W.heap.size W w'
/-- The boxes of a number that came in, and of the answer. -/
structure Bx2 (w : World) (B : Nat) (n1 : Bool) (u1 : Value) : Prop where
  x0 : w.cell? ⟨B, 0, none⟩ = some (.bool n1)
  x1 : w.cell? ⟨B, 1, none⟩ = some u1
  r0 : w.cell? ⟨B + 1, 0, none⟩ = some (.bool false)
  r1 : w.cell? ⟨B + 1, 1, none⟩ = some (.slice none 0 0)
  f0 : w.frozen? ⟨B + 1, 0, none⟩ = false
  f1 : w.frozen? ⟨B + 1, 1, none⟩ = false
  lt : B + 1 < w.heap.size
theorem Bx2.keep {w w' : World} {B : Nat} {n1 : Bool} {u1 : Value} (h : Bx2 w B n1 u1) (hb : Below w.heap.size w w') : Bx2 w' B n1 u1 :=
  ⟨below_cell hb h.x0, below_cell hb h.x1, below_cell hb h.r0, below_cell hb h.r1, (hb.frozen (p := ⟨B + 1, 0, none⟩) h.lt).trans h.f0, (hb.frozen (p := ⟨B + 1, 1, none⟩) h.lt).trans h.f1, Nat.lt_of_lt_of_le h.lt hb.size⟩
theorem sg_not (n : Bool) (a : Int) : sg (!n) a = -(sg n a) := by cases n <;> simp [sg]
theorem Small.neg {z : Int} (h : Small z) : Small (-z) := ⟨by rw [Int.natAbs_neg]; exact h.lt⟩
set_option maxRecDepth 100000 in
set_option maxHeartbeats 800000 in
theorem neg_good (n1 : Bool) (u1 : Value) (xs : List Int) (z1 : Int) (w : World) (hr1 : Rd w u1 xs) (hs1 : Sgn B18 n1 xs z1) (hl1 : xs.length ≤ 30) :
    Calls Tryd.prog 18 #[.agg #[.bool n1, u1]] w (BigPost w w.heap.size (-z1)) := by
  have HR1 := Lib.hid hr1
  obtain ⟨p1, c1, rfl, _, _, _⟩ := rd_form hr1
  have HS1 := Lib.hid hs1
  clear hr1 hs1
  go_enter Tryd.func18, Tryd.ntmps18
  go_wp2_with fail
  generalize hw2 : World.alloc (World.alloc w _) _ = w2
  have hbx : Bx2 w2 w.heap.size n1 (.slice p1 xs.length c1) := by
    rw [← hw2]
    refine ⟨alloc_cell (by simp) _, alloc_cell (by simp) _, ?_, ?_, ?_, ?_, by simp⟩ <;> simp
  have HB2 := Lib.hid (show Below w.heap.size w w2 by rw [← hw2]; exact ((Below.refl _ _).alloc (Nat.le_refl _) _).alloc (by simp) _)
  clear hw2
  have HX2 := Lib.hid hbx
  have q0 := hbx.x0
  have q1 := hbx.x1
  refine (good_yes _ _ xs z1 w2 (HR1.out.keep HB2.out) HS1.out hl1).mono ?_
  rintro e w3 ⟨rfl, hb3⟩
  have HX3 := Lib.hid (HX2.out.keep hb3)
  have HB3 := Lib.hid (HB2.out.trans (hb3.mono HB2.out.size))
  have t0 := HX3.out.x0
  have t1 := HX3.out.x1
  clear q0 q1 hb3 hbx HX2 HB2
  go_wp2_with fail
  refine (copied_any _ _ xs w3 (HR1.out.keep HB3.out)).mono ?_
  rintro e w4 ⟨k, g, hk, hg, rfl, hL, hb4⟩
  obtain ⟨neg', p, ws', hv, hM, hS, hlk⟩ := made_sgn (B0 := w3.heap.size) (!n1) hk HS1.out.canon.1 hL hg
  rw [hv]
  have hx4 := HX3.out.keep hb4
  have m0 := hx4.r0
  have m1 := hx4.r1
  have mf0 := hx4.f0
  have mf1 := hx4.f1
  have hlt := HX3.out.lt
  have HM := Lib.hid (hM w4 rfl)
  have HSS := Lib.hid hS
  have HB4 := Lib.hid (HB3.out.trans (hb4.mono HB3.out.size))
  clear hv hM hS hlk hb4 hx4 hL hk t0 t1
  go_wp2_with fail
  have zz := two_setW (x0 := .bool neg') (x1 := .slice p k k) m0 m1
  refine bodyPost_ret (v := .agg #[.bool neg', .slice p k k]) (by simp [results, Tryd.results18, go_sem, zz.1, zz.2]) rfl ⟨neg', _, ws', rfl, (HM.out.set2 hlt _ _).low (by omega), ?_, (HB4.out.setCell (by simp) _).setCell (by simp) _⟩
  have := HSS.out
  rw [sg_not, ← HS1.out.eq] at this
  exact this
set_option maxRecDepth 100000 in
set_option maxHeartbeats 800000 in
theorem neg_bad (n1 : Bool) (u1 : Value) (xs : List Int) (w : World) (hr1 : Rd w u1 xs) (hf1 : Fit xs) (hg : goodB n1 xs = false) :
    Calls Tryd.prog 18 #[.agg #[.bool n1, u1]] w (fun e w' => e = .returned (.agg #[.bool false, .slice none 0 0]) ∧ Below w.heap.size w w') := by
  have HR1 := Lib.hid hr1
  obtain ⟨p1, c1, rfl, _, _, _⟩ := rd_form hr1
  have HG := Lib.hid hg
  clear hr1 hg
  go_enter Tryd.func18, Tryd.ntmps18
  go_wp2_with fail
  generalize hw2 : World.alloc (World.alloc w _) _ = w2
  have hbx : Bx2 w2 w.heap.size n1 (.slice p1 xs.length c1) := by
    rw [← hw2]
    refine ⟨alloc_cell (by simp) _, alloc_cell (by simp) _, ?_, ?_, ?_, ?_, by simp⟩ <;> simp
  have HB2 := Lib.hid (show Below w.heap.size w w2 by rw [← hw2]; exact ((Below.refl _ _).alloc (Nat.le_refl _) _).alloc (by simp) _)
  clear hw2
  have HX2 := Lib.hid hbx
  have q0 := hbx.x0
  have q1 := hbx.x1
  refine (good_no _ _ xs w2 (HR1.out.keep HB2.out) hf1 HG.out).mono ?_
  rintro e w3 ⟨rfl, hb3⟩
  have hx3 := HX2.out.keep hb3
  have HB3 := Lib.hid (HB2.out.trans (hb3.mono HB2.out.size))
  have m0 := hx3.r0
  have m1 := hx3.r1
  have mf0 := hx3.f0
  have mf1 := hx3.f1
  clear q0 q1 hb3 hbx HX2 HB2 hx3
  go_wp2_with fail
  have zz := two_setW (x0 := .bool false) (x1 := .slice none 0 0) m0 m1
  exact bodyPost_ret (v := .agg #[.bool false, .slice none 0 0]) (by simp [results, Tryd.results18, go_sem, zz.1, zz.2]) rfl ⟨rfl, (HB3.out.setCell (by simp) _).setCell (by simp) _⟩
end Go.Proofs.YticebchmafipiaaDoor
