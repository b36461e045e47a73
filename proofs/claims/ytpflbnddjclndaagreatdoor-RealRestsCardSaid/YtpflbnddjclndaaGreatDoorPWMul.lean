/- Layer 2: whole.Mul. -/
import Derived.Test.YtpflbnddjclndaaGreatDoorPWMulSizes
import Derived.Test.YtpflbnddjclndaaGreatDoorPGWc
namespace Go.Proofs.YtpflbnddjclndaaGreatDoor
open Go.ChangeShapes Go.WideShapes Go.ChangeAt Go.RowKit
set_option linter.unusedVariables false
set_option linter.unusedSimpArgs false
theorem sg_mul (n m : Bool) (a b : Int) : sg (n != m) (a * b) = sg n a * sg m b := by
  cases n <;> cases m <;> simp [sg, Int.neg_mul, Int.mul_neg]
set_option maxRecDepth 100000 in
set_option maxHeartbeats 1000000 in
theorem mul_bad1 (n1 : Bool) (u1 : Value) (xs : List Int) (n2 : Bool) (u2 : Value) (ys : List Int) (w : World) (hr1 : Rd w u1 xs) (hf1 : Fit xs) (hr2 : Rd w u2 ys) (hg : goodB n1 xs = false) :
    Calls Tryz.prog 25 #[.agg #[.bool n1, u1], .agg #[.bool n2, u2]] w (BadPost w 3) := by
  have HR1 := Lib.hid hr1
  have HR2 := Lib.hid hr2
  obtain ⟨p1, c1, rfl, _, _, _⟩ := rd_form hr1
  obtain ⟨p2, c2, rfl, _, _, _⟩ := rd_form hr2
  have HGN := Lib.hid hg
  clear hr1 hr2 hg
  go_enter Tryz.func25, Tryz.ntmps25
  go_wp2_with fail
  generalize hw2 : World.alloc (World.alloc (World.alloc w _) _) _ = w2
  have hbx : Bx3 w2 w.heap.size n1 (.slice p1 xs.length c1) n2 (.slice p2 ys.length c2) := by
    rw [← hw2]
    exact ⟨alloc_cell (alloc_cell (by simp) _) _, alloc_cell (alloc_cell (by simp) _) _, alloc_cell (by simp) _, alloc_cell (by simp) _, third_cell _ _ _ _ _ 0, third_cell _ _ _ _ _ 1, third_fr _ _ _ _ _ 0, third_fr _ _ _ _ _ 1, by simp⟩
  have HB2 := Lib.hid (show Below w.heap.size w w2 by rw [← hw2]; exact (((Below.refl _ _).alloc (Nat.le_refl _) _).alloc (by simp) _).alloc (by simp; omega) _)
  clear hw2
  have HX2 := Lib.hid hbx
  have q0 := hbx.x0
  have q1 := hbx.x1
  have q2 := hbx.y0
  have q3 := hbx.y1
  refine (good_no _ _ xs w2 (HR1.out.keep HB2.out) hf1 HGN.out).mono ?_
  rintro e w3 ⟨rfl, hb3⟩
  have hX := HX2.out.keep hb3
  have HB := Lib.hid (HB2.out.trans (hb3.mono HB2.out.size))
  have r0 := hX.r0
  have r1 := hX.r1
  have f0 := hX.f0
  have f1 := hX.f1
  clear hX hb3
  clear q0 q1 q2 q3 hbx
  go_wp2_with fail
  have z2 := two_setW (x0 := .bool false) (x1 := .slice none 0 0) r0 r1
  refine bodyPost_ret (v := .tuple #[.agg #[.bool false, .slice none 0 0], .int .i64 3]) (by simp [results, Tryz.results25, go_sem, z2.1, z2.2]) rfl ⟨rfl, ?_⟩
  exact (HB.out.setCell (by simp; omega) _).setCell (by simp; omega) _
set_option maxRecDepth 100000 in
set_option maxHeartbeats 1000000 in
theorem mul_bad2 (n1 : Bool) (u1 : Value) (xs : List Int) (n2 : Bool) (u2 : Value) (ys : List Int) (w : World) (hr1 : Rd w u1 xs) (hf1 : Fit xs) (hr2 : Rd w u2 ys) (hf2 : Fit ys) (hg1 : goodB n1 xs = true) (hg : goodB n2 ys = false) :
    Calls Tryz.prog 25 #[.agg #[.bool n1, u1], .agg #[.bool n2, u2]] w (BadPost w 3) := by
  have HR1 := Lib.hid hr1
  have HR2 := Lib.hid hr2
  obtain ⟨p1, c1, rfl, _, _, _⟩ := rd_form hr1
  obtain ⟨p2, c2, rfl, _, _, _⟩ := rd_form hr2
  have HGN := Lib.hid hg
  clear hr1 hr2 hg
  have HG1 := Lib.hid (goodB_sgn hg1 hf1)
  clear hg1
  go_enter Tryz.func25, Tryz.ntmps25
  go_wp2_with fail
  generalize hw2 : World.alloc (World.alloc (World.alloc w _) _) _ = w2
  have hbx : Bx3 w2 w.heap.size n1 (.slice p1 xs.length c1) n2 (.slice p2 ys.length c2) := by
    rw [← hw2]
    exact ⟨alloc_cell (alloc_cell (by simp) _) _, alloc_cell (alloc_cell (by simp) _) _, alloc_cell (by simp) _, alloc_cell (by simp) _, third_cell _ _ _ _ _ 0, third_cell _ _ _ _ _ 1, third_fr _ _ _ _ _ 0, third_fr _ _ _ _ _ 1, by simp⟩
  have HB2 := Lib.hid (show Below w.heap.size w w2 by rw [← hw2]; exact (((Below.refl _ _).alloc (Nat.le_refl _) _).alloc (by simp) _).alloc (by simp; omega) _)
  clear hw2
  have HX2 := Lib.hid hbx
  have q0 := hbx.x0
  have q1 := hbx.x1
  have q2 := hbx.y0
  have q3 := hbx.y1
  refine (good_yes _ _ xs _ w2 (HR1.out.keep HB2.out) HG1.out.1 HG1.out.2).mono ?_
  rintro e w3 ⟨rfl, hb3⟩
  have HX3 := Lib.hid (HX2.out.keep hb3)
  have HB3 := Lib.hid (HB2.out.trans (hb3.mono HB2.out.size))
  have t0 := HX3.out.x0
  have t1 := HX3.out.x1
  have t2 := HX3.out.y0
  have t3 := HX3.out.y1
  clear q0 q1 q2 q3 hb3 hbx
  go_wp2_with fail
  refine (good_no _ _ ys w3 (HR2.out.keep HB3.out) hf2 HGN.out).mono ?_
  rintro e w4 ⟨rfl, hb4⟩
  have hX := HX3.out.keep hb4
  have HB := Lib.hid (HB3.out.trans (hb4.mono HB3.out.size))
  have r0 := hX.r0
  have r1 := hX.r1
  have f0 := hX.f0
  have f1 := hX.f1
  clear hX hb4
  clear t0 t1 t2 t3
  go_wp2_with fail
  have z2 := two_setW (x0 := .bool false) (x1 := .slice none 0 0) r0 r1
  refine bodyPost_ret (v := .tuple #[.agg #[.bool false, .slice none 0 0], .int .i64 3]) (by simp [results, Tryz.results25, go_sem, z2.1, z2.2]) rfl ⟨rfl, ?_⟩
  exact (HB.out.setCell (by simp; omega) _).setCell (by simp; omega) _
set_option maxRecDepth 100000 in
set_option maxHeartbeats 800000 in
theorem mul_good (n1 : Bool) (u1 : Value) (xs : List Int) (z1 : Int) (n2 : Bool) (u2 : Value) (ys : List Int) (z2 : Int) (w : World) (hr1 : Rd w u1 xs) (hr2 : Rd w u2 ys) (hs1 : Sgn B18 n1 xs z1) (hs2 : Sgn B18 n2 ys z2) (hl1 : xs.length ≤ 30) (hl2 : ys.length ≤ 30) :
    Calls Tryz.prog 25 #[.agg #[.bool n1, u1], .agg #[.bool n2, u2]] w (ResPost w w.heap.size (z1 * z2)) := by
  have HR1 := Lib.hid hr1
  have HR2 := Lib.hid hr2
  obtain ⟨p1, c1, rfl, _, _, _⟩ := rd_form hr1
  obtain ⟨p2, c2, rfl, _, _, _⟩ := rd_form hr2
  have HS1 := Lib.hid hs1
  have HS2 := Lib.hid hs2
  clear hr1 hr2 hs1 hs2
  go_enter Tryz.func25, Tryz.ntmps25
  go_wp2_with fail
  generalize hw2 : World.alloc (World.alloc (World.alloc w _) _) _ = w2
  have hbx : Bx3 w2 w.heap.size n1 (.slice p1 xs.length c1) n2 (.slice p2 ys.length c2) := by
    rw [← hw2]
    exact ⟨alloc_cell (alloc_cell (by simp) _) _, alloc_cell (alloc_cell (by simp) _) _, alloc_cell (by simp) _, alloc_cell (by simp) _, third_cell _ _ _ _ _ 0, third_cell _ _ _ _ _ 1, third_fr _ _ _ _ _ 0, third_fr _ _ _ _ _ 1, by simp⟩
  have HB2 := Lib.hid (show Below w.heap.size w w2 by rw [← hw2]; exact (((Below.refl _ _).alloc (Nat.le_refl _) _).alloc (by simp) _).alloc (by simp; omega) _)
  clear hw2
  have HX2 := Lib.hid hbx
  have q0 := hbx.x0
  have q1 := hbx.x1
  have q2 := hbx.y0
  have q3 := hbx.y1
  refine (good_yes _ _ xs z1 w2 (HR1.out.keep HB2.out) HS1.out hl1).mono ?_
  rintro e w3 ⟨rfl, hb3⟩
  have HX3 := Lib.hid (HX2.out.keep hb3)
  have HB3 := Lib.hid (HB2.out.trans (hb3.mono HB2.out.size))
  have t0 := HX3.out.x0
  have t1 := HX3.out.x1
  have t2 := HX3.out.y0
  have t3 := HX3.out.y1
  clear q0 q1 q2 q3 hb3 hbx HX2 HB2
  go_wp2_with fail
  refine (good_yes _ _ ys z2 w3 (HR2.out.keep HB3.out) HS2.out hl2).mono ?_
  rintro e w4 ⟨rfl, hb4⟩
  have HX4 := Lib.hid (HX3.out.keep hb4)
  have HB4 := Lib.hid (HB3.out.trans (hb4.mono HB3.out.size))
  have s0 := HX4.out.x0
  have s1 := HX4.out.x1
  have s2 := HX4.out.y0
  have s3 := HX4.out.y1
  have r0 := HX4.out.r0
  have r1 := HX4.out.r1
  have f0 := HX4.out.f0
  have f1 := HX4.out.f1
  have hlt := HX4.out.lt
  clear t0 t1 t2 t3 hb4 HX3 HB3
  have HADD := Lib.hid (fun (wx : World) (hx : Below w.heap.size w wx) => mulSizes_any _ _ xs ys wx (HR1.out.keep hx) (HR2.out.keep hx) HS1.out.canon.1 HS2.out.canon.1 (by omega) (by omega))
  go_wp2_with fail
  go_region_held3 (fun w' => w'.cell? ⟨w.heap.size, 0, none⟩ = some (.bool n1) ∧ w'.cell? ⟨w.heap.size + 1, 0, none⟩ = some (.bool n2) ∧ w'.cell? ⟨w.heap.size, 1, none⟩ = some (.slice p1 xs.length c1) ∧ w'.cell? ⟨w.heap.size + 1, 1, none⟩ = some (.slice p2 ys.length c2))
    ((repeat' apply And.intro) <;> (first | assumption | exact cell_set2 (by omega) (by assumption) _ _ | go_keep))
    (first
     | (go_at_call 50; refine (HADD.out _ (by first | exact HB4.out | exact HB4.out.drew)).mono ?_; rintro e w5 ⟨g, os, rfl, hg, hL, hol, hd, hv, hb5⟩; have hq5 : Below w4.heap.size w4 w5 := ⟨hb5.os, hb5.tape, hb5.output, hb5.size, hb5.block⟩; have hx5 := HX4.out.keep hq5; have k50 := hx5.x0; have k51 := hx5.x1; have k52 := hx5.y1; have k53 := hx5.y0; have HL5 := Lib.hid hL; have HD5 := Lib.hid hd; have HV5 := Lib.hid hv; have HO5 := Lib.hid hol; have HG5 := Lib.hid (show w4.heap.size ≤ g from hg); have HX5 := Lib.hid hx5; have HB5 := Lib.hid (HB4.out.trans (hq5.mono HB4.out.size)); clear hL hd hv hol hg hq5 hb5 hx5)
     | (go_at_call 49; refine (fit_any (n1 != n2) _ w4.heap.size _ _ HL5.out HD5.out HG5.out (by have := HO5.out; omega)).mono ?_; rintro e w6 ⟨neg, u, ws, er, rfl, hM, hb6, hcase⟩; obtain ⟨p, c, rfl⟩ := MU.form hM; have HM6 := Lib.hid hM; have HC6 := Lib.hid hcase; have HB6 := Lib.hid (HB5.out.trans (hb6.mono HB5.out.size)); have hx6 := HX5.out.keep hb6; have k60 := hx6.x0; have k61 := hx6.x1; have k62 := hx6.y1; have k63 := hx6.y0; have m0 := hx6.r0; have m1 := hx6.r1; have mf0 := hx6.f0; have mf1 := hx6.f1; clear hM hcase hb6 hx6))
  go_wp2_with fail
  have zz := two_setW (x0 := .bool neg) (x1 := .slice p ws.length c) m0 m1
  refine bodyPost_ret (v := .tuple #[.agg #[.bool neg, .slice p ws.length c], .int .i64 er]) (by simp [results, Tryz.results25, go_sem, zz.1, zz.2]) rfl ?_
  exact ResPost.mk (HM6.out.set2 hlt _ _) (by omega) ((HB6.out.setCell (by simp; omega) _).setCell (by simp; omega) _) (by rw [HV5.out, sg_mul, ← HS1.out.eq, ← HS2.out.eq]) HC6.out
end Go.Proofs.YtpflbnddjclndaaGreatDoor
