/- Layer 2: whole.Add. -/
import Derived.Test.YticebchmafipiaaDoorWAddBad
import Derived.Deep.RegionHeld3
namespace Go.Proofs.YticebchmafipiaaDoor
open Go.ChangeShapes Go.WideShapes Go.ChangeAt Go.RowKit
set_option linter.unusedVariables false
set_option linter.unusedSimpArgs false
theorem len_le {xs ys : List Int} (hx : Canon B18 xs) (hy : Canon B18 ys) (h : val B18 xs ≤ val B18 ys) : xs.length ≤ ys.length := by
  apply Classical.byContradiction
  intro hc
  have := len_lt (b := B18) (by decide) hy hx (by omega)
  omega
set_option maxRecDepth 100000 in
set_option maxHeartbeats 800000 in
theorem add_same (n1 : Bool) (u1 : Value) (xs : List Int) (z1 : Int) (n2 : Bool) (u2 : Value) (ys : List Int) (z2 : Int) (w : World) (hr1 : Rd w u1 xs) (hr2 : Rd w u2 ys) (hs1 : Sgn B18 n1 xs z1) (hs2 : Sgn B18 n2 ys z2) (hl1 : xs.length ≤ 30) (hl2 : ys.length ≤ 30) (hn : n1 = n2) :
    Calls Tryd.prog 14 #[.agg #[.bool n1, u1], .agg #[.bool n2, u2]] w (ResPost w w.heap.size (z1 + z2)) := by
  subst hn
  have HR1 := Lib.hid hr1
  have HR2 := Lib.hid hr2
  obtain ⟨p1, c1, rfl, _, _, _⟩ := rd_form hr1
  obtain ⟨p2, c2, rfl, _, _, _⟩ := rd_form hr2
  have HS1 := Lib.hid hs1
  have HS2 := Lib.hid hs2
  clear hr1 hr2 hs1 hs2
  go_enter Tryd.func14, Tryd.ntmps14
  go_wp2_with fail
  generalize hw2 : World.alloc (World.alloc (World.alloc w _) _) _ = w2
  have hbx : Bx3 w2 w.heap.size n1 (.slice p1 xs.length c1) n1 (.slice p2 ys.length c2) := by
    rw [← hw2]
    exact ⟨alloc_cell (alloc_cell (by simp) _) _, alloc_cell (alloc_cell (by simp) _) _, alloc_cell (by simp) _, alloc_cell (by simp) _, third_cell _ _ _ _ _ 0, third_cell _ _ _ _ _ 1, third_fr _ _ _ _ _ 0, third_fr _ _ _ _ _ 1, by simp⟩
  have HB2 := Lib.hid (show Below w.heap.size w w2 by rw [← hw2]; exact (((Below.refl _ _).alloc (Nat.le_refl _) _).alloc (by simp) _).alloc (by simp; omega) _)
  clear hw2
  have HX2 := Lib.hid hbx
  have q0 := hbx.x0
  have q1 := hbx.x1
  have q2 := hbx.y0
  have q3 := hbx.y1
  refine (good_yes _ _ xs z1 w2 (HR1.out.keep HB2.out) HS1.out hl1).mono ?_
  rintro e w3 ⟨rfl, hb3⟩
  have HX3 := Lib.hid (HX2.out.keep hb3)
  have HB3 := Lib.hid (HB2.out.trans (hb3.mono HB2.out.size))
  have t0 := HX3.out.x0
  have t1 := HX3.out.x1
  have t2 := HX3.out.y0
  have t3 := HX3.out.y1
  clear q0 q1 q2 q3 hb3 hbx HX2 HB2
  go_wp2_with fail
  refine (good_yes _ _ ys z2 w3 (HR2.out.keep HB3.out) HS2.out hl2).mono ?_
  rintro e w4 ⟨rfl, hb4⟩
  have HX4 := Lib.hid (HX3.out.keep hb4)
  have HB4 := Lib.hid (HB3.out.trans (hb4.mono HB3.out.size))
  have s0 := HX4.out.x0
  have s1 := HX4.out.x1
  have s2 := HX4.out.y0
  have s3 := HX4.out.y1
  have r0 := HX4.out.r0
  have r1 := HX4.out.r1
  have f0 := HX4.out.f0
  have f1 := HX4.out.f1
  have hlt := HX4.out.lt
  clear t0 t1 t2 t3 hb4 HX3 HB3
  have HADD := Lib.hid (fun (wx : World) (hx : Below w.heap.size w wx) => addSizes_any _ _ xs ys wx (HR1.out.keep hx) (HR2.out.keep hx) HS1.out.canon.1 HS2.out.canon.1)
  go_wp2_with fail
  go_region_held3 (fun w' => w'.cell? ⟨w.heap.size, 0, none⟩ = some (.bool n1) ∧ w'.cell? ⟨w.heap.size, 1, none⟩ = some (.slice p1 xs.length c1) ∧ w'.cell? ⟨w.heap.size + 1, 1, none⟩ = some (.slice p2 ys.length c2))
    ((repeat' apply And.intro) <;> (first | assumption | exact cell_set2 (by omega) (by assumption) _ _ | go_keep))
    (first
     | (go_at_call 36; refine (HADD.out _ (by first | exact HB4.out | exact HB4.out.drew)).mono ?_; rintro e w5 ⟨g, os, rfl, hg, hL, hol, hd, hv, hb5⟩; have hq5 : Below w4.heap.size w4 w5 := ⟨hb5.os, hb5.tape, hb5.output, hb5.size, hb5.block⟩; have hx5 := HX4.out.keep hq5; have k50 := hx5.x0; have k51 := hx5.x1; have k52 := hx5.y1; have HL5 := Lib.hid hL; have HD5 := Lib.hid hd; have HV5 := Lib.hid hv; have HO5 := Lib.hid hol; have HG5 := Lib.hid (show w4.heap.size ≤ g from hg); have HX5 := Lib.hid hx5; have HB5 := Lib.hid (HB4.out.trans (hq5.mono HB4.out.size)); clear hL hd hv hol hg hq5 hb5 hx5)
     | (go_at_call 35; refine (fit_any n1 _ w4.heap.size _ _ HL5.out HD5.out HG5.out (by have := HO5.out; omega)).mono ?_; rintro e w6 ⟨neg, u, ws, er, rfl, hM, hb6, hcase⟩; obtain ⟨p, c, rfl⟩ := MU.form hM; have HM6 := Lib.hid hM; have HC6 := Lib.hid hcase; have HB6 := Lib.hid (HB5.out.trans (hb6.mono HB5.out.size)); have hx6 := HX5.out.keep hb6; have k60 := hx6.x0; have k61 := hx6.x1; have k62 := hx6.y1; have m0 := hx6.r0; have m1 := hx6.r1; have mf0 := hx6.f0; have mf1 := hx6.f1; clear hM hcase hb6 hx6))
  go_wp2_with fail
  have zz := two_setW (x0 := .bool neg) (x1 := .slice p ws.length c) m0 m1
  refine bodyPost_ret (v := .tuple #[.agg #[.bool neg, .slice p ws.length c], .int .i64 er]) (by simp [results, Tryd.results14, go_sem, zz.1, zz.2]) rfl ?_
  exact ResPost.mk (HM6.out.set2 hlt _ _) (by omega) ((HB6.out.setCell (by simp; omega) _).setCell (by simp; omega) _) (by rw [HV5.out, sg_add, ← HS1.out.eq, ← HS2.out.eq]) HC6.out
set_option maxRecDepth 100000 in
set_option maxHeartbeats 800000 in
theorem add_lt2 (n1 : Bool) (u1 : Value) (xs : List Int) (z1 : Int) (n2 : Bool) (u2 : Value) (ys : List Int) (z2 : Int) (w : World) (hr1 : Rd w u1 xs) (hr2 : Rd w u2 ys) (hs1 : Sgn B18 n1 xs z1) (hs2 : Sgn B18 n2 ys z2) (hl1 : xs.length ≤ 30) (hl2 : ys.length ≤ 30) (hne : (n1 == n2) = false) (hc : val B18 xs < val B18 ys) :
    Calls Tryd.prog 14 #[.agg #[.bool n1, u1], .agg #[.bool n2, u2]] w (ResPost w w.heap.size (z1 + z2)) := by
  have HC := Lib.hid hc
  have HLE := Lib.hid (len_le hs1.canon hs2.canon (Int.le_of_lt hc))
  clear hc
  have HR1 := Lib.hid hr1
  have HR2 := Lib.hid hr2
  obtain ⟨p1, c1, rfl, _, _, _⟩ := rd_form hr1
  obtain ⟨p2, c2, rfl, _, _, _⟩ := rd_form hr2
  have HS1 := Lib.hid hs1
  have HS2 := Lib.hid hs2
  clear hr1 hr2 hs1 hs2
  go_enter Tryd.func14, Tryd.ntmps14
  go_wp2_with fail
  generalize hw2 : World.alloc (World.alloc (World.alloc w _) _) _ = w2
  have hbx : Bx3 w2 w.heap.size n1 (.slice p1 xs.length c1) n2 (.slice p2 ys.length c2) := by
    rw [← hw2]
    exact ⟨alloc_cell (alloc_cell (by simp) _) _, alloc_cell (alloc_cell (by simp) _) _, alloc_cell (by simp) _, alloc_cell (by simp) _, third_cell _ _ _ _ _ 0, third_cell _ _ _ _ _ 1, third_fr _ _ _ _ _ 0, third_fr _ _ _ _ _ 1, by simp⟩
  have HB2 := Lib.hid (show Below w.heap.size w w2 by rw [← hw2]; exact (((Below.refl _ _).alloc (Nat.le_refl _) _).alloc (by simp) _).alloc (by simp; omega) _)
  clear hw2
  have HX2 := Lib.hid hbx
  have q0 := hbx.x0
  have q1 := hbx.x1
  have q2 := hbx.y0
  have q3 := hbx.y1
  refine (good_yes _ _ xs z1 w2 (HR1.out.keep HB2.out) HS1.out hl1).mono ?_
  rintro e w3 ⟨rfl, hb3⟩
  have HX3 := Lib.hid (HX2.out.keep hb3)
  have HB3 := Lib.hid (HB2.out.trans (hb3.mono HB2.out.size))
  have t0 := HX3.out.x0
  have t1 := HX3.out.x1
  have t2 := HX3.out.y0
  have t3 := HX3.out.y1
  clear q0 q1 q2 q3 hb3 hbx HX2 HB2
  go_wp2_with fail
  refine (good_yes _ _ ys z2 w3 (HR2.out.keep HB3.out) HS2.out hl2).mono ?_
  rintro e w4 ⟨rfl, hb4⟩
  have HX4 := Lib.hid (HX3.out.keep hb4)
  have HB4 := Lib.hid (HB3.out.trans (hb4.mono HB3.out.size))
  have s0 := HX4.out.x0
  have s1 := HX4.out.x1
  have s2 := HX4.out.y0
  have s3 := HX4.out.y1
  have r0 := HX4.out.r0
  have r1 := HX4.out.r1
  have f0 := HX4.out.f0
  have f1 := HX4.out.f1
  have hlt := HX4.out.lt
  clear t0 t1 t2 t3 hb4 HX3 HB3
  have HNE := Lib.hid (show n1 ≠ n2 by intro e; subst e; simp at hne)
  go_wp2_with fail
  refine (cmpSizes_any _ _ xs ys w4 (HR1.out.keep HB4.out) (HR2.out.keep HB4.out) HS1.out.canon HS2.out.canon).mono ?_
  rintro e w5 ⟨rfl, hb5⟩
  have HX5 := Lib.hid (HX4.out.keep hb5)
  have HB5 := Lib.hid (HB4.out.trans (hb5.mono HB4.out.size))
  clear s0 s1 s2 s3 r0 r1 f0 f1 hlt hb5 HX4 HB4
  have s0 := HX5.out.x0
  have s1 := HX5.out.x1
  have s2 := HX5.out.y0
  have s3 := HX5.out.y1
  have r0 := HX5.out.r0
  have r1 := HX5.out.r1
  have f0 := HX5.out.f0
  have f1 := HX5.out.f1
  have hlt := HX5.out.lt
  rw [cmpI_lt HC.out]
  have HSUB := Lib.hid (fun (wx : World) (hx : Below w.heap.size w wx) => subSizes_any _ _ ys xs wx (HR2.out.keep hx) (HR1.out.keep hx) HS2.out.canon.1 HS1.out.canon.1 (HLE.out) (by have := HC.out; omega))
  go_wp2_with fail
  go_region_held3 (fun w' => w'.cell? ⟨w.heap.size + 1, 0, none⟩ = some (.bool n2) ∧ w'.cell? ⟨w.heap.size, 1, none⟩ = some (.slice p1 xs.length c1) ∧ w'.cell? ⟨w.heap.size + 1, 1, none⟩ = some (.slice p2 ys.length c2))
    ((repeat' apply And.intro) <;> (first | assumption | exact cell_set2 (by omega) (by assumption) _ _ | go_keep))
    (first
     | (go_at_call 38; refine (HSUB.out _ (by first | exact HB5.out | exact HB5.out.drew)).mono ?_; rintro e w6 ⟨g, os, rfl, hg, hL, hol, hd, hv, hb5⟩; have hq5 : Below w5.heap.size w5 w6 := ⟨hb5.os, hb5.tape, hb5.output, hb5.size, hb5.block⟩; have hx6 := HX5.out.keep hq5; have k60 := hx6.y0; have k61 := hx6.x1; have k62 := hx6.y1; have HL5 := Lib.hid hL; have HD5 := Lib.hid hd; have HV5 := Lib.hid hv; have HO5 := Lib.hid hol; have HG5 := Lib.hid (show w5.heap.size ≤ g from hg); have HX6 := Lib.hid hx6; have HB6 := Lib.hid (HB5.out.trans (hq5.mono HB5.out.size)); clear hL hd hv hol hg hq5 hb5 hx6)
     | (go_at_call 35; refine (fit_any n2 _ w5.heap.size _ _ HL5.out HD5.out HG5.out (by have := HO5.out; omega)).mono ?_; rintro e w7 ⟨neg, u, ws, er, rfl, hM, hb6, hcase⟩; obtain ⟨p, c, rfl⟩ := MU.form hM; have HM6 := Lib.hid hM; have HC6 := Lib.hid hcase; have HB7 := Lib.hid (HB6.out.trans (hb6.mono HB6.out.size)); have hx7 := HX6.out.keep hb6; have k70 := hx7.y0; have k71 := hx7.x1; have k72 := hx7.y1; have m0 := hx7.r0; have m1 := hx7.r1; have mf0 := hx7.f0; have mf1 := hx7.f1; clear hM hcase hb6 hx7))
  go_wp2_with fail
  have zz := two_setW (x0 := .bool neg) (x1 := .slice p ws.length c) m0 m1
  refine bodyPost_ret (v := .tuple #[.agg #[.bool neg, .slice p ws.length c], .int .i64 er]) (by simp [results, Tryd.results14, go_sem, zz.1, zz.2]) rfl ?_
  exact ResPost.mk (HM6.out.set2 hlt _ _) (by omega) ((HB7.out.setCell (by simp; omega) _).setCell (by simp; omega) _) (by rw [HV5.out, sg_sub n2 n1 _ _ (Ne.symm HNE.out), ← HS1.out.eq, ← HS2.out.eq, Int.add_comm]) HC6.out
set_option maxRecDepth 100000 in
set_option maxHeartbeats 800000 in
theorem add_ge2 (n1 : Bool) (u1 : Value) (xs : List Int) (z1 : Int) (n2 : Bool) (u2 : Value) (ys : List Int) (z2 : Int) (w : World) (hr1 : Rd w u1 xs) (hr2 : Rd w u2 ys) (hs1 : Sgn B18 n1 xs z1) (hs2 : Sgn B18 n2 ys z2) (hl1 : xs.length ≤ 30) (hl2 : ys.length ≤ 30) (hne : (n1 == n2) = false) (hc : ¬ val B18 xs < val B18 ys) :
    Calls Tryd.prog 14 #[.agg #[.bool n1, u1], .agg #[.bool n2, u2]] w (ResPost w w.heap.size (z1 + z2)) := by
  have HC := Lib.hid hc
  have HLE := Lib.hid (len_le hs2.canon hs1.canon (by omega))
  clear hc
  have HR1 := Lib.hid hr1
  have HR2 := Lib.hid hr2
  obtain ⟨p1, c1, rfl, _, _, _⟩ := rd_form hr1
  obtain ⟨p2, c2, rfl, _, _, _⟩ := rd_form hr2
  have HS1 := Lib.hid hs1
  have HS2 := Lib.hid hs2
  clear hr1 hr2 hs1 hs2
  go_enter Tryd.func14, Tryd.ntmps14
  go_wp2_with fail
  generalize hw2 : World.alloc (World.alloc (World.alloc w _) _) _ = w2
  have hbx : Bx3 w2 w.heap.size n1 (.slice p1 xs.length c1) n2 (.slice p2 ys.length c2) := by
    rw [← hw2]
    exact ⟨alloc_cell (alloc_cell (by simp) _) _, alloc_cell (alloc_cell (by simp) _) _, alloc_cell (by simp) _, alloc_cell (by simp) _, third_cell _ _ _ _ _ 0, third_cell _ _ _ _ _ 1, third_fr _ _ _ _ _ 0, third_fr _ _ _ _ _ 1, by simp⟩
  have HB2 := Lib.hid (show Below w.heap.size w w2 by rw [← hw2]; exact (((Below.refl _ _).alloc (Nat.le_refl _) _).alloc (by simp) _).alloc (by simp; omega) _)
  clear hw2
  have HX2 := Lib.hid hbx
  have q0 := hbx.x0
  have q1 := hbx.x1
  have q2 := hbx.y0
  have q3 := hbx.y1
  refine (good_yes _ _ xs z1 w2 (HR1.out.keep HB2.out) HS1.out hl1).mono ?_
  rintro e w3 ⟨rfl, hb3⟩
  have HX3 := Lib.hid (HX2.out.keep hb3)
  have HB3 := Lib.hid (HB2.out.trans (hb3.mono HB2.out.size))
  have t0 := HX3.out.x0
  have t1 := HX3.out.x1
  have t2 := HX3.out.y0
  have t3 := HX3.out.y1
  clear q0 q1 q2 q3 hb3 hbx HX2 HB2
  go_wp2_with fail
  refine (good_yes _ _ ys z2 w3 (HR2.out.keep HB3.out) HS2.out hl2).mono ?_
  rintro e w4 ⟨rfl, hb4⟩
  have HX4 := Lib.hid (HX3.out.keep hb4)
  have HB4 := Lib.hid (HB3.out.trans (hb4.mono HB3.out.size))
  have s0 := HX4.out.x0
  have s1 := HX4.out.x1
  have s2 := HX4.out.y0
  have s3 := HX4.out.y1
  have r0 := HX4.out.r0
  have r1 := HX4.out.r1
  have f0 := HX4.out.f0
  have f1 := HX4.out.f1
  have hlt := HX4.out.lt
  clear t0 t1 t2 t3 hb4 HX3 HB3
  have HNE := Lib.hid (show n1 ≠ n2 by intro e; subst e; simp at hne)
  go_wp2_with fail
  refine (cmpSizes_any _ _ xs ys w4 (HR1.out.keep HB4.out) (HR2.out.keep HB4.out) HS1.out.canon HS2.out.canon).mono ?_
  rintro e w5 ⟨rfl, hb5⟩
  have HX5 := Lib.hid (HX4.out.keep hb5)
  have HB5 := Lib.hid (HB4.out.trans (hb5.mono HB4.out.size))
  clear s0 s1 s2 s3 r0 r1 f0 f1 hlt hb5 HX4 HB4
  have s0 := HX5.out.x0
  have s1 := HX5.out.x1
  have s2 := HX5.out.y0
  have s3 := HX5.out.y1
  have r0 := HX5.out.r0
  have r1 := HX5.out.r1
  have f0 := HX5.out.f0
  have f1 := HX5.out.f1
  have hlt := HX5.out.lt
  have hc0 : ¬ cmpI (val B18 xs) (val B18 ys) < 0 := by have := HC.out; unfold cmpI; rw [if_neg (by omega)]; split <;> omega
  generalize cmpI (val B18 xs) (val B18 ys) = cc at hc0
  have HSUB := Lib.hid (fun (wx : World) (hx : Below w.heap.size w wx) => subSizes_any _ _ xs ys wx (HR1.out.keep hx) (HR2.out.keep hx) HS1.out.canon.1 HS2.out.canon.1 (HLE.out) (by have := HC.out; omega))
  go_wp2_with fail
  go_region_held3 (fun w' => w'.cell? ⟨w.heap.size, 0, none⟩ = some (.bool n1) ∧ w'.cell? ⟨w.heap.size, 1, none⟩ = some (.slice p1 xs.length c1) ∧ w'.cell? ⟨w.heap.size + 1, 1, none⟩ = some (.slice p2 ys.length c2))
    ((repeat' apply And.intro) <;> (first | assumption | exact cell_set2 (by omega) (by assumption) _ _ | go_keep))
    (first
     | (go_at_call 38; refine (HSUB.out _ (by first | exact HB5.out | exact HB5.out.drew)).mono ?_; rintro e w6 ⟨g, os, rfl, hg, hL, hol, hd, hv, hb5⟩; have hq5 : Below w5.heap.size w5 w6 := ⟨hb5.os, hb5.tape, hb5.output, hb5.size, hb5.block⟩; have hx6 := HX5.out.keep hq5; have k60 := hx6.x0; have k61 := hx6.x1; have k62 := hx6.y1; have HL5 := Lib.hid hL; have HD5 := Lib.hid hd; have HV5 := Lib.hid hv; have HO5 := Lib.hid hol; have HG5 := Lib.hid (show w5.heap.size ≤ g from hg); have HX6 := Lib.hid hx6; have HB6 := Lib.hid (HB5.out.trans (hq5.mono HB5.out.size)); clear hL hd hv hol hg hq5 hb5 hx6)
     | (go_at_call 35; refine (fit_any n1 _ w5.heap.size _ _ HL5.out HD5.out HG5.out (by have := HO5.out; omega)).mono ?_; rintro e w7 ⟨neg, u, ws, er, rfl, hM, hb6, hcase⟩; obtain ⟨p, c, rfl⟩ := MU.form hM; have HM6 := Lib.hid hM; have HC6 := Lib.hid hcase; have HB7 := Lib.hid (HB6.out.trans (hb6.mono HB6.out.size)); have hx7 := HX6.out.keep hb6; have k70 := hx7.x0; have k71 := hx7.x1; have k72 := hx7.y1; have m0 := hx7.r0; have m1 := hx7.r1; have mf0 := hx7.f0; have mf1 := hx7.f1; clear hM hcase hb6 hx7))
  go_wp2_with fail
  have zz := two_setW (x0 := .bool neg) (x1 := .slice p ws.length c) m0 m1
  refine bodyPost_ret (v := .tuple #[.agg #[.bool neg, .slice p ws.length c], .int .i64 er]) (by simp [results, Tryd.results14, go_sem, zz.1, zz.2]) rfl ?_
  exact ResPost.mk (HM6.out.set2 hlt _ _) (by omega) ((HB7.out.setCell (by simp; omega) _).setCell (by simp; omega) _) (by rw [HV5.out, sg_sub n1 n2 _ _ HNE.out, ← HS1.out.eq, ← HS2.out.eq]) HC6.out
theorem add_good (n1 : Bool) (u1 : Value) (xs : List Int) (z1 : Int) (n2 : Bool) (u2 : Value) (ys : List Int) (z2 : Int) (w : World) (hr1 : Rd w u1 xs) (hr2 : Rd w u2 ys) (hs1 : Sgn B18 n1 xs z1) (hs2 : Sgn B18 n2 ys z2) (hl1 : xs.length ≤ 30) (hl2 : ys.length ≤ 30) :
    Calls Tryd.prog 14 #[.agg #[.bool n1, u1], .agg #[.bool n2, u2]] w (ResPost w w.heap.size (z1 + z2)) := by
  by_cases hn : n1 = n2
  · exact add_same n1 u1 xs z1 n2 u2 ys z2 w hr1 hr2 hs1 hs2 hl1 hl2 hn
  · have hne : (n1 == n2) = false := by simpa using hn
    by_cases hc : val B18 xs < val B18 ys
    · exact add_lt2 n1 u1 xs z1 n2 u2 ys z2 w hr1 hr2 hs1 hs2 hl1 hl2 hne hc
    · exact add_ge2 n1 u1 xs z1 n2 u2 ys z2 w hr1 hr2 hs1 hs2 hl1 hl2 hne hc
end Go.Proofs.YticebchmafipiaaDoor
