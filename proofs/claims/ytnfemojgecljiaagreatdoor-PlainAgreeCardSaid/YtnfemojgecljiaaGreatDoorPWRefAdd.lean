/- Layer 2, the document's answer: Plus. -/
import Derived.Test.YtnfemojgecljiaaGreatDoorPGWf
namespace Go.Proofs.YtnfemojgecljiaaGreatDoor
open Go.ChangeShapes Go.WideShapes Go.ChangeAt Go.RowKit
set_option linter.unusedVariables false
set_option linter.unusedSimpArgs false
theorem Mine.form {k : IntKind} {T : TypeId} {w : World} {B : Nat} {u : Value} {ws : List Int} (h : Mine k T w B u ws) : ∃ p c, u = .slice p ws.length c := by
  rcases h with ⟨rfl, rfl⟩ | ⟨g, c, cur, h0, _⟩
  · exact ⟨_, _, rfl⟩
  · exact ⟨_, _, h0⟩
/-- A sign and the digits of a sum or a difference. -/
theorem Sgn.made {b : Int} (hb : 0 < b) {n : Bool} {os : List Int} {a z : Int} (hc : Canon b os) (hv : val b os = a) (hp : n = true → 0 < a) (hz : sg n a = z) : Sgn b n os z := by
  refine ⟨hc, fun e => ?_, by rw [hv, hz]⟩
  have h1 := hp e
  cases os with
  | nil => simp [val] at hv; omega
  | cons d r => simp
theorem Sgn.pos {b : Int} (hb : 0 < b) {n : Bool} {ws : List Int} {z : Int} (h : Sgn b n ws z) (e : n = true) : 0 < val b ws := h.canon.pos hb (h.sign e)
theorem len_le10 {xs ys : List Int} (hx : Canon 10 xs) (hy : Canon 10 ys) (h : val 10 xs ≤ val 10 ys) : xs.length ≤ ys.length := by
  apply Classical.byContradiction
  intro hc
  have := len_lt (b := 10) (by decide) hy hx (by omega)
  omega
set_option maxRecDepth 100000 in
set_option maxHeartbeats 800000 in
theorem rp_same (n1 : Bool) (u1 : Value) (xs : List Int) (z1 : Int) (n2 : Bool) (u2 : Value) (ys : List Int) (z2 : Int) (w : World) (hr1 : Rb w u1 xs) (hr2 : Rb w u2 ys) (hs1 : Sgn 10 n1 xs z1) (hs2 : Sgn 10 n2 ys z2) (hl1 : xs.length ≤ 100000) (hl2 : ys.length ≤ 100000) (hn : n1 = n2) :
    Calls Tryz.prog 124 #[.agg #[.bool n1, u1], .agg #[.bool n2, u2]] w (NumPost w (z1 + z2)) := by
  subst hn
  have HR1 := Lib.hid hr1
  have HR2 := Lib.hid hr2
  obtain ⟨p1, c1, rfl, _, _, _⟩ := rb_form hr1
  obtain ⟨p2, c2, rfl, _, _, _⟩ := rb_form hr2
  have HS1 := Lib.hid hs1
  have HS2 := Lib.hid hs2
  clear hr1 hr2 hs1 hs2
  go_enter Tryz.func124, Tryz.ntmps124
  go_wp2_with fail
  generalize hw2 : World.alloc (World.alloc (World.alloc w _) _) _ = w2
  have hbx : Bx3 w2 w.heap.size n1 (.slice p1 xs.length c1) n1 (.slice p2 ys.length c2) := by
    rw [← hw2]
    exact ⟨alloc_cell (alloc_cell (by simp) _) _, alloc_cell (alloc_cell (by simp) _) _, alloc_cell (by simp) _, alloc_cell (by simp) _, third_cell _ _ _ _ _ 0, third_cell _ _ _ _ _ 1, third_fr _ _ _ _ _ 0, third_fr _ _ _ _ _ 1, by simp⟩
  have HB2 := Lib.hid (show Below w.heap.size w w2 by rw [← hw2]; exact (((Below.refl _ _).alloc (Nat.le_refl _) _).alloc (by simp) _).alloc (by simp; omega) _)
  clear hw2
  have HX2 := Lib.hid hbx
  have s0 := hbx.x0
  have s1 := hbx.x1
  have s2 := hbx.y0
  have s3 := hbx.y1
  have r0 := hbx.r0
  have r1 := hbx.r1
  have f0 := hbx.f0
  have f1 := hbx.f1
  have hlt := hbx.lt
  clear hbx
  have HC := Lib.hid (fun (wx : World) (hx : Below w.heap.size w wx) => plus_any _ _ xs ys wx (HR1.out.keep hx) (HR2.out.keep hx) HS1.out.canon.1 HS2.out.canon.1 hl1 hl2)
  go_region_held3 (fun w' => w'.cell? ⟨w.heap.size, 0, none⟩ = some (.bool n1) ∧ w'.cell? ⟨w.heap.size, 1, none⟩ = some (.slice p1 xs.length c1) ∧ w'.cell? ⟨w.heap.size + 1, 1, none⟩ = some (.slice p2 ys.length c2))
    ((repeat' apply And.intro) <;> (first | assumption | exact cell_set2 (by omega) (by assumption) _ _ | go_keep))
    ((go_at_call 143; refine (HC.out _ (by first | exact HB2.out | exact HB2.out.drew)).mono ?_; rintro e w6 ⟨u, os, rfl, hM, hol, hcan, hv, hb5⟩; have hq5 : Below w2.heap.size w2 w6 := ⟨hb5.os, hb5.tape, hb5.output, hb5.size, hb5.block⟩; obtain ⟨p, c, rfl⟩ := Mine.form hM; have hx6 := HX2.out.keep hq5; have k60 := hx6.x0; have k61 := hx6.x1; have k62 := hx6.y1; have m0 := hx6.r0; have m1 := hx6.r1; have mf0 := hx6.f0; have mf1 := hx6.f1; have HM := Lib.hid (show Mine .u8 U8 w6 w2.heap.size _ os from hM); have HOL := Lib.hid hol; have HCA := Lib.hid hcan; have HV5 := Lib.hid hv; have HB6 := Lib.hid (HB2.out.trans (hq5.mono HB2.out.size)); clear hM hol hcan hv hq5 hb5 hx6))
  go_wp2_with fail
  have zz := two_setW (x0 := .bool n1) (x1 := .slice p os.length c) m0 m1
  refine bodyPost_ret (v := .agg #[.bool n1, .slice p os.length c]) (by simp [results, Tryz.results124, go_sem, zz.1, zz.2]) rfl ⟨n1, _, os, rfl, (HM.out.set2 hlt _ _).rb HOL.out, Sgn.made (by decide) HCA.out HV5.out (fun e => by have := HS1.out.pos (by decide) e; have := val_nonneg (by decide : (0 : Int) < 10) HS2.out.canon.1; omega) (by rw [sg_add, ← HS1.out.eq, ← HS2.out.eq]), (HB6.out.setCell (by simp; omega) _).setCell (by simp; omega) _⟩
set_option maxRecDepth 100000 in
set_option maxHeartbeats 800000 in
theorem rp_lt (n1 : Bool) (u1 : Value) (xs : List Int) (z1 : Int) (n2 : Bool) (u2 : Value) (ys : List Int) (z2 : Int) (w : World) (hr1 : Rb w u1 xs) (hr2 : Rb w u2 ys) (hs1 : Sgn 10 n1 xs z1) (hs2 : Sgn 10 n2 ys z2) (hl1 : xs.length ≤ 100000) (hl2 : ys.length ≤ 100000) (hne : (n1 == n2) = false) (hc : val 10 xs < val 10 ys) :
    Calls Tryz.prog 124 #[.agg #[.bool n1, u1], .agg #[.bool n2, u2]] w (NumPost w (z1 + z2)) := by
  have HNE := Lib.hid (show n1 ≠ n2 by intro e; subst e; simp at hne)
  have HC0 := Lib.hid hc
  have HLE := Lib.hid (len_le10 hs1.canon hs2.canon (Int.le_of_lt hc))
  clear hc
  have HR1 := Lib.hid hr1
  have HR2 := Lib.hid hr2
  obtain ⟨p1, c1, rfl, _, _, _⟩ := rb_form hr1
  obtain ⟨p2, c2, rfl, _, _, _⟩ := rb_form hr2
  have HS1 := Lib.hid hs1
  have HS2 := Lib.hid hs2
  clear hr1 hr2 hs1 hs2
  go_enter Tryz.func124, Tryz.ntmps124
  go_wp2_with fail
  generalize hw2 : World.alloc (World.alloc (World.alloc w _) _) _ = w2
  have hbx : Bx3 w2 w.heap.size n1 (.slice p1 xs.length c1) n2 (.slice p2 ys.length c2) := by
    rw [← hw2]
    exact ⟨alloc_cell (alloc_cell (by simp) _) _, alloc_cell (alloc_cell (by simp) _) _, alloc_cell (by simp) _, alloc_cell (by simp) _, third_cell _ _ _ _ _ 0, third_cell _ _ _ _ _ 1, third_fr _ _ _ _ _ 0, third_fr _ _ _ _ _ 1, by simp⟩
  have HB2 := Lib.hid (show Below w.heap.size w w2 by rw [← hw2]; exact (((Below.refl _ _).alloc (Nat.le_refl _) _).alloc (by simp) _).alloc (by simp; omega) _)
  clear hw2
  have HX2 := Lib.hid hbx
  have s0 := hbx.x0
  have s1 := hbx.x1
  have s2 := hbx.y0
  have s3 := hbx.y1
  have r0 := hbx.r0
  have r1 := hbx.r1
  have f0 := hbx.f0
  have f1 := hbx.f1
  have hlt := hbx.lt
  clear hbx
  refine (sizes_any _ _ xs ys w2 (HR1.out.keep HB2.out) (HR2.out.keep HB2.out) HS1.out.canon HS2.out.canon).mono ?_
  rintro e w3 ⟨rfl, hb3⟩
  have HX3 := Lib.hid (HX2.out.keep hb3)
  have HB3 := Lib.hid (HB2.out.trans (hb3.mono HB2.out.size))
  clear s0 s1 s2 s3 r0 r1 f0 f1 hlt hb3 HX2 HB2
  have s0 := HX3.out.x0
  have s1 := HX3.out.x1
  have s2 := HX3.out.y0
  have s3 := HX3.out.y1
  have r0 := HX3.out.r0
  have r1 := HX3.out.r1
  have f0 := HX3.out.f0
  have f1 := HX3.out.f1
  have hlt := HX3.out.lt
  rw [cmpI_lt HC0.out]
  have HC := Lib.hid (fun (wx : World) (hx : Below w.heap.size w wx) => minus_any _ _ ys xs wx (HR2.out.keep hx) (HR1.out.keep hx) HS2.out.canon.1 HS1.out.canon.1 hl2 HLE.out (Int.le_of_lt HC0.out))
  go_wp2_with fail
  go_region_held3 (fun w' => w'.cell? ⟨w.heap.size + 1, 0, none⟩ = some (.bool n2) ∧ w'.cell? ⟨w.heap.size, 1, none⟩ = some (.slice p1 xs.length c1) ∧ w'.cell? ⟨w.heap.size + 1, 1, none⟩ = some (.slice p2 ys.length c2))
    ((repeat' apply And.intro) <;> (first | assumption | exact cell_set2 (by omega) (by assumption) _ _ | go_keep))
    ((go_at_call 144; refine (HC.out _ (by first | exact HB3.out | exact HB3.out.drew)).mono ?_; rintro e w6 ⟨u, os, rfl, hM, hol, hcan, hv, hb5⟩; have hq5 : Below w3.heap.size w3 w6 := ⟨hb5.os, hb5.tape, hb5.output, hb5.size, hb5.block⟩; obtain ⟨p, c, rfl⟩ := Mine.form hM; have hx6 := HX3.out.keep hq5; have k60 := hx6.y0; have k61 := hx6.x1; have k62 := hx6.y1; have m0 := hx6.r0; have m1 := hx6.r1; have mf0 := hx6.f0; have mf1 := hx6.f1; have HM := Lib.hid (show Mine .u8 U8 w6 w3.heap.size _ os from hM); have HOL := Lib.hid hol; have HCA := Lib.hid hcan; have HV5 := Lib.hid hv; have HB6 := Lib.hid (HB3.out.trans (hq5.mono HB3.out.size)); clear hM hol hcan hv hq5 hb5 hx6))
  go_wp2_with fail
  have zz := two_setW (x0 := .bool n2) (x1 := .slice p os.length c) m0 m1
  refine bodyPost_ret (v := .agg #[.bool n2, .slice p os.length c]) (by simp [results, Tryz.results124, go_sem, zz.1, zz.2]) rfl ⟨n2, _, os, rfl, (HM.out.set2 hlt _ _).rb HOL.out, Sgn.made (by decide) HCA.out HV5.out (fun _ => by have := HC0.out; omega) (by rw [sg_sub n2 n1 _ _ (Ne.symm HNE.out), ← HS1.out.eq, ← HS2.out.eq, Int.add_comm]), (HB6.out.setCell (by simp; omega) _).setCell (by simp; omega) _⟩
set_option maxRecDepth 100000 in
set_option maxHeartbeats 800000 in
theorem rp_ge (n1 : Bool) (u1 : Value) (xs : List Int) (z1 : Int) (n2 : Bool) (u2 : Value) (ys : List Int) (z2 : Int) (w : World) (hr1 : Rb w u1 xs) (hr2 : Rb w u2 ys) (hs1 : Sgn 10 n1 xs z1) (hs2 : Sgn 10 n2 ys z2) (hl1 : xs.length ≤ 100000) (hl2 : ys.length ≤ 100000) (hne : (n1 == n2) = false) (hc : val 10 ys ≤ val 10 xs) :
    Calls Tryz.prog 124 #[.agg #[.bool n1, u1], .agg #[.bool n2, u2]] w (NumPost w (z1 + z2)) := by
  have HNE := Lib.hid (show n1 ≠ n2 by intro e; subst e; simp at hne)
  have HC0 := Lib.hid hc
  have HLE := Lib.hid (len_le10 hs2.canon hs1.canon hc)
  clear hc
  have HR1 := Lib.hid hr1
  have HR2 := Lib.hid hr2
  obtain ⟨p1, c1, rfl, _, _, _⟩ := rb_form hr1
  obtain ⟨p2, c2, rfl, _, _, _⟩ := rb_form hr2
  have HS1 := Lib.hid hs1
  have HS2 := Lib.hid hs2
  clear hr1 hr2 hs1 hs2
  go_enter Tryz.func124, Tryz.ntmps124
  go_wp2_with fail
  generalize hw2 : World.alloc (World.alloc (World.alloc w _) _) _ = w2
  have hbx : Bx3 w2 w.heap.size n1 (.slice p1 xs.length c1) n2 (.slice p2 ys.length c2) := by
    rw [← hw2]
    exact ⟨alloc_cell (alloc_cell (by simp) _) _, alloc_cell (alloc_cell (by simp) _) _, alloc_cell (by simp) _, alloc_cell (by simp) _, third_cell _ _ _ _ _ 0, third_cell _ _ _ _ _ 1, third_fr _ _ _ _ _ 0, third_fr _ _ _ _ _ 1, by simp⟩
  have HB2 := Lib.hid (show Below w.heap.size w w2 by rw [← hw2]; exact (((Below.refl _ _).alloc (Nat.le_refl _) _).alloc (by simp) _).alloc (by simp; omega) _)
  clear hw2
  have HX2 := Lib.hid hbx
  have s0 := hbx.x0
  have s1 := hbx.x1
  have s2 := hbx.y0
  have s3 := hbx.y1
  have r0 := hbx.r0
  have r1 := hbx.r1
  have f0 := hbx.f0
  have f1 := hbx.f1
  have hlt := hbx.lt
  clear hbx
  refine (sizes_any _ _ xs ys w2 (HR1.out.keep HB2.out) (HR2.out.keep HB2.out) HS1.out.canon HS2.out.canon).mono ?_
  rintro e w3 ⟨rfl, hb3⟩
  have HX3 := Lib.hid (HX2.out.keep hb3)
  have HB3 := Lib.hid (HB2.out.trans (hb3.mono HB2.out.size))
  clear s0 s1 s2 s3 r0 r1 f0 f1 hlt hb3 HX2 HB2
  have s0 := HX3.out.x0
  have s1 := HX3.out.x1
  have s2 := HX3.out.y0
  have s3 := HX3.out.y1
  have r0 := HX3.out.r0
  have r1 := HX3.out.r1
  have f0 := HX3.out.f0
  have f1 := HX3.out.f1
  have hlt := HX3.out.lt
  have hc0 : ¬ cmpI (val 10 xs) (val 10 ys) < 0 := by have := HC0.out; unfold cmpI; rw [if_neg (by omega)]; split <;> omega
  generalize cmpI (val 10 xs) (val 10 ys) = cc at hc0
  go_wp2_with fail
  refine (minus_any _ _ xs ys w3 (HR1.out.keep HB3.out) (HR2.out.keep HB3.out) HS1.out.canon.1 HS2.out.canon.1 hl1 HLE.out HC0.out).mono ?_
  rintro e w6 ⟨u, os, rfl, hM, hol, hcan, hv, hb6⟩
  obtain ⟨p, c, rfl⟩ := Mine.form hM
  have hx6 := HX3.out.keep hb6
  have k0 := hx6.x0
  have m0 := hx6.r0
  have m1 := hx6.r1
  have mf0 := hx6.f0
  have mf1 := hx6.f1
  have HM := Lib.hid hM
  have HOL := Lib.hid hol
  have HCA := Lib.hid hcan
  have HV5 := Lib.hid hv
  have HB6 := Lib.hid (HB3.out.trans (hb6.mono HB3.out.size))
  clear hM hol hcan hv hb6 hx6 s0 s1 s2 s3 r0 r1 f0 f1
  have FIN : ∀ b : Bool, b = (n1 && decide (0 < os.length)) → NumPost w (z1 + z2) (.returned (.agg #[.bool b, .slice p os.length c])) ((w6.setCell ⟨w.heap.size + 1 + 1, 0, none⟩ (.bool b)).setCell ⟨w.heap.size + 1 + 1, 1, none⟩ (.slice p os.length c)) := fun b hb => by
    refine ⟨b, _, os, rfl, (HM.out.set2 hlt _ _).rb HOL.out, ?_, (HB6.out.setCell (by simp; omega) _).setCell (by simp; omega) _⟩
    have hz : sg n1 (val 10 os) = z1 + z2 := by rw [HV5.out, sg_sub n1 n2 _ _ HNE.out, ← HS1.out.eq, ← HS2.out.eq]
    refine ⟨HCA.out, fun e => ?_, ?_⟩
    · rw [hb] at e; simp at e; cases os with
      | nil => exact absurd e.2 (by simp)
      | cons d r => simp
    · rw [← hz, hb]
      by_cases hl : 0 < os.length
      · simp [hl]
      · obtain rfl := List.length_eq_zero_iff.1 (by omega : os.length = 0)
        cases n1 <;> simp [sg, val]
  have HF := Lib.hid FIN
  clear FIN
  cases n1 with
  | false =>
    go_wp2_with fail
    have zz := two_setW (x0 := .bool false) (x1 := .slice p os.length c) m0 m1
    exact bodyPost_ret (v := .agg #[.bool false, .slice p os.length c]) (by simp [results, Tryz.results124, go_sem, zz.1, zz.2]) rfl (HF.out false rfl)
  | true =>
    by_cases hl : 0 < os.length
    · have hlz : (0 : Int) < (os.length : Int) := by omega
      have hd : decide ((0 : Int) < (os.length : Int)) = true := by simpa using hl
      have HD := Lib.hid (show true = (true && decide (0 < os.length)) by rw [decide_eq_true hl]; rfl)
      go_wp2_with fail
      have zz := two_setW (x0 := .bool true) (x1 := .slice p os.length c) m0 m1
      exact bodyPost_ret (v := .agg #[.bool true, .slice p os.length c]) (by simp [results, Tryz.results124, go_sem, zz.1, zz.2]) rfl (HF.out true HD.out)
    · have hlz : ¬ (0 : Int) < (os.length : Int) := by omega
      have hd : decide ((0 : Int) < (os.length : Int)) = false := by simpa using hl
      have HD := Lib.hid (show false = (true && decide (0 < os.length)) by rw [decide_eq_false hl]; rfl)
      go_wp2_with fail
      have zz := two_setW (x0 := .bool false) (x1 := .slice p os.length c) m0 m1
      exact bodyPost_ret (v := .agg #[.bool false, .slice p os.length c]) (by simp [results, Tryz.results124, go_sem, zz.1, zz.2]) rfl (HF.out false HD.out)
theorem refplus_any (n1 : Bool) (u1 : Value) (xs : List Int) (z1 : Int) (n2 : Bool) (u2 : Value) (ys : List Int) (z2 : Int) (w : World) (hr1 : Rb w u1 xs) (hr2 : Rb w u2 ys) (hs1 : Sgn 10 n1 xs z1) (hs2 : Sgn 10 n2 ys z2) (hl1 : xs.length ≤ 100000) (hl2 : ys.length ≤ 100000) :
    Calls Tryz.prog 124 #[.agg #[.bool n1, u1], .agg #[.bool n2, u2]] w (NumPost w (z1 + z2)) := by
  by_cases hn : n1 = n2
  · exact rp_same n1 u1 xs z1 n2 u2 ys z2 w hr1 hr2 hs1 hs2 hl1 hl2 hn
  · have hne : (n1 == n2) = false := by simpa using hn
    by_cases hc : val 10 xs < val 10 ys
    · exact rp_lt n1 u1 xs z1 n2 u2 ys z2 w hr1 hr2 hs1 hs2 hl1 hl2 hne hc
    · exact rp_ge n1 u1 xs z1 n2 u2 ys z2 w hr1 hr2 hs1 hs2 hl1 hl2 hne (by omega)
end Go.Proofs.YtnfemojgecljiaaGreatDoor
