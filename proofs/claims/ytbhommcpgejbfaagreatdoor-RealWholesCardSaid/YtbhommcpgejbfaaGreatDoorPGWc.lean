/- Layer 2: whole.fit: a result, if it isn't too great. Layer 2: whole.Add. Layer 2: whole.Add. Layer 2: whole.Neg. Layer 2: whole.Sub. Layer 2: whole.Cmp and Sign. -/
import Derived.Test.YtbhommcpgejbfaaGreatDoorPGWb
import Derived.Deep.RegionHeld3
namespace Go.Proofs.YtbhommcpgejbfaaGreatDoor
section
open Go.ChangeShapes Go.WideShapes Go.ChangeAt Go.RowKit
set_option linter.unusedVariables false
set_option linter.unusedSimpArgs false
def ResPost (W : World) (B0 : Nat) (z : Int) (e : Ending) (w' : World) : Prop :=
  ∃ neg u ws er, e = .returned (.tuple #[.agg #[.bool neg, u], .int .i64 er]) ∧ MU w' B0 u ws ∧ Below W.heap.size W w' ∧
    ((Small z ∧ er = 0 ∧ Sgn B18 neg ws z) ∨ (¬ Small z ∧ er = 7 ∧ neg = false ∧ ws = []))
theorem MU.form {w : World} {B : Nat} {u : Value} {ws : List Int} (h : MU w B u ws) : ∃ p c, u = .slice p ws.length c := by
  rcases h with ⟨rfl, rfl⟩ | ⟨g, c, cur, h0, _⟩
  · exact ⟨_, _, rfl⟩
  · exact ⟨_, _, h0⟩
theorem alloc_frozen {W : World} {a : Addr} (h : a.block < W.heap.size) (hf : W.frozen? a = false) (o : Obj) : (W.alloc o).frozen? a = false :=
  (((Below.refl W.heap.size W).alloc (Nat.le_refl _) o).frozen (p := a) h).trans hf
set_option maxRecDepth 100000 in
set_option maxHeartbeats 1000000 in
theorem fit_any (neg : Bool) (g B0 : Nat) (ws : List Int) (w : World) (hL : LU w g ws) (hd : Dig B18 ws) (hB : B0 ≤ g) (hl : ws.length ≤ 17592186043904) :
    Calls Tryz.prog 56 #[.bool neg, .slice (some ⟨g, 0, none⟩) ws.length ws.length] w (ResPost w B0 (sg neg (val B18 ws))) := by
  have HL := Lib.hid hL
  have HD := Lib.hid hd
  clear hL hd
  go_enter Tryz.func56, Tryz.ntmps56
  go_wp2_with fail
  generalize hw2 : World.alloc w _ = w2
  have HB2 := Lib.hid (show Below w.heap.size w w2 by rw [← hw2]; exact (Below.refl _ _).alloc (Nat.le_refl _) _)
  have hc0 : w2.cell? ⟨w.heap.size, 0, none⟩ = some (.bool false) := by rw [← hw2]; simp
  have hc1 : w2.cell? ⟨w.heap.size, 1, none⟩ = some (.slice none 0 0) := by rw [← hw2]; simp
  have hf0 : w2.frozen? ⟨w.heap.size, 0, none⟩ = false := by rw [← hw2]; simp
  have hf1 : w2.frozen? ⟨w.heap.size, 1, none⟩ = false := by rw [← hw2]; simp
  have HL2 := Lib.hid (HL.out.keep HB2.out)
  have hsz : w2.heap.size = w.heap.size + 1 := by rw [← hw2]; simp
  have HSZ := Lib.hid hsz
  clear hw2 hsz
  refine (made_any neg _ ws.length ws w2 (HL2.out.mine (Nat.zero_le _) |>.rd hl)).mono ?_
  rintro e w3 ⟨k, hk, rfl, hb3⟩
  obtain ⟨neg', p, ws', hv, hM, hS, hlk⟩ := made_sgn neg hk HD.out (HL2.out.keep hb3) hB
  rw [hv]
  have hgl : w.heap.size ≠ g := fun e => by have := HL.out.lt; omega
  have HM := Lib.hid hM
  have HS := Lib.hid hS
  have HK := Lib.hid hlk
  have HB3 := Lib.hid (HB2.out.trans (hb3.mono HB2.out.size))
  have hd0 := below_cell hb3 hc0
  have hd1 := below_cell hb3 hc1
  have hg0 := (hb3.frozen (p := ⟨w.heap.size, 0, none⟩) (by have := HSZ.out; show w.heap.size < _; omega)).trans hf0
  have hg1 := (hb3.frozen (p := ⟨w.heap.size, 1, none⟩) (by have := HSZ.out; show w.heap.size < _; omega)).trans hf1
  have HS3 := Lib.hid (show w.heap.size < w3.heap.size by have := hb3.size; have := HSZ.out; omega)
  have a0 := fun o => alloc_cell hd0 o
  have a1 := fun o => alloc_cell hd1 o
  have f0 := fun o => alloc_frozen (a := ⟨w.heap.size, 0, none⟩) HS3.out hg0 o
  have f1 := fun o => alloc_frozen (a := ⟨w.heap.size, 1, none⟩) HS3.out hg1 o
  have HB4 := Lib.hid (fun o => HB3.out.alloc (Nat.le_of_lt HS3.out) o)
  have hle : g < w3.heap.size := by have := HL.out.lt; have := HS3.out; omega
  have HG := Lib.hid (fun o x0 x1 => show (((w3.alloc o).setCell ⟨w.heap.size, 0, none⟩ x0).setCell ⟨w.heap.size, 1, none⟩ x1).heap[g]? = w3.heap[g]? from
    ((Below.heap_setCell _ _ _ _ (Ne.symm hgl)).trans (Below.heap_setCell _ _ _ _ (Ne.symm hgl))).trans (Below.heap_alloc _ _ _ hle))
  clear hv hM hS hb3 hc0 hc1 hf0 hf1 hk hd0 hd1 hg0 hg1 hgl hle hlk
  by_cases h30 : k ≤ 30
  · have h30z : ¬ (30 : Int) < (k : Int) := by omega
    have HH := Lib.hid (show Small (sg neg (val B18 ws)) from HS.out.small.1 (by rw [HK.out]; exact h30))
    go_wp2_with fail
    have z20 := fun o => (two_setW (x0 := .bool neg') (x1 := .slice p k k) (a0 o) (a1 o)).1
    have z21 := fun o => (two_setW (x0 := .bool neg') (x1 := .slice p k k) (a0 o) (a1 o)).2
    refine bodyPost_ret (v := .tuple #[.agg #[.bool neg', .slice p k k], .int .i64 0]) (by simp [results, Tryz.results56, go_sem, z20, z21]) rfl ⟨neg', _, ws', 0, rfl, HM.out _ (HG.out _ _ _), ((HB4.out _).setCell (by simp) _).setCell (by simp) _, .inl ⟨HH.out, rfl, HS.out⟩⟩
  · have h30z : (30 : Int) < (k : Int) := by omega
    have HH := Lib.hid (show ¬ Small (sg neg (val B18 ws)) from fun h => h30 (by rw [← HK.out]; exact HS.out.small.2 h))
    go_wp2_with fail
    have z20 := fun o => (two_setW (x0 := .bool false) (x1 := .slice none 0 0) (a0 o) (a1 o)).1
    have z21 := fun o => (two_setW (x0 := .bool false) (x1 := .slice none 0 0) (a0 o) (a1 o)).2
    refine bodyPost_ret (v := .tuple #[.agg #[.bool false, .slice none 0 0], .int .i64 7]) (by simp [results, Tryz.results56, go_sem, z20, z21]) rfl ⟨false, _, [], 7, rfl, Mine.nil _ _, ((HB4.out _).setCell (by simp) _).setCell (by simp) _, .inr ⟨HH.out, rfl, rfl, rfl⟩⟩
end
section
open Go.ChangeShapes Go.WideShapes Go.ChangeAt Go.RowKit
set_option linter.unusedVariables false
set_option linter.unusedSimpArgs false
/-- The boxes of two numbers that came in, and of the answer. -/
structure Bx3 (w : World) (B : Nat) (n1 : Bool) (u1 : Value) (n2 : Bool) (u2 : Value) : Prop where
  x0 : w.cell? ⟨B, 0, none⟩ = some (.bool n1)
  x1 : w.cell? ⟨B, 1, none⟩ = some u1
  y0 : w.cell? ⟨B + 1, 0, none⟩ = some (.bool n2)
  y1 : w.cell? ⟨B + 1, 1, none⟩ = some u2
  r0 : w.cell? ⟨B + 1 + 1, 0, none⟩ = some (.bool false)
  r1 : w.cell? ⟨B + 1 + 1, 1, none⟩ = some (.slice none 0 0)
  f0 : w.frozen? ⟨B + 1 + 1, 0, none⟩ = false
  f1 : w.frozen? ⟨B + 1 + 1, 1, none⟩ = false
  lt : B + 1 + 1 < w.heap.size
theorem Bx3.keep {w w' : World} {B : Nat} {n1 n2 : Bool} {u1 u2 : Value} (h : Bx3 w B n1 u1 n2 u2) (hb : Below w.heap.size w w') : Bx3 w' B n1 u1 n2 u2 :=
  ⟨below_cell hb h.x0, below_cell hb h.x1, below_cell hb h.y0, below_cell hb h.y1, below_cell hb h.r0, below_cell hb h.r1, (hb.frozen (p := ⟨B + 1 + 1, 0, none⟩) h.lt).trans h.f0, (hb.frozen (p := ⟨B + 1 + 1, 1, none⟩) h.lt).trans h.f1, Nat.lt_of_lt_of_le h.lt hb.size⟩
theorem good_yes (neg : Bool) (u : Value) (ws : List Int) (z : Int) (w : World) (hr : Rd w u ws) (hS : Sgn B18 neg ws z) (hl : ws.length ≤ 30) :
    Calls Tryz.prog 10 #[.agg #[.bool neg, u]] w (BoolPost w true) := by
  have h := good_any neg u ws w hr hS.canon.fit
  rw [goodB_of hS hl] at h
  exact h
theorem good_no (neg : Bool) (u : Value) (ws : List Int) (w : World) (hr : Rd w u ws) (hf : Fit ws) (hg : goodB neg ws = false) :
    Calls Tryz.prog 10 #[.agg #[.bool neg, u]] w (BoolPost w false) := by
  have h := good_any neg u ws w hr hf
  rw [hg] at h
  exact h
theorem third_cell (w : World) (o1 o2 : Obj) (c : Array Value) (T : TypeId) (i : Nat) : (((w.alloc o1).alloc o2).alloc (.cells c T)).cell? ⟨w.heap.size + 1 + 1, i, none⟩ = c[i]? := by
  have e : w.heap.size + 1 + 1 = ((w.alloc o1).alloc o2).heap.size := by simp
  rw [e]; generalize (w.alloc o1).alloc o2 = W; simp
theorem third_fr (w : World) (o1 o2 : Obj) (c : Array Value) (T : TypeId) (i : Nat) : (((w.alloc o1).alloc o2).alloc (.cells c T)).frozen? ⟨w.heap.size + 1 + 1, i, none⟩ = false := by
  have e : w.heap.size + 1 + 1 = ((w.alloc o1).alloc o2).heap.size := by simp
  rw [e]; generalize (w.alloc o1).alloc o2 = W; simp
theorem cell_set2 {w : World} {B C i : Nat} {v : Value} (h : B ≠ C) (hc : w.cell? ⟨B, i, none⟩ = some v) (x y : Value) : ((w.setCell ⟨C, 0, none⟩ x).setCell ⟨C, 1, none⟩ y).cell? ⟨B, i, none⟩ = some v := by
  rw [← hc]
  exact World.cell?_of_block (a := ⟨B, i, none⟩) ((Below.heap_setCell _ _ _ _ h).trans (Below.heap_setCell _ _ _ _ h))
theorem MU.set2 {w : World} {B0 B : Nat} {u : Value} {ws : List Int} (h : MU w B0 u ws) (hB : B < B0) (x0 x1 : Value) : MU ((w.setCell ⟨B, 0, none⟩ x0).setCell ⟨B, 1, none⟩ x1) B0 u ws := by
  rcases h with h | ⟨g, c, cur, h0, h1, h2, h3, h4, h5⟩
  · exact .inl h
  · refine .inr ⟨g, c, cur, h0, h1, h2, h3, ?_, h5⟩
    rw [Below.heap_setCell _ _ _ _ (by simp; omega), Below.heap_setCell _ _ _ _ (by simp; omega)]
    exact h4
theorem ResPost.mk {W w' : World} {B0 B1 : Nat} {z z' : Int} {neg : Bool} {u : Value} {ws : List Int} {er : Int} (hM : MU w' B1 u ws) (hB : B0 ≤ B1) (hb : Below W.heap.size W w') (he : z' = z)
    (hc : (Small z' ∧ er = 0 ∧ Sgn B18 neg ws z') ∨ (¬ Small z' ∧ er = 7 ∧ neg = false ∧ ws = [])) : ResPost W B0 z (.returned (.tuple #[.agg #[.bool neg, u], .int .i64 er])) w' := by
  subst he
  exact ⟨neg, u, ws, er, rfl, hM.low hB, hb, hc⟩
theorem sg_add (n : Bool) (a b : Int) : sg n (a + b) = sg n a + sg n b := by unfold sg; split <;> omega
theorem sg_sub (n m : Bool) (a b : Int) (h : n ≠ m) : sg n (a - b) = sg n a + sg m b := by
  cases n <;> cases m <;> simp [sg] at h ⊢ <;> omega
def BadPost (W : World) (er : Int) (e : Ending) (w' : World) : Prop := e = .returned (.tuple #[.agg #[.bool false, .slice none 0 0], .int .i64 er]) ∧ Below W.heap.size W w'
end
section
open Go.ChangeShapes Go.WideShapes Go.ChangeAt Go.RowKit
set_option linter.unusedVariables false
set_option linter.unusedSimpArgs false
theorem len_le {xs ys : List Int} (hx : Canon B18 xs) (hy : Canon B18 ys) (h : val B18 xs ≤ val B18 ys) : xs.length ≤ ys.length := by
  apply Classical.byContradiction
  intro hc
  have := len_lt (b := B18) (by decide) hy hx (by omega)
  omega
end
section
open Go.ChangeShapes Go.WideShapes Go.ChangeAt Go.RowKit
set_option linter.unusedVariables false
set_option linter.unusedSimpArgs false
def BigPost (W : World) (B0 : Nat) (z : Int) (e : Ending) (w' : World) : Prop :=
  ∃ neg u ws, e = .returned (.agg #[.bool neg, u]) ∧ MU w' B0 u ws ∧ Sgn B18 neg ws z ∧ Below W.heap.size W w'
/-- The boxes of a number that came in, and of the answer. -/
structure Bx2 (w : World) (B : Nat) (n1 : Bool) (u1 : Value) : Prop where
  x0 : w.cell? ⟨B, 0, none⟩ = some (.bool n1)
  x1 : w.cell? ⟨B, 1, none⟩ = some u1
  r0 : w.cell? ⟨B + 1, 0, none⟩ = some (.bool false)
  r1 : w.cell? ⟨B + 1, 1, none⟩ = some (.slice none 0 0)
  f0 : w.frozen? ⟨B + 1, 0, none⟩ = false
  f1 : w.frozen? ⟨B + 1, 1, none⟩ = false
  lt : B + 1 < w.heap.size
theorem Bx2.keep {w w' : World} {B : Nat} {n1 : Bool} {u1 : Value} (h : Bx2 w B n1 u1) (hb : Below w.heap.size w w') : Bx2 w' B n1 u1 :=
  ⟨below_cell hb h.x0, below_cell hb h.x1, below_cell hb h.r0, below_cell hb h.r1, (hb.frozen (p := ⟨B + 1, 0, none⟩) h.lt).trans h.f0, (hb.frozen (p := ⟨B + 1, 1, none⟩) h.lt).trans h.f1, Nat.lt_of_lt_of_le h.lt hb.size⟩
theorem sg_not (n : Bool) (a : Int) : sg (!n) a = -(sg n a) := by cases n <;> simp [sg]
theorem Small.neg {z : Int} (h : Small z) : Small (-z) := ⟨by rw [Int.natAbs_neg]; exact h.lt⟩
set_option maxRecDepth 100000 in
set_option maxHeartbeats 800000 in
theorem neg_good (n1 : Bool) (u1 : Value) (xs : List Int) (z1 : Int) (w : World) (hr1 : Rd w u1 xs) (hs1 : Sgn B18 n1 xs z1) (hl1 : xs.length ≤ 30) :
    Calls Tryz.prog 32 #[.agg #[.bool n1, u1]] w (BigPost w w.heap.size (-z1)) := by
  have HR1 := Lib.hid hr1
  obtain ⟨p1, c1, rfl, _, _, _⟩ := rd_form hr1
  have HS1 := Lib.hid hs1
  clear hr1 hs1
  go_enter Tryz.func32, Tryz.ntmps32
  go_wp2_with fail
  generalize hw2 : World.alloc (World.alloc w _) _ = w2
  have hbx : Bx2 w2 w.heap.size n1 (.slice p1 xs.length c1) := by
    rw [← hw2]
    refine ⟨alloc_cell (by simp) _, alloc_cell (by simp) _, ?_, ?_, ?_, ?_, by simp⟩ <;> simp
  have HB2 := Lib.hid (show Below w.heap.size w w2 by rw [← hw2]; exact ((Below.refl _ _).alloc (Nat.le_refl _) _).alloc (by simp) _)
  clear hw2
  have HX2 := Lib.hid hbx
  have q0 := hbx.x0
  have q1 := hbx.x1
  refine (good_yes _ _ xs z1 w2 (HR1.out.keep HB2.out) HS1.out hl1).mono ?_
  rintro e w3 ⟨rfl, hb3⟩
  have HX3 := Lib.hid (HX2.out.keep hb3)
  have HB3 := Lib.hid (HB2.out.trans (hb3.mono HB2.out.size))
  have t0 := HX3.out.x0
  have t1 := HX3.out.x1
  clear q0 q1 hb3 hbx HX2 HB2
  go_wp2_with fail
  refine (copied_any _ _ xs w3 (HR1.out.keep HB3.out)).mono ?_
  rintro e w4 ⟨k, g, hk, hg, rfl, hL, hb4⟩
  obtain ⟨neg', p, ws', hv, hM, hS, hlk⟩ := made_sgn (B0 := w3.heap.size) (!n1) hk HS1.out.canon.1 hL hg
  rw [hv]
  have hx4 := HX3.out.keep hb4
  have m0 := hx4.r0
  have m1 := hx4.r1
  have mf0 := hx4.f0
  have mf1 := hx4.f1
  have hlt := HX3.out.lt
  have HM := Lib.hid (hM w4 rfl)
  have HSS := Lib.hid hS
  have HB4 := Lib.hid (HB3.out.trans (hb4.mono HB3.out.size))
  clear hv hM hS hlk hb4 hx4 hL hk t0 t1
  go_wp2_with fail
  have zz := two_setW (x0 := .bool neg') (x1 := .slice p k k) m0 m1
  refine bodyPost_ret (v := .agg #[.bool neg', .slice p k k]) (by simp [results, Tryz.results32, go_sem, zz.1, zz.2]) rfl ⟨neg', _, ws', rfl, (HM.out.set2 hlt _ _).low (by omega), ?_, (HB4.out.setCell (by simp) _).setCell (by simp) _⟩
  have := HSS.out
  rw [sg_not, ← HS1.out.eq] at this
  exact this
set_option maxRecDepth 100000 in
set_option maxHeartbeats 800000 in
theorem neg_bad (n1 : Bool) (u1 : Value) (xs : List Int) (w : World) (hr1 : Rd w u1 xs) (hf1 : Fit xs) (hg : goodB n1 xs = false) :
    Calls Tryz.prog 32 #[.agg #[.bool n1, u1]] w (fun e w' => e = .returned (.agg #[.bool false, .slice none 0 0]) ∧ Below w.heap.size w w') := by
  have HR1 := Lib.hid hr1
  obtain ⟨p1, c1, rfl, _, _, _⟩ := rd_form hr1
  have HG := Lib.hid hg
  clear hr1 hg
  go_enter Tryz.func32, Tryz.ntmps32
  go_wp2_with fail
  generalize hw2 : World.alloc (World.alloc w _) _ = w2
  have hbx : Bx2 w2 w.heap.size n1 (.slice p1 xs.length c1) := by
    rw [← hw2]
    refine ⟨alloc_cell (by simp) _, alloc_cell (by simp) _, ?_, ?_, ?_, ?_, by simp⟩ <;> simp
  have HB2 := Lib.hid (show Below w.heap.size w w2 by rw [← hw2]; exact ((Below.refl _ _).alloc (Nat.le_refl _) _).alloc (by simp) _)
  clear hw2
  have HX2 := Lib.hid hbx
  have q0 := hbx.x0
  have q1 := hbx.x1
  refine (good_no _ _ xs w2 (HR1.out.keep HB2.out) hf1 HG.out).mono ?_
  rintro e w3 ⟨rfl, hb3⟩
  have hx3 := HX2.out.keep hb3
  have HB3 := Lib.hid (HB2.out.trans (hb3.mono HB2.out.size))
  have m0 := hx3.r0
  have m1 := hx3.r1
  have mf0 := hx3.f0
  have mf1 := hx3.f1
  clear q0 q1 hb3 hbx HX2 HB2 hx3
  go_wp2_with fail
  have zz := two_setW (x0 := .bool false) (x1 := .slice none 0 0) m0 m1
  exact bodyPost_ret (v := .agg #[.bool false, .slice none 0 0]) (by simp [results, Tryz.results32, go_sem, zz.1, zz.2]) rfl ⟨rfl, (HB3.out.setCell (by simp) _).setCell (by simp) _⟩
end
section
open Go.ChangeShapes Go.WideShapes Go.ChangeAt Go.RowKit
set_option linter.unusedVariables false
set_option linter.unusedSimpArgs false
end
section
open Go.ChangeShapes Go.WideShapes Go.ChangeAt Go.RowKit
set_option linter.unusedVariables false
set_option linter.unusedSimpArgs false
structure Bx2c (w : World) (B : Nat) (n1 : Bool) (u1 : Value) (n2 : Bool) (u2 : Value) : Prop where
  x0 : w.cell? ⟨B, 0, none⟩ = some (.bool n1)
  x1 : w.cell? ⟨B, 1, none⟩ = some u1
  y0 : w.cell? ⟨B + 1, 0, none⟩ = some (.bool n2)
  y1 : w.cell? ⟨B + 1, 1, none⟩ = some u2
theorem Bx2c.keep {w w' : World} {B : Nat} {n1 n2 : Bool} {u1 u2 : Value} (h : Bx2c w B n1 u1 n2 u2) (hb : Below w.heap.size w w') : Bx2c w' B n1 u1 n2 u2 :=
  ⟨below_cell hb h.x0, below_cell hb h.x1, below_cell hb h.y0, below_cell hb h.y1⟩
theorem cmp_sgn_nn {b : Int} (hb : 0 < b) {xs ys : List Int} {z1 z2 : Int} (h : Sgn b true xs z1) (g : Sgn b true ys z2) : cmpI (val b ys) (val b xs) = cmpI z1 z2 := by
  have e1 := h.eq; have e2 := g.eq; simp [sg] at e1 e2; unfold cmpI; rw [e1, e2]; (repeat' split) <;> omega
theorem cmp_sgn_pp {b : Int} (hb : 0 < b) {xs ys : List Int} {z1 z2 : Int} (h : Sgn b false xs z1) (g : Sgn b false ys z2) : cmpI (val b xs) (val b ys) = cmpI z1 z2 := by
  have e1 := h.eq; have e2 := g.eq; simp [sg] at e1 e2; rw [e1, e2]
theorem cmp_sgn_np {b : Int} (hb : 0 < b) {xs ys : List Int} {z1 z2 : Int} (h : Sgn b true xs z1) (g : Sgn b false ys z2) : -1 = cmpI z1 z2 := by
  have e1 := h.neg_iff hb; have e2 := g.neg_iff hb; simp at e1 e2; rw [cmpI_lt (by omega)]
theorem cmp_sgn_pn {b : Int} (hb : 0 < b) {xs ys : List Int} {z1 z2 : Int} (h : Sgn b false xs z1) (g : Sgn b true ys z2) : 1 = cmpI z1 z2 := by
  have e1 := h.neg_iff hb; have e2 := g.neg_iff hb; simp at e1 e2; rw [cmpI_gt (by omega)]
end
end Go.Proofs.YtbhommcpgejbfaaGreatDoor
