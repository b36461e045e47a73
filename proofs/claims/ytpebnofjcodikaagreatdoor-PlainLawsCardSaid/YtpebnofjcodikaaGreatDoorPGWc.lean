/- Layer 2: whole.fit: a result, if it isn't too great. Layer 2: whole.Add. Layer 2: whole.Add. Layer 2: whole.Neg. Layer 2: whole.Sub. Layer 2: whole.Cmp and Sign. -/
import Derived.Test.YtpebnofjcodikaaGreatDoorPGWb
import Derived.Deep.RegionHeld3
namespace Go.Proofs.YtpebnofjcodikaaGreatDoor
section
open Go.ChangeShapes Go.WideShapes Go.ChangeAt Go.RowKit
set_option linter.unusedVariables false
set_option linter.unusedSimpArgs false
def ResPost (W : World) (B0 : Nat) (z : Int) (e : Ending) (w' : World) : Prop :=
  ∃ neg u ws er, e = .returned (.tuple #[.agg #[.bool neg, u], .int .i64 er]) ∧ MU w' B0 u ws ∧ Below W.heap.size W w' ∧
    ((Small z ∧ er = 0 ∧ Sgn B18 neg ws z) ∨ (¬ Small z ∧ er = 7 ∧ neg = false ∧ ws = []))
theorem MU.form {w : World} {B : Nat} {u : Value} {ws : List Int} (h : MU w B u ws) : ∃ p c, u = .slice p ws.length c := by
  rcases h with ⟨rfl, rfl⟩ | ⟨g, c, cur, h0, _⟩
  · exact ⟨_, _, rfl⟩
  · exact ⟨_, _, h0⟩
theorem alloc_frozen {W : World} {a : Addr} (h : a.block < W.heap.size) (hf : W.frozen? a = false) (o : Obj) : (W.alloc o).frozen? a = false :=
  (((Below.refl W.heap.size W).alloc (Nat.le_refl _) o).frozen (p := a) h).trans hf
set_option maxRecDepth 100000 in
set_option maxHeartbeats 1000000 in
theorem fit_any (neg : Bool) (g B0 : Nat) (ws : List Int) (w : World) (hL : LU w g ws) (hd : Dig B18 ws) (hB : B0 ≤ g) (hl : ws.length ≤ 17592186043904) :
    Calls Tryz.prog 82 #[.bool neg, .slice (some ⟨g, 0, none⟩) ws.length ws.length] w (ResPost w B0 (sg neg (val B18 ws))) := by
  have HL := Lib.hid hL
  have HD := Lib.hid hd
  clear hL hd
  go_enter Tryz.func82, Tryz.ntmps82
  go_wp2_with fail
  generalize hw2 : World.alloc w _ = w2
  have HB2 := Lib.hid (show Below w.heap.size w w2 by rw [← hw2]; exact (Below.refl _ _).alloc (Nat.le_refl _) _)
  have hc0 : w2.cell? ⟨w.heap.size, 0, none⟩ = some (.bool false) := by rw [← hw2]; simp
  have hc1 : w2.cell? ⟨w.heap.size, 1, none⟩ = some (.slice none 0 0) := by rw [← hw2]; simp
  have hf0 : w2.frozen? ⟨w.heap.size, 0, none⟩ = false := by rw [← hw2]; simp
  have hf1 : w2.frozen? ⟨w.heap.size, 1, none⟩ = false := by rw [← hw2]; simp
  have HL2 := Lib.hid (HL.out.keep HB2.out)
  have hsz : w2.heap.size = w.heap.size + 1 := by rw [← hw2]; simp
  have HSZ := Lib.hid hsz
  clear hw2 hsz
  refine (made_any neg _ ws.length ws w2 (HL2.out.mine (Nat.zero_le _) |>.rd hl)).mono ?_
  rintro e w3 ⟨k, hk, rfl, hb3⟩
  obtain ⟨neg', p, ws', hv, hM, hS, hlk⟩ := made_sgn neg hk HD.out (HL2.out.keep hb3) hB
  rw [hv]
  have hgl : w.heap.size ≠ g := fun e => by have := HL.out.lt; omega
  have HM := Lib.hid hM
  have HS := Lib.hid hS
  have HK := Lib.hid hlk
  have HB3 := Lib.hid (HB2.out.trans (hb3.mono HB2.out.size))
  have hd0 := below_cell hb3 hc0
  have hd1 := below_cell hb3 hc1
  have hg0 := (hb3.frozen (p := ⟨w.heap.size, 0, none⟩) (by have := HSZ.out; show w.heap.size < _; omega)).trans hf0
  have hg1 := (hb3.frozen (p := ⟨w.heap.size, 1, none⟩) (by have := HSZ.out; show w.heap.size < _; omega)).trans hf1
  have HS3 := Lib.hid (show w.heap.size < w3.heap.size by have := hb3.size; have := HSZ.out; omega)
  have a0 := fun o => alloc_cell hd0 o
  have a1 := fun o => alloc_cell hd1 o
  have f0 := fun o => alloc_frozen (a := ⟨w.heap.size, 0, none⟩) HS3.out hg0 o
  have f1 := fun o => alloc_frozen (a := ⟨w.heap.size, 1, none⟩) HS3.out hg1 o
  have HB4 := Lib.hid (fun o => HB3.out.alloc (Nat.le_of_lt HS3.out) o)
  have hle : g < w3.heap.size := by have := HL.out.lt; have := HS3.out; omega
  have HG := Lib.hid (fun o x0 x1 => show (((w3.alloc o).setCell ⟨w.heap.size, 0, none⟩ x0).setCell ⟨w.heap.size, 1, none⟩ x1).heap[g]? = w3.heap[g]? from
    ((Below.heap_setCell _ _ _ _ (Ne.symm hgl)).trans (Below.heap_setCell _ _ _ _ (Ne.symm hgl))).trans (Below.heap_alloc _ _ _ hle))
  clear hv hM hS hb3 hc0 hc1 hf0 hf1 hk hd0 hd1 hg0 hg1 hgl hle hlk
  by_cases h30 : k ≤ 30
  · have h30z : ¬ (30 : Int) < (k : Int) := by omega
    have HH := Lib.hid (show Small (sg neg (val B18 ws)) from HS.out.small.1 (by rw [HK.out]; exact h30))
    go_wp2_with fail
    have z20 := fun o => (two_setW (x0 := .bool neg') (x1 := .slice p k k) (a0 o) (a1 o)).1
    have z21 := fun o => (two_setW (x0 := .bool neg') (x1 := .slice p k k) (a0 o) (a1 o)).2
    refine bodyPost_ret (v := .tuple #[.agg #[.bool neg', .slice p k k], .int .i64 0]) (by simp [results, Tryz.results82, go_sem, z20, z21]) rfl ⟨neg', _, ws', 0, rfl, HM.out _ (HG.out _ _ _), ((HB4.out _).setCell (by simp) _).setCell (by simp) _, .inl ⟨HH.out, rfl, HS.out⟩⟩
  · have h30z : (30 : Int) < (k : Int) := by omega
    have HH := Lib.hid (show ¬ Small (sg neg (val B18 ws)) from fun h => h30 (by rw [← HK.out]; exact HS.out.small.2 h))
    go_wp2_with fail
    have z20 := fun o => (two_setW (x0 := .bool false) (x1 := .slice none 0 0) (a0 o) (a1 o)).1
    have z21 := fun o => (two_setW (x0 := .bool false) (x1 := .slice none 0 0) (a0 o) (a1 o)).2
    refine bodyPost_ret (v := .tuple #[.agg #[.bool false, .slice none 0 0], .int .i64 7]) (by simp [results, Tryz.results82, go_sem, z20, z21]) rfl ⟨false, _, [], 7, rfl, Mine.nil _ _, ((HB4.out _).setCell (by simp) _).setCell (by simp) _, .inr ⟨HH.out, rfl, rfl, rfl⟩⟩
end
section
open Go.ChangeShapes Go.WideShapes Go.ChangeAt Go.RowKit
set_option linter.unusedVariables false
set_option linter.unusedSimpArgs false
/-- The boxes of two numbers that came in, and of the answer. -/
structure Bx3 (w : World) (B : Nat) (n1 : Bool) (u1 : Value) (n2 : Bool) (u2 : Value) : Prop where
  x0 : w.cell? ⟨B, 0, none⟩ = some (.bool n1)
  x1 : w.cell? ⟨B, 1, none⟩ = some u1
  y0 : w.cell? ⟨B + 1, 0, none⟩ = some (.bool n2)
  y1 : w.cell? ⟨B + 1, 1, none⟩ = some u2
  r0 : w.cell? ⟨B + 1 + 1, 0, none⟩ = some (.bool false)
  r1 : w.cell? ⟨B + 1 + 1, 1, none⟩ = some (.slice none 0 0)
  f0 : w.frozen? ⟨B + 1 + 1, 0, none⟩ = false
  f1 : w.frozen? ⟨B + 1 + 1, 1, none⟩ = false
  lt : B + 1 + 1 < w.heap.size
theorem Bx3.keep {w w' : World} {B : Nat} {n1 n2 : Bool} {u1 u2 : Value} (h : Bx3 w B n1 u1 n2 u2) (hb : Below w.heap.size w w') : Bx3 w' B n1 u1 n2 u2 :=
  ⟨below_cell hb h.x0, below_cell hb h.x1, below_cell hb h.y0, below_cell hb h.y1, below_cell hb h.r0, below_cell hb h.r1, (hb.frozen (p := ⟨B + 1 + 1, 0, none⟩) h.lt).trans h.f0, (hb.frozen (p := ⟨B + 1 + 1, 1, none⟩) h.lt).trans h.f1, Nat.lt_of_lt_of_le h.lt hb.size⟩
theorem good_yes (neg : Bool) (u : Value) (ws : List Int) (z : Int) (w : World) (hr : Rd w u ws) (hS : Sgn B18 neg ws z) (hl : ws.length ≤ 30) :
    Calls Tryz.prog 45 #[.agg #[.bool neg, u]] w (BoolPost w true) := by
  have h := good_any neg u ws w hr hS.canon.fit
  rw [goodB_of hS hl] at h
  exact h
theorem third_cell (w : World) (o1 o2 : Obj) (c : Array Value) (T : TypeId) (i : Nat) : (((w.alloc o1).alloc o2).alloc (.cells c T)).cell? ⟨w.heap.size + 1 + 1, i, none⟩ = c[i]? := by
  have e : w.heap.size + 1 + 1 = ((w.alloc o1).alloc o2).heap.size := by simp
  rw [e]; generalize (w.alloc o1).alloc o2 = W; simp
theorem third_fr (w : World) (o1 o2 : Obj) (c : Array Value) (T : TypeId) (i : Nat) : (((w.alloc o1).alloc o2).alloc (.cells c T)).frozen? ⟨w.heap.size + 1 + 1, i, none⟩ = false := by
  have e : w.heap.size + 1 + 1 = ((w.alloc o1).alloc o2).heap.size := by simp
  rw [e]; generalize (w.alloc o1).alloc o2 = W; simp
theorem cell_set2 {w : World} {B C i : Nat} {v : Value} (h : B ≠ C) (hc : w.cell? ⟨B, i, none⟩ = some v) (x y : Value) : ((w.setCell ⟨C, 0, none⟩ x).setCell ⟨C, 1, none⟩ y).cell? ⟨B, i, none⟩ = some v := by
  rw [← hc]
  exact World.cell?_of_block (a := ⟨B, i, none⟩) ((Below.heap_setCell _ _ _ _ h).trans (Below.heap_setCell _ _ _ _ h))
theorem MU.set2 {w : World} {B0 B : Nat} {u : Value} {ws : List Int} (h : MU w B0 u ws) (hB : B < B0) (x0 x1 : Value) : MU ((w.setCell ⟨B, 0, none⟩ x0).setCell ⟨B, 1, none⟩ x1) B0 u ws := by
  rcases h with h | ⟨g, c, cur, h0, h1, h2, h3, h4, h5⟩
  · exact .inl h
  · refine .inr ⟨g, c, cur, h0, h1, h2, h3, ?_, h5⟩
    rw [Below.heap_setCell _ _ _ _ (by simp; omega), Below.heap_setCell _ _ _ _ (by simp; omega)]
    exact h4
theorem ResPost.mk {W w' : World} {B0 B1 : Nat} {z z' : Int} {neg : Bool} {u : Value} {ws : List Int} {er : Int} (hM : MU w' B1 u ws) (hB : B0 ≤ B1) (hb : Below W.heap.size W w') (he : z' = z)
    (hc : (Small z' ∧ er = 0 ∧ Sgn B18 neg ws z') ∨ (¬ Small z' ∧ er = 7 ∧ neg = false ∧ ws = [])) : ResPost W B0 z (.returned (.tuple #[.agg #[.bool neg, u], .int .i64 er])) w' := by
  subst he
  exact ⟨neg, u, ws, er, rfl, hM.low hB, hb, hc⟩
theorem sg_add (n : Bool) (a b : Int) : sg n (a + b) = sg n a + sg n b := by unfold sg; split <;> omega
theorem sg_sub (n m : Bool) (a b : Int) (h : n ≠ m) : sg n (a - b) = sg n a + sg m b := by
  cases n <;> cases m <;> simp [sg] at h ⊢ <;> omega
end
section
open Go.ChangeShapes Go.WideShapes Go.ChangeAt Go.RowKit
set_option linter.unusedVariables false
set_option linter.unusedSimpArgs false
theorem len_le {xs ys : List Int} (hx : Canon B18 xs) (hy : Canon B18 ys) (h : val B18 xs ≤ val B18 ys) : xs.length ≤ ys.length := by
  apply Classical.byContradiction
  intro hc
  have := len_lt (b := B18) (by decide) hy hx (by omega)
  omega
set_option maxRecDepth 100000 in
set_option maxHeartbeats 800000 in
theorem add_same (n1 : Bool) (u1 : Value) (xs : List Int) (z1 : Int) (n2 : Bool) (u2 : Value) (ys : List Int) (z2 : Int) (w : World) (hr1 : Rd w u1 xs) (hr2 : Rd w u2 ys) (hs1 : Sgn B18 n1 xs z1) (hs2 : Sgn B18 n2 ys z2) (hl1 : xs.length ≤ 30) (hl2 : ys.length ≤ 30) (hn : n1 = n2) :
    Calls Tryz.prog 46 #[.agg #[.bool n1, u1], .agg #[.bool n2, u2]] w (ResPost w w.heap.size (z1 + z2)) := by
  subst hn
  have HR1 := Lib.hid hr1
  have HR2 := Lib.hid hr2
  obtain ⟨p1, c1, rfl, _, _, _⟩ := rd_form hr1
  obtain ⟨p2, c2, rfl, _, _, _⟩ := rd_form hr2
  have HS1 := Lib.hid hs1
  have HS2 := Lib.hid hs2
  clear hr1 hr2 hs1 hs2
  go_enter Tryz.func46, Tryz.ntmps46
  go_wp2_with fail
  generalize hw2 : World.alloc (World.alloc (World.alloc w _) _) _ = w2
  have hbx : Bx3 w2 w.heap.size n1 (.slice p1 xs.length c1) n1 (.slice p2 ys.length c2) := by
    rw [← hw2]
    exact ⟨alloc_cell (alloc_cell (by simp) _) _, alloc_cell (alloc_cell (by simp) _) _, alloc_cell (by simp) _, alloc_cell (by simp) _, third_cell _ _ _ _ _ 0, third_cell _ _ _ _ _ 1, third_fr _ _ _ _ _ 0, third_fr _ _ _ _ _ 1, by simp⟩
  have HB2 := Lib.hid (show Below w.heap.size w w2 by rw [← hw2]; exact (((Below.refl _ _).alloc (Nat.le_refl _) _).alloc (by simp) _).alloc (by simp; omega) _)
  clear hw2
  have HX2 := Lib.hid hbx
  have q0 := hbx.x0
  have q1 := hbx.x1
  have q2 := hbx.y0
  have q3 := hbx.y1
  refine (good_yes _ _ xs z1 w2 (HR1.out.keep HB2.out) HS1.out hl1).mono ?_
  rintro e w3 ⟨rfl, hb3⟩
  have HX3 := Lib.hid (HX2.out.keep hb3)
  have HB3 := Lib.hid (HB2.out.trans (hb3.mono HB2.out.size))
  have t0 := HX3.out.x0
  have t1 := HX3.out.x1
  have t2 := HX3.out.y0
  have t3 := HX3.out.y1
  clear q0 q1 q2 q3 hb3 hbx HX2 HB2
  go_wp2_with fail
  refine (good_yes _ _ ys z2 w3 (HR2.out.keep HB3.out) HS2.out hl2).mono ?_
  rintro e w4 ⟨rfl, hb4⟩
  have HX4 := Lib.hid (HX3.out.keep hb4)
  have HB4 := Lib.hid (HB3.out.trans (hb4.mono HB3.out.size))
  have s0 := HX4.out.x0
  have s1 := HX4.out.x1
  have s2 := HX4.out.y0
  have s3 := HX4.out.y1
  have r0 := HX4.out.r0
  have r1 := HX4.out.r1
  have f0 := HX4.out.f0
  have f1 := HX4.out.f1
  have hlt := HX4.out.lt
  clear t0 t1 t2 t3 hb4 HX3 HB3
  have HADD := Lib.hid (fun (wx : World) (hx : Below w.heap.size w wx) => addSizes_any _ _ xs ys wx (HR1.out.keep hx) (HR2.out.keep hx) HS1.out.canon.1 HS2.out.canon.1)
  go_wp2_with fail
  go_region_held3 (fun w' => w'.cell? ⟨w.heap.size, 0, none⟩ = some (.bool n1) ∧ w'.cell? ⟨w.heap.size, 1, none⟩ = some (.slice p1 xs.length c1) ∧ w'.cell? ⟨w.heap.size + 1, 1, none⟩ = some (.slice p2 ys.length c2))
    ((repeat' apply And.intro) <;> (first | assumption | exact cell_set2 (by omega) (by assumption) _ _ | go_keep))
    (first
     | (go_at_call 83; refine (HADD.out _ (by first | exact HB4.out | exact HB4.out.drew)).mono ?_; rintro e w5 ⟨g, os, rfl, hg, hL, hol, hd, hv, hb5⟩; have hq5 : Below w4.heap.size w4 w5 := ⟨hb5.os, hb5.tape, hb5.output, hb5.size, hb5.block⟩; have hx5 := HX4.out.keep hq5; have k50 := hx5.x0; have k51 := hx5.x1; have k52 := hx5.y1; have HL5 := Lib.hid hL; have HD5 := Lib.hid hd; have HV5 := Lib.hid hv; have HO5 := Lib.hid hol; have HG5 := Lib.hid (show w4.heap.size ≤ g from hg); have HX5 := Lib.hid hx5; have HB5 := Lib.hid (HB4.out.trans (hq5.mono HB4.out.size)); clear hL hd hv hol hg hq5 hb5 hx5)
     | (go_at_call 82; refine (fit_any n1 _ w4.heap.size _ _ HL5.out HD5.out HG5.out (by have := HO5.out; omega)).mono ?_; rintro e w6 ⟨neg, u, ws, er, rfl, hM, hb6, hcase⟩; obtain ⟨p, c, rfl⟩ := MU.form hM; have HM6 := Lib.hid hM; have HC6 := Lib.hid hcase; have HB6 := Lib.hid (HB5.out.trans (hb6.mono HB5.out.size)); have hx6 := HX5.out.keep hb6; have k60 := hx6.x0; have k61 := hx6.x1; have k62 := hx6.y1; have m0 := hx6.r0; have m1 := hx6.r1; have mf0 := hx6.f0; have mf1 := hx6.f1; clear hM hcase hb6 hx6))
  go_wp2_with fail
  have zz := two_setW (x0 := .bool neg) (x1 := .slice p ws.length c) m0 m1
  refine bodyPost_ret (v := .tuple #[.agg #[.bool neg, .slice p ws.length c], .int .i64 er]) (by simp [results, Tryz.results46, go_sem, zz.1, zz.2]) rfl ?_
  exact ResPost.mk (HM6.out.set2 hlt _ _) (by omega) ((HB6.out.setCell (by simp; omega) _).setCell (by simp; omega) _) (by rw [HV5.out, sg_add, ← HS1.out.eq, ← HS2.out.eq]) HC6.out
set_option maxRecDepth 100000 in
set_option maxHeartbeats 800000 in
theorem add_lt2 (n1 : Bool) (u1 : Value) (xs : List Int) (z1 : Int) (n2 : Bool) (u2 : Value) (ys : List Int) (z2 : Int) (w : World) (hr1 : Rd w u1 xs) (hr2 : Rd w u2 ys) (hs1 : Sgn B18 n1 xs z1) (hs2 : Sgn B18 n2 ys z2) (hl1 : xs.length ≤ 30) (hl2 : ys.length ≤ 30) (hne : (n1 == n2) = false) (hc : val B18 xs < val B18 ys) :
    Calls Tryz.prog 46 #[.agg #[.bool n1, u1], .agg #[.bool n2, u2]] w (ResPost w w.heap.size (z1 + z2)) := by
  have HC := Lib.hid hc
  have HLE := Lib.hid (len_le hs1.canon hs2.canon (Int.le_of_lt hc))
  clear hc
  have HR1 := Lib.hid hr1
  have HR2 := Lib.hid hr2
  obtain ⟨p1, c1, rfl, _, _, _⟩ := rd_form hr1
  obtain ⟨p2, c2, rfl, _, _, _⟩ := rd_form hr2
  have HS1 := Lib.hid hs1
  have HS2 := Lib.hid hs2
  clear hr1 hr2 hs1 hs2
  go_enter Tryz.func46, Tryz.ntmps46
  go_wp2_with fail
  generalize hw2 : World.alloc (World.alloc (World.alloc w _) _) _ = w2
  have hbx : Bx3 w2 w.heap.size n1 (.slice p1 xs.length c1) n2 (.slice p2 ys.length c2) := by
    rw [← hw2]
    exact ⟨alloc_cell (alloc_cell (by simp) _) _, alloc_cell (alloc_cell (by simp) _) _, alloc_cell (by simp) _, alloc_cell (by simp) _, third_cell _ _ _ _ _ 0, third_cell _ _ _ _ _ 1, third_fr _ _ _ _ _ 0, third_fr _ _ _ _ _ 1, by simp⟩
  have HB2 := Lib.hid (show Below w.heap.size w w2 by rw [← hw2]; exact (((Below.refl _ _).alloc (Nat.le_refl _) _).alloc (by simp) _).alloc (by simp; omega) _)
  clear hw2
  have HX2 := Lib.hid hbx
  have q0 := hbx.x0
  have q1 := hbx.x1
  have q2 := hbx.y0
  have q3 := hbx.y1
  refine (good_yes _ _ xs z1 w2 (HR1.out.keep HB2.out) HS1.out hl1).mono ?_
  rintro e w3 ⟨rfl, hb3⟩
  have HX3 := Lib.hid (HX2.out.keep hb3)
  have HB3 := Lib.hid (HB2.out.trans (hb3.mono HB2.out.size))
  have t0 := HX3.out.x0
  have t1 := HX3.out.x1
  have t2 := HX3.out.y0
  have t3 := HX3.out.y1
  clear q0 q1 q2 q3 hb3 hbx HX2 HB2
  go_wp2_with fail
  refine (good_yes _ _ ys z2 w3 (HR2.out.keep HB3.out) HS2.out hl2).mono ?_
  rintro e w4 ⟨rfl, hb4⟩
  have HX4 := Lib.hid (HX3.out.keep hb4)
  have HB4 := Lib.hid (HB3.out.trans (hb4.mono HB3.out.size))
  have s0 := HX4.out.x0
  have s1 := HX4.out.x1
  have s2 := HX4.out.y0
  have s3 := HX4.out.y1
  have r0 := HX4.out.r0
  have r1 := HX4.out.r1
  have f0 := HX4.out.f0
  have f1 := HX4.out.f1
  have hlt := HX4.out.lt
  clear t0 t1 t2 t3 hb4 HX3 HB3
  have HNE := Lib.hid (show n1 ≠ n2 by intro e; subst e; simp at hne)
  go_wp2_with fail
  refine (cmpSizes_any _ _ xs ys w4 (HR1.out.keep HB4.out) (HR2.out.keep HB4.out) HS1.out.canon HS2.out.canon).mono ?_
  rintro e w5 ⟨rfl, hb5⟩
  have HX5 := Lib.hid (HX4.out.keep hb5)
  have HB5 := Lib.hid (HB4.out.trans (hb5.mono HB4.out.size))
  clear s0 s1 s2 s3 r0 r1 f0 f1 hlt hb5 HX4 HB4
  have s0 := HX5.out.x0
  have s1 := HX5.out.x1
  have s2 := HX5.out.y0
  have s3 := HX5.out.y1
  have r0 := HX5.out.r0
  have r1 := HX5.out.r1
  have f0 := HX5.out.f0
  have f1 := HX5.out.f1
  have hlt := HX5.out.lt
  rw [cmpI_lt HC.out]
  have HSUB := Lib.hid (fun (wx : World) (hx : Below w.heap.size w wx) => subSizes_any _ _ ys xs wx (HR2.out.keep hx) (HR1.out.keep hx) HS2.out.canon.1 HS1.out.canon.1 (HLE.out) (by have := HC.out; omega))
  go_wp2_with fail
  go_region_held3 (fun w' => w'.cell? ⟨w.heap.size + 1, 0, none⟩ = some (.bool n2) ∧ w'.cell? ⟨w.heap.size, 1, none⟩ = some (.slice p1 xs.length c1) ∧ w'.cell? ⟨w.heap.size + 1, 1, none⟩ = some (.slice p2 ys.length c2))
    ((repeat' apply And.intro) <;> (first | assumption | exact cell_set2 (by omega) (by assumption) _ _ | go_keep))
    (first
     | (go_at_call 84; refine (HSUB.out _ (by first | exact HB5.out | exact HB5.out.drew)).mono ?_; rintro e w6 ⟨g, os, rfl, hg, hL, hol, hd, hv, hb5⟩; have hq5 : Below w5.heap.size w5 w6 := ⟨hb5.os, hb5.tape, hb5.output, hb5.size, hb5.block⟩; have hx6 := HX5.out.keep hq5; have k60 := hx6.y0; have k61 := hx6.x1; have k62 := hx6.y1; have HL5 := Lib.hid hL; have HD5 := Lib.hid hd; have HV5 := Lib.hid hv; have HO5 := Lib.hid hol; have HG5 := Lib.hid (show w5.heap.size ≤ g from hg); have HX6 := Lib.hid hx6; have HB6 := Lib.hid (HB5.out.trans (hq5.mono HB5.out.size)); clear hL hd hv hol hg hq5 hb5 hx6)
     | (go_at_call 82; refine (fit_any n2 _ w5.heap.size _ _ HL5.out HD5.out HG5.out (by have := HO5.out; omega)).mono ?_; rintro e w7 ⟨neg, u, ws, er, rfl, hM, hb6, hcase⟩; obtain ⟨p, c, rfl⟩ := MU.form hM; have HM6 := Lib.hid hM; have HC6 := Lib.hid hcase; have HB7 := Lib.hid (HB6.out.trans (hb6.mono HB6.out.size)); have hx7 := HX6.out.keep hb6; have k70 := hx7.y0; have k71 := hx7.x1; have k72 := hx7.y1; have m0 := hx7.r0; have m1 := hx7.r1; have mf0 := hx7.f0; have mf1 := hx7.f1; clear hM hcase hb6 hx7))
  go_wp2_with fail
  have zz := two_setW (x0 := .bool neg) (x1 := .slice p ws.length c) m0 m1
  refine bodyPost_ret (v := .tuple #[.agg #[.bool neg, .slice p ws.length c], .int .i64 er]) (by simp [results, Tryz.results46, go_sem, zz.1, zz.2]) rfl ?_
  exact ResPost.mk (HM6.out.set2 hlt _ _) (by omega) ((HB7.out.setCell (by simp; omega) _).setCell (by simp; omega) _) (by rw [HV5.out, sg_sub n2 n1 _ _ (Ne.symm HNE.out), ← HS1.out.eq, ← HS2.out.eq, Int.add_comm]) HC6.out
set_option maxRecDepth 100000 in
set_option maxHeartbeats 800000 in
theorem add_ge2 (n1 : Bool) (u1 : Value) (xs : List Int) (z1 : Int) (n2 : Bool) (u2 : Value) (ys : List Int) (z2 : Int) (w : World) (hr1 : Rd w u1 xs) (hr2 : Rd w u2 ys) (hs1 : Sgn B18 n1 xs z1) (hs2 : Sgn B18 n2 ys z2) (hl1 : xs.length ≤ 30) (hl2 : ys.length ≤ 30) (hne : (n1 == n2) = false) (hc : ¬ val B18 xs < val B18 ys) :
    Calls Tryz.prog 46 #[.agg #[.bool n1, u1], .agg #[.bool n2, u2]] w (ResPost w w.heap.size (z1 + z2)) := by
  have HC := Lib.hid hc
  have HLE := Lib.hid (len_le hs2.canon hs1.canon (by omega))
  clear hc
  have HR1 := Lib.hid hr1
  have HR2 := Lib.hid hr2
  obtain ⟨p1, c1, rfl, _, _, _⟩ := rd_form hr1
  obtain ⟨p2, c2, rfl, _, _, _⟩ := rd_form hr2
  have HS1 := Lib.hid hs1
  have HS2 := Lib.hid hs2
  clear hr1 hr2 hs1 hs2
  go_enter Tryz.func46, Tryz.ntmps46
  go_wp2_with fail
  generalize hw2 : World.alloc (World.alloc (World.alloc w _) _) _ = w2
  have hbx : Bx3 w2 w.heap.size n1 (.slice p1 xs.length c1) n2 (.slice p2 ys.length c2) := by
    rw [← hw2]
    exact ⟨alloc_cell (alloc_cell (by simp) _) _, alloc_cell (alloc_cell (by simp) _) _, alloc_cell (by simp) _, alloc_cell (by simp) _, third_cell _ _ _ _ _ 0, third_cell _ _ _ _ _ 1, third_fr _ _ _ _ _ 0, third_fr _ _ _ _ _ 1, by simp⟩
  have HB2 := Lib.hid (show Below w.heap.size w w2 by rw [← hw2]; exact (((Below.refl _ _).alloc (Nat.le_refl _) _).alloc (by simp) _).alloc (by simp; omega) _)
  clear hw2
  have HX2 := Lib.hid hbx
  have q0 := hbx.x0
  have q1 := hbx.x1
  have q2 := hbx.y0
  have q3 := hbx.y1
  refine (good_yes _ _ xs z1 w2 (HR1.out.keep HB2.out) HS1.out hl1).mono ?_
  rintro e w3 ⟨rfl, hb3⟩
  have HX3 := Lib.hid (HX2.out.keep hb3)
  have HB3 := Lib.hid (HB2.out.trans (hb3.mono HB2.out.size))
  have t0 := HX3.out.x0
  have t1 := HX3.out.x1
  have t2 := HX3.out.y0
  have t3 := HX3.out.y1
  clear q0 q1 q2 q3 hb3 hbx HX2 HB2
  go_wp2_with fail
  refine (good_yes _ _ ys z2 w3 (HR2.out.keep HB3.out) HS2.out hl2).mono ?_
  rintro e w4 ⟨rfl, hb4⟩
  have HX4 := Lib.hid (HX3.out.keep hb4)
  have HB4 := Lib.hid (HB3.out.trans (hb4.mono HB3.out.size))
  have s0 := HX4.out.x0
  have s1 := HX4.out.x1
  have s2 := HX4.out.y0
  have s3 := HX4.out.y1
  have r0 := HX4.out.r0
  have r1 := HX4.out.r1
  have f0 := HX4.out.f0
  have f1 := HX4.out.f1
  have hlt := HX4.out.lt
  clear t0 t1 t2 t3 hb4 HX3 HB3
  have HNE := Lib.hid (show n1 ≠ n2 by intro e; subst e; simp at hne)
  go_wp2_with fail
  refine (cmpSizes_any _ _ xs ys w4 (HR1.out.keep HB4.out) (HR2.out.keep HB4.out) HS1.out.canon HS2.out.canon).mono ?_
  rintro e w5 ⟨rfl, hb5⟩
  have HX5 := Lib.hid (HX4.out.keep hb5)
  have HB5 := Lib.hid (HB4.out.trans (hb5.mono HB4.out.size))
  clear s0 s1 s2 s3 r0 r1 f0 f1 hlt hb5 HX4 HB4
  have s0 := HX5.out.x0
  have s1 := HX5.out.x1
  have s2 := HX5.out.y0
  have s3 := HX5.out.y1
  have r0 := HX5.out.r0
  have r1 := HX5.out.r1
  have f0 := HX5.out.f0
  have f1 := HX5.out.f1
  have hlt := HX5.out.lt
  have hc0 : ¬ cmpI (val B18 xs) (val B18 ys) < 0 := by have := HC.out; unfold cmpI; rw [if_neg (by omega)]; split <;> omega
  generalize cmpI (val B18 xs) (val B18 ys) = cc at hc0
  have HSUB := Lib.hid (fun (wx : World) (hx : Below w.heap.size w wx) => subSizes_any _ _ xs ys wx (HR1.out.keep hx) (HR2.out.keep hx) HS1.out.canon.1 HS2.out.canon.1 (HLE.out) (by have := HC.out; omega))
  go_wp2_with fail
  go_region_held3 (fun w' => w'.cell? ⟨w.heap.size, 0, none⟩ = some (.bool n1) ∧ w'.cell? ⟨w.heap.size, 1, none⟩ = some (.slice p1 xs.length c1) ∧ w'.cell? ⟨w.heap.size + 1, 1, none⟩ = some (.slice p2 ys.length c2))
    ((repeat' apply And.intro) <;> (first | assumption | exact cell_set2 (by omega) (by assumption) _ _ | go_keep))
    (first
     | (go_at_call 84; refine (HSUB.out _ (by first | exact HB5.out | exact HB5.out.drew)).mono ?_; rintro e w6 ⟨g, os, rfl, hg, hL, hol, hd, hv, hb5⟩; have hq5 : Below w5.heap.size w5 w6 := ⟨hb5.os, hb5.tape, hb5.output, hb5.size, hb5.block⟩; have hx6 := HX5.out.keep hq5; have k60 := hx6.x0; have k61 := hx6.x1; have k62 := hx6.y1; have HL5 := Lib.hid hL; have HD5 := Lib.hid hd; have HV5 := Lib.hid hv; have HO5 := Lib.hid hol; have HG5 := Lib.hid (show w5.heap.size ≤ g from hg); have HX6 := Lib.hid hx6; have HB6 := Lib.hid (HB5.out.trans (hq5.mono HB5.out.size)); clear hL hd hv hol hg hq5 hb5 hx6)
     | (go_at_call 82; refine (fit_any n1 _ w5.heap.size _ _ HL5.out HD5.out HG5.out (by have := HO5.out; omega)).mono ?_; rintro e w7 ⟨neg, u, ws, er, rfl, hM, hb6, hcase⟩; obtain ⟨p, c, rfl⟩ := MU.form hM; have HM6 := Lib.hid hM; have HC6 := Lib.hid hcase; have HB7 := Lib.hid (HB6.out.trans (hb6.mono HB6.out.size)); have hx7 := HX6.out.keep hb6; have k70 := hx7.x0; have k71 := hx7.x1; have k72 := hx7.y1; have m0 := hx7.r0; have m1 := hx7.r1; have mf0 := hx7.f0; have mf1 := hx7.f1; clear hM hcase hb6 hx7))
  go_wp2_with fail
  have zz := two_setW (x0 := .bool neg) (x1 := .slice p ws.length c) m0 m1
  refine bodyPost_ret (v := .tuple #[.agg #[.bool neg, .slice p ws.length c], .int .i64 er]) (by simp [results, Tryz.results46, go_sem, zz.1, zz.2]) rfl ?_
  exact ResPost.mk (HM6.out.set2 hlt _ _) (by omega) ((HB7.out.setCell (by simp; omega) _).setCell (by simp; omega) _) (by rw [HV5.out, sg_sub n1 n2 _ _ HNE.out, ← HS1.out.eq, ← HS2.out.eq]) HC6.out
theorem add_good (n1 : Bool) (u1 : Value) (xs : List Int) (z1 : Int) (n2 : Bool) (u2 : Value) (ys : List Int) (z2 : Int) (w : World) (hr1 : Rd w u1 xs) (hr2 : Rd w u2 ys) (hs1 : Sgn B18 n1 xs z1) (hs2 : Sgn B18 n2 ys z2) (hl1 : xs.length ≤ 30) (hl2 : ys.length ≤ 30) :
    Calls Tryz.prog 46 #[.agg #[.bool n1, u1], .agg #[.bool n2, u2]] w (ResPost w w.heap.size (z1 + z2)) := by
  by_cases hn : n1 = n2
  · exact add_same n1 u1 xs z1 n2 u2 ys z2 w hr1 hr2 hs1 hs2 hl1 hl2 hn
  · have hne : (n1 == n2) = false := by simpa using hn
    by_cases hc : val B18 xs < val B18 ys
    · exact add_lt2 n1 u1 xs z1 n2 u2 ys z2 w hr1 hr2 hs1 hs2 hl1 hl2 hne hc
    · exact add_ge2 n1 u1 xs z1 n2 u2 ys z2 w hr1 hr2 hs1 hs2 hl1 hl2 hne hc
end
section
open Go.ChangeShapes Go.WideShapes Go.ChangeAt Go.RowKit
set_option linter.unusedVariables false
set_option linter.unusedSimpArgs false
def BigPost (W : World) (B0 : Nat) (z : Int) (e : Ending) (w' : World) : Prop :=
  ∃ neg u ws, e = .returned (.agg #[.bool neg, u]) ∧ MU w' B0 u ws ∧ Sgn B18 neg ws z ∧ Below W.heap.size W w'
/-- The boxes of a number that came in, and of the answer. -/
structure Bx2 (w : World) (B : Nat) (n1 : Bool) (u1 : Value) : Prop where
  x0 : w.cell? ⟨B, 0, none⟩ = some (.bool n1)
  x1 : w.cell? ⟨B, 1, none⟩ = some u1
  r0 : w.cell? ⟨B + 1, 0, none⟩ = some (.bool false)
  r1 : w.cell? ⟨B + 1, 1, none⟩ = some (.slice none 0 0)
  f0 : w.frozen? ⟨B + 1, 0, none⟩ = false
  f1 : w.frozen? ⟨B + 1, 1, none⟩ = false
  lt : B + 1 < w.heap.size
theorem Bx2.keep {w w' : World} {B : Nat} {n1 : Bool} {u1 : Value} (h : Bx2 w B n1 u1) (hb : Below w.heap.size w w') : Bx2 w' B n1 u1 :=
  ⟨below_cell hb h.x0, below_cell hb h.x1, below_cell hb h.r0, below_cell hb h.r1, (hb.frozen (p := ⟨B + 1, 0, none⟩) h.lt).trans h.f0, (hb.frozen (p := ⟨B + 1, 1, none⟩) h.lt).trans h.f1, Nat.lt_of_lt_of_le h.lt hb.size⟩
theorem sg_not (n : Bool) (a : Int) : sg (!n) a = -(sg n a) := by cases n <;> simp [sg]
theorem Small.neg {z : Int} (h : Small z) : Small (-z) := ⟨by rw [Int.natAbs_neg]; exact h.lt⟩
set_option maxRecDepth 100000 in
set_option maxHeartbeats 800000 in
theorem neg_good (n1 : Bool) (u1 : Value) (xs : List Int) (z1 : Int) (w : World) (hr1 : Rd w u1 xs) (hs1 : Sgn B18 n1 xs z1) (hl1 : xs.length ≤ 30) :
    Calls Tryz.prog 65 #[.agg #[.bool n1, u1]] w (BigPost w w.heap.size (-z1)) := by
  have HR1 := Lib.hid hr1
  obtain ⟨p1, c1, rfl, _, _, _⟩ := rd_form hr1
  have HS1 := Lib.hid hs1
  clear hr1 hs1
  go_enter Tryz.func65, Tryz.ntmps65
  go_wp2_with fail
  generalize hw2 : World.alloc (World.alloc w _) _ = w2
  have hbx : Bx2 w2 w.heap.size n1 (.slice p1 xs.length c1) := by
    rw [← hw2]
    refine ⟨alloc_cell (by simp) _, alloc_cell (by simp) _, ?_, ?_, ?_, ?_, by simp⟩ <;> simp
  have HB2 := Lib.hid (show Below w.heap.size w w2 by rw [← hw2]; exact ((Below.refl _ _).alloc (Nat.le_refl _) _).alloc (by simp) _)
  clear hw2
  have HX2 := Lib.hid hbx
  have q0 := hbx.x0
  have q1 := hbx.x1
  refine (good_yes _ _ xs z1 w2 (HR1.out.keep HB2.out) HS1.out hl1).mono ?_
  rintro e w3 ⟨rfl, hb3⟩
  have HX3 := Lib.hid (HX2.out.keep hb3)
  have HB3 := Lib.hid (HB2.out.trans (hb3.mono HB2.out.size))
  have t0 := HX3.out.x0
  have t1 := HX3.out.x1
  clear q0 q1 hb3 hbx HX2 HB2
  go_wp2_with fail
  refine (copied_any _ _ xs w3 (HR1.out.keep HB3.out)).mono ?_
  rintro e w4 ⟨k, g, hk, hg, rfl, hL, hb4⟩
  obtain ⟨neg', p, ws', hv, hM, hS, hlk⟩ := made_sgn (B0 := w3.heap.size) (!n1) hk HS1.out.canon.1 hL hg
  rw [hv]
  have hx4 := HX3.out.keep hb4
  have m0 := hx4.r0
  have m1 := hx4.r1
  have mf0 := hx4.f0
  have mf1 := hx4.f1
  have hlt := HX3.out.lt
  have HM := Lib.hid (hM w4 rfl)
  have HSS := Lib.hid hS
  have HB4 := Lib.hid (HB3.out.trans (hb4.mono HB3.out.size))
  clear hv hM hS hlk hb4 hx4 hL hk t0 t1
  go_wp2_with fail
  have zz := two_setW (x0 := .bool neg') (x1 := .slice p k k) m0 m1
  refine bodyPost_ret (v := .agg #[.bool neg', .slice p k k]) (by simp [results, Tryz.results65, go_sem, zz.1, zz.2]) rfl ⟨neg', _, ws', rfl, (HM.out.set2 hlt _ _).low (by omega), ?_, (HB4.out.setCell (by simp) _).setCell (by simp) _⟩
  have := HSS.out
  rw [sg_not, ← HS1.out.eq] at this
  exact this
end
section
open Go.ChangeShapes Go.WideShapes Go.ChangeAt Go.RowKit
set_option linter.unusedVariables false
set_option linter.unusedSimpArgs false
set_option maxRecDepth 100000 in
set_option maxHeartbeats 800000 in
theorem sub_good (n1 : Bool) (u1 : Value) (xs : List Int) (z1 : Int) (n2 : Bool) (u2 : Value) (ys : List Int) (z2 : Int) (w : World) (hr1 : Rd w u1 xs) (hr2 : Rd w u2 ys) (hs1 : Sgn B18 n1 xs z1) (hs2 : Sgn B18 n2 ys z2) (hl1 : xs.length ≤ 30) (hl2 : ys.length ≤ 30)  :
    Calls Tryz.prog 47 #[.agg #[.bool n1, u1], .agg #[.bool n2, u2]] w (ResPost w w.heap.size (z1 - z2)) := by
  have HR1 := Lib.hid hr1
  have HR2 := Lib.hid hr2
  obtain ⟨p1, c1, rfl, _, _, _⟩ := rd_form hr1
  obtain ⟨p2, c2, rfl, _, _, _⟩ := rd_form hr2
  have HS1 := Lib.hid hs1
  have HS2 := Lib.hid hs2
  clear hr1 hr2 hs1 hs2
  go_enter Tryz.func47, Tryz.ntmps47
  go_wp2_with fail
  generalize hw2 : World.alloc (World.alloc (World.alloc w _) _) _ = w2
  have hbx : Bx3 w2 w.heap.size n1 (.slice p1 xs.length c1) n2 (.slice p2 ys.length c2) := by
    rw [← hw2]
    exact ⟨alloc_cell (alloc_cell (by simp) _) _, alloc_cell (alloc_cell (by simp) _) _, alloc_cell (by simp) _, alloc_cell (by simp) _, third_cell _ _ _ _ _ 0, third_cell _ _ _ _ _ 1, third_fr _ _ _ _ _ 0, third_fr _ _ _ _ _ 1, by simp⟩
  have HB2 := Lib.hid (show Below w.heap.size w w2 by rw [← hw2]; exact (((Below.refl _ _).alloc (Nat.le_refl _) _).alloc (by simp) _).alloc (by simp; omega) _)
  clear hw2
  have HX2 := Lib.hid hbx
  have q0 := hbx.x0
  have q1 := hbx.x1
  have q2 := hbx.y0
  have q3 := hbx.y1
  refine (good_yes _ _ xs z1 w2 (HR1.out.keep HB2.out) HS1.out hl1).mono ?_
  rintro e w3 ⟨rfl, hb3⟩
  have HX3 := Lib.hid (HX2.out.keep hb3)
  have HB3 := Lib.hid (HB2.out.trans (hb3.mono HB2.out.size))
  have t0 := HX3.out.x0
  have t1 := HX3.out.x1
  have t2 := HX3.out.y0
  have t3 := HX3.out.y1
  clear q0 q1 q2 q3 hb3 hbx HX2 HB2
  go_wp2_with fail
  refine (good_yes _ _ ys z2 w3 (HR2.out.keep HB3.out) HS2.out hl2).mono ?_
  rintro e w4 ⟨rfl, hb4⟩
  have HX4 := Lib.hid (HX3.out.keep hb4)
  have HB4 := Lib.hid (HB3.out.trans (hb4.mono HB3.out.size))
  have s0 := HX4.out.x0
  have s1 := HX4.out.x1
  have s2 := HX4.out.y0
  have s3 := HX4.out.y1
  have r0 := HX4.out.r0
  have r1 := HX4.out.r1
  have f0 := HX4.out.f0
  have f1 := HX4.out.f1
  have hlt := HX4.out.lt
  clear t0 t1 t2 t3 hb4 HX3 HB3
  have HNEG := Lib.hid (fun (wx : World) (hx : Below w.heap.size w wx) => neg_good n2 _ ys z2 wx (HR2.out.keep hx) HS2.out hl2)
  go_wp2_with fail
  go_region_held3 (fun w' => w'.cell? ⟨w.heap.size, 0, none⟩ = some (.bool n1) ∧ w'.cell? ⟨w.heap.size, 1, none⟩ = some (.slice p1 xs.length c1) ∧ w'.cell? ⟨w.heap.size + 1, 0, none⟩ = some (.bool n2) ∧ w'.cell? ⟨w.heap.size + 1, 1, none⟩ = some (.slice p2 ys.length c2))
    ((repeat' apply And.intro) <;> (first | assumption | exact cell_set2 (by omega) (by assumption) _ _ | go_keep))
    (first
     | (go_at_call 65; refine (HNEG.out _ (by first | exact HB4.out | exact HB4.out.drew)).mono ?_; rintro e w5 ⟨nn, un, wn, rfl, hMn, hSn, hb5⟩; obtain ⟨pn, cn, rfl⟩ := MU.form hMn; have hq5 : Below w4.heap.size w4 w5 := ⟨hb5.os, hb5.tape, hb5.output, hb5.size, hb5.block⟩; have hx5 := HX4.out.keep hq5; have k50 := hx5.x0; have k51 := hx5.x1; have k52 := hx5.y0; have k53 := hx5.y1; have HMN := Lib.hid hMn; have HSN := Lib.hid hSn; have HX5 := Lib.hid hx5; have HB5 := Lib.hid (HB4.out.trans (hq5.mono HB4.out.size)); have HLN := Lib.hid (hSn.small.2 ((HS2.out.small.1 hl2).neg)); have hl5 := hx5.lt; clear hMn hSn hq5 hb5 hx5)
     | (go_at_call 46; refine (add_good n1 _ xs z1 _ _ _ (-z2) _ (HR1.out.keep HB5.out) (HMN.out.rd (Nat.le_trans HLN.out (by decide))) HS1.out HSN.out hl1 HLN.out).mono ?_; rintro e w6 ⟨neg, u, ws, er, rfl, hM, hb6, hcase⟩; obtain ⟨p, c, rfl⟩ := MU.form hM; have HM6 := Lib.hid hM; have HC6 := Lib.hid hcase; have HB6 := Lib.hid (HB5.out.trans (hb6.mono HB5.out.size)); have hx6 := HX5.out.keep hb6; have k60 := hx6.x0; have k61 := hx6.x1; have k62 := hx6.y0; have k63 := hx6.y1; have m0 := hx6.r0; have m1 := hx6.r1; have mf0 := hx6.f0; have mf1 := hx6.f1; clear hM hcase hb6 hx6))
  go_wp2_with fail
  have zz := two_setW (x0 := .bool neg) (x1 := .slice p ws.length c) m0 m1
  refine bodyPost_ret (v := .tuple #[.agg #[.bool neg, .slice p ws.length c], .int .i64 er]) (by simp [results, Tryz.results47, go_sem, zz.1, zz.2]) rfl ?_
  exact ResPost.mk (HM6.out.set2 hl5 _ _) (by omega) ((HB6.out.setCell (by simp; omega) _).setCell (by simp; omega) _) (by omega) HC6.out
end
section
open Go.ChangeShapes Go.WideShapes Go.ChangeAt Go.RowKit
set_option linter.unusedVariables false
set_option linter.unusedSimpArgs false
structure Bx2c (w : World) (B : Nat) (n1 : Bool) (u1 : Value) (n2 : Bool) (u2 : Value) : Prop where
  x0 : w.cell? ⟨B, 0, none⟩ = some (.bool n1)
  x1 : w.cell? ⟨B, 1, none⟩ = some u1
  y0 : w.cell? ⟨B + 1, 0, none⟩ = some (.bool n2)
  y1 : w.cell? ⟨B + 1, 1, none⟩ = some u2
theorem Bx2c.keep {w w' : World} {B : Nat} {n1 n2 : Bool} {u1 u2 : Value} (h : Bx2c w B n1 u1 n2 u2) (hb : Below w.heap.size w w') : Bx2c w' B n1 u1 n2 u2 :=
  ⟨below_cell hb h.x0, below_cell hb h.x1, below_cell hb h.y0, below_cell hb h.y1⟩
theorem cmp_sgn_nn {b : Int} (hb : 0 < b) {xs ys : List Int} {z1 z2 : Int} (h : Sgn b true xs z1) (g : Sgn b true ys z2) : cmpI (val b ys) (val b xs) = cmpI z1 z2 := by
  have e1 := h.eq; have e2 := g.eq; simp [sg] at e1 e2; unfold cmpI; rw [e1, e2]; (repeat' split) <;> omega
theorem cmp_sgn_pp {b : Int} (hb : 0 < b) {xs ys : List Int} {z1 z2 : Int} (h : Sgn b false xs z1) (g : Sgn b false ys z2) : cmpI (val b xs) (val b ys) = cmpI z1 z2 := by
  have e1 := h.eq; have e2 := g.eq; simp [sg] at e1 e2; rw [e1, e2]
theorem cmp_sgn_np {b : Int} (hb : 0 < b) {xs ys : List Int} {z1 z2 : Int} (h : Sgn b true xs z1) (g : Sgn b false ys z2) : -1 = cmpI z1 z2 := by
  have e1 := h.neg_iff hb; have e2 := g.neg_iff hb; simp at e1 e2; rw [cmpI_lt (by omega)]
theorem cmp_sgn_pn {b : Int} (hb : 0 < b) {xs ys : List Int} {z1 z2 : Int} (h : Sgn b false xs z1) (g : Sgn b true ys z2) : 1 = cmpI z1 z2 := by
  have e1 := h.neg_iff hb; have e2 := g.neg_iff hb; simp at e1 e2; rw [cmpI_gt (by omega)]
set_option maxRecDepth 100000 in
set_option maxHeartbeats 800000 in
theorem cmp_tt (u1 : Value) (xs : List Int) (z1 : Int) (u2 : Value) (ys : List Int) (z2 : Int) (w : World) (hr1 : Rd w u1 xs) (hr2 : Rd w u2 ys) (hs1 : Sgn B18 true xs z1) (hs2 : Sgn B18 true ys z2) (hl1 : xs.length ≤ 30) (hl2 : ys.length ≤ 30) :
    Calls Tryz.prog 27 #[.agg #[.bool true, u1], .agg #[.bool true, u2]] w (CmpPost w (cmpI z1 z2)) := by
  have HR1 := Lib.hid hr1
  have HR2 := Lib.hid hr2
  obtain ⟨p1, c1, rfl, _, _, _⟩ := rd_form hr1
  obtain ⟨p2, c2, rfl, _, _, _⟩ := rd_form hr2
  have HS1 := Lib.hid hs1
  have HS2 := Lib.hid hs2
  clear hr1 hr2 hs1 hs2
  go_enter Tryz.func27, Tryz.ntmps27
  go_wp2_with fail
  generalize hw2 : World.alloc (World.alloc w _) _ = w2
  have hbx : Bx2c w2 w.heap.size true (.slice p1 xs.length c1) true (.slice p2 ys.length c2) := by
    rw [← hw2]
    refine ⟨alloc_cell (by simp) _, alloc_cell (by simp) _, ?_, ?_⟩ <;> simp
  have HB2 := Lib.hid (show Below w.heap.size w w2 by rw [← hw2]; exact ((Below.refl _ _).alloc (Nat.le_refl _) _).alloc (by simp) _)
  clear hw2
  have HX2 := Lib.hid hbx
  have q0 := hbx.x0
  have q1 := hbx.x1
  have q2 := hbx.y0
  have q3 := hbx.y1
  refine (good_yes _ _ xs z1 w2 (HR1.out.keep HB2.out) HS1.out hl1).mono ?_
  rintro e w3 ⟨rfl, hb3⟩
  have HX3 := Lib.hid (HX2.out.keep hb3)
  have HB3 := Lib.hid (HB2.out.trans (hb3.mono HB2.out.size))
  have t0 := HX3.out.x0
  have t1 := HX3.out.x1
  have t2 := HX3.out.y0
  have t3 := HX3.out.y1
  clear q0 q1 q2 q3 hb3 hbx HX2 HB2
  go_wp2_with fail
  refine (good_yes _ _ ys z2 w3 (HR2.out.keep HB3.out) HS2.out hl2).mono ?_
  rintro e w4 ⟨rfl, hb4⟩
  have HX4 := Lib.hid (HX3.out.keep hb4)
  have HB4 := Lib.hid (HB3.out.trans (hb4.mono HB3.out.size))
  have s0 := HX4.out.x0
  have s1 := HX4.out.x1
  have s2 := HX4.out.y0
  have s3 := HX4.out.y1
  clear t0 t1 t2 t3 hb4 HX3 HB3
  go_wp2_with fail
  refine (cmpSizes_any _ _ ys xs w4 (HR2.out.keep HB4.out) (HR1.out.keep HB4.out) HS2.out.canon HS1.out.canon).mono ?_
  rintro e w5 ⟨rfl, hb5⟩
  have HB5 := Lib.hid (HB4.out.trans (hb5.mono HB4.out.size))
  clear hb5
  rw [cmp_sgn_nn (by decide) HS1.out HS2.out]
  go_wp2_with fail
  go_ret
  exact CmpPost.mk rfl HB5.out
set_option maxRecDepth 100000 in
set_option maxHeartbeats 800000 in
theorem cmp_tf (u1 : Value) (xs : List Int) (z1 : Int) (u2 : Value) (ys : List Int) (z2 : Int) (w : World) (hr1 : Rd w u1 xs) (hr2 : Rd w u2 ys) (hs1 : Sgn B18 true xs z1) (hs2 : Sgn B18 false ys z2) (hl1 : xs.length ≤ 30) (hl2 : ys.length ≤ 30) :
    Calls Tryz.prog 27 #[.agg #[.bool true, u1], .agg #[.bool false, u2]] w (CmpPost w (cmpI z1 z2)) := by
  have HR1 := Lib.hid hr1
  have HR2 := Lib.hid hr2
  obtain ⟨p1, c1, rfl, _, _, _⟩ := rd_form hr1
  obtain ⟨p2, c2, rfl, _, _, _⟩ := rd_form hr2
  have HS1 := Lib.hid hs1
  have HS2 := Lib.hid hs2
  clear hr1 hr2 hs1 hs2
  go_enter Tryz.func27, Tryz.ntmps27
  go_wp2_with fail
  generalize hw2 : World.alloc (World.alloc w _) _ = w2
  have hbx : Bx2c w2 w.heap.size true (.slice p1 xs.length c1) false (.slice p2 ys.length c2) := by
    rw [← hw2]
    refine ⟨alloc_cell (by simp) _, alloc_cell (by simp) _, ?_, ?_⟩ <;> simp
  have HB2 := Lib.hid (show Below w.heap.size w w2 by rw [← hw2]; exact ((Below.refl _ _).alloc (Nat.le_refl _) _).alloc (by simp) _)
  clear hw2
  have HX2 := Lib.hid hbx
  have q0 := hbx.x0
  have q1 := hbx.x1
  have q2 := hbx.y0
  have q3 := hbx.y1
  refine (good_yes _ _ xs z1 w2 (HR1.out.keep HB2.out) HS1.out hl1).mono ?_
  rintro e w3 ⟨rfl, hb3⟩
  have HX3 := Lib.hid (HX2.out.keep hb3)
  have HB3 := Lib.hid (HB2.out.trans (hb3.mono HB2.out.size))
  have t0 := HX3.out.x0
  have t1 := HX3.out.x1
  have t2 := HX3.out.y0
  have t3 := HX3.out.y1
  clear q0 q1 q2 q3 hb3 hbx HX2 HB2
  go_wp2_with fail
  refine (good_yes _ _ ys z2 w3 (HR2.out.keep HB3.out) HS2.out hl2).mono ?_
  rintro e w4 ⟨rfl, hb4⟩
  have HX4 := Lib.hid (HX3.out.keep hb4)
  have HB4 := Lib.hid (HB3.out.trans (hb4.mono HB3.out.size))
  have s0 := HX4.out.x0
  have s1 := HX4.out.x1
  have s2 := HX4.out.y0
  have s3 := HX4.out.y1
  clear t0 t1 t2 t3 hb4 HX3 HB3
  go_wp2_with fail
  go_ret
  exact CmpPost.mk (cmp_sgn_np (by decide) HS1.out HS2.out) HB4.out
set_option maxRecDepth 100000 in
set_option maxHeartbeats 800000 in
theorem cmp_ft (u1 : Value) (xs : List Int) (z1 : Int) (u2 : Value) (ys : List Int) (z2 : Int) (w : World) (hr1 : Rd w u1 xs) (hr2 : Rd w u2 ys) (hs1 : Sgn B18 false xs z1) (hs2 : Sgn B18 true ys z2) (hl1 : xs.length ≤ 30) (hl2 : ys.length ≤ 30) :
    Calls Tryz.prog 27 #[.agg #[.bool false, u1], .agg #[.bool true, u2]] w (CmpPost w (cmpI z1 z2)) := by
  have HR1 := Lib.hid hr1
  have HR2 := Lib.hid hr2
  obtain ⟨p1, c1, rfl, _, _, _⟩ := rd_form hr1
  obtain ⟨p2, c2, rfl, _, _, _⟩ := rd_form hr2
  have HS1 := Lib.hid hs1
  have HS2 := Lib.hid hs2
  clear hr1 hr2 hs1 hs2
  go_enter Tryz.func27, Tryz.ntmps27
  go_wp2_with fail
  generalize hw2 : World.alloc (World.alloc w _) _ = w2
  have hbx : Bx2c w2 w.heap.size false (.slice p1 xs.length c1) true (.slice p2 ys.length c2) := by
    rw [← hw2]
    refine ⟨alloc_cell (by simp) _, alloc_cell (by simp) _, ?_, ?_⟩ <;> simp
  have HB2 := Lib.hid (show Below w.heap.size w w2 by rw [← hw2]; exact ((Below.refl _ _).alloc (Nat.le_refl _) _).alloc (by simp) _)
  clear hw2
  have HX2 := Lib.hid hbx
  have q0 := hbx.x0
  have q1 := hbx.x1
  have q2 := hbx.y0
  have q3 := hbx.y1
  refine (good_yes _ _ xs z1 w2 (HR1.out.keep HB2.out) HS1.out hl1).mono ?_
  rintro e w3 ⟨rfl, hb3⟩
  have HX3 := Lib.hid (HX2.out.keep hb3)
  have HB3 := Lib.hid (HB2.out.trans (hb3.mono HB2.out.size))
  have t0 := HX3.out.x0
  have t1 := HX3.out.x1
  have t2 := HX3.out.y0
  have t3 := HX3.out.y1
  clear q0 q1 q2 q3 hb3 hbx HX2 HB2
  go_wp2_with fail
  refine (good_yes _ _ ys z2 w3 (HR2.out.keep HB3.out) HS2.out hl2).mono ?_
  rintro e w4 ⟨rfl, hb4⟩
  have HX4 := Lib.hid (HX3.out.keep hb4)
  have HB4 := Lib.hid (HB3.out.trans (hb4.mono HB3.out.size))
  have s0 := HX4.out.x0
  have s1 := HX4.out.x1
  have s2 := HX4.out.y0
  have s3 := HX4.out.y1
  clear t0 t1 t2 t3 hb4 HX3 HB3
  go_wp2_with fail
  go_ret
  exact CmpPost.mk (cmp_sgn_pn (by decide) HS1.out HS2.out) HB4.out
set_option maxRecDepth 100000 in
set_option maxHeartbeats 800000 in
theorem cmp_ff (u1 : Value) (xs : List Int) (z1 : Int) (u2 : Value) (ys : List Int) (z2 : Int) (w : World) (hr1 : Rd w u1 xs) (hr2 : Rd w u2 ys) (hs1 : Sgn B18 false xs z1) (hs2 : Sgn B18 false ys z2) (hl1 : xs.length ≤ 30) (hl2 : ys.length ≤ 30) :
    Calls Tryz.prog 27 #[.agg #[.bool false, u1], .agg #[.bool false, u2]] w (CmpPost w (cmpI z1 z2)) := by
  have HR1 := Lib.hid hr1
  have HR2 := Lib.hid hr2
  obtain ⟨p1, c1, rfl, _, _, _⟩ := rd_form hr1
  obtain ⟨p2, c2, rfl, _, _, _⟩ := rd_form hr2
  have HS1 := Lib.hid hs1
  have HS2 := Lib.hid hs2
  clear hr1 hr2 hs1 hs2
  go_enter Tryz.func27, Tryz.ntmps27
  go_wp2_with fail
  generalize hw2 : World.alloc (World.alloc w _) _ = w2
  have hbx : Bx2c w2 w.heap.size false (.slice p1 xs.length c1) false (.slice p2 ys.length c2) := by
    rw [← hw2]
    refine ⟨alloc_cell (by simp) _, alloc_cell (by simp) _, ?_, ?_⟩ <;> simp
  have HB2 := Lib.hid (show Below w.heap.size w w2 by rw [← hw2]; exact ((Below.refl _ _).alloc (Nat.le_refl _) _).alloc (by simp) _)
  clear hw2
  have HX2 := Lib.hid hbx
  have q0 := hbx.x0
  have q1 := hbx.x1
  have q2 := hbx.y0
  have q3 := hbx.y1
  refine (good_yes _ _ xs z1 w2 (HR1.out.keep HB2.out) HS1.out hl1).mono ?_
  rintro e w3 ⟨rfl, hb3⟩
  have HX3 := Lib.hid (HX2.out.keep hb3)
  have HB3 := Lib.hid (HB2.out.trans (hb3.mono HB2.out.size))
  have t0 := HX3.out.x0
  have t1 := HX3.out.x1
  have t2 := HX3.out.y0
  have t3 := HX3.out.y1
  clear q0 q1 q2 q3 hb3 hbx HX2 HB2
  go_wp2_with fail
  refine (good_yes _ _ ys z2 w3 (HR2.out.keep HB3.out) HS2.out hl2).mono ?_
  rintro e w4 ⟨rfl, hb4⟩
  have HX4 := Lib.hid (HX3.out.keep hb4)
  have HB4 := Lib.hid (HB3.out.trans (hb4.mono HB3.out.size))
  have s0 := HX4.out.x0
  have s1 := HX4.out.x1
  have s2 := HX4.out.y0
  have s3 := HX4.out.y1
  clear t0 t1 t2 t3 hb4 HX3 HB3
  go_wp2_with fail
  refine (cmpSizes_any _ _ xs ys w4 (HR1.out.keep HB4.out) (HR2.out.keep HB4.out) HS1.out.canon HS2.out.canon).mono ?_
  rintro e w5 ⟨rfl, hb5⟩
  have HB5 := Lib.hid (HB4.out.trans (hb5.mono HB4.out.size))
  clear hb5
  rw [cmp_sgn_pp (by decide) HS1.out HS2.out]
  go_wp2_with fail
  go_ret
  exact CmpPost.mk rfl HB5.out
theorem cmp_good (n1 : Bool) (u1 : Value) (xs : List Int) (z1 : Int) (n2 : Bool) (u2 : Value) (ys : List Int) (z2 : Int) (w : World) (hr1 : Rd w u1 xs) (hr2 : Rd w u2 ys) (hs1 : Sgn B18 n1 xs z1) (hs2 : Sgn B18 n2 ys z2) (hl1 : xs.length ≤ 30) (hl2 : ys.length ≤ 30) :
    Calls Tryz.prog 27 #[.agg #[.bool n1, u1], .agg #[.bool n2, u2]] w (CmpPost w (cmpI z1 z2)) := by
  cases n1 <;> cases n2
  · exact cmp_ff u1 xs z1 u2 ys z2 w hr1 hr2 hs1 hs2 hl1 hl2
  · exact cmp_ft u1 xs z1 u2 ys z2 w hr1 hr2 hs1 hs2 hl1 hl2
  · exact cmp_tf u1 xs z1 u2 ys z2 w hr1 hr2 hs1 hs2 hl1 hl2
  · exact cmp_tt u1 xs z1 u2 ys z2 w hr1 hr2 hs1 hs2 hl1 hl2
end
end Go.Proofs.YtpebnofjcodikaaGreatDoor
