/- Layer 2: answers over a world that stays fixed; what a result that may be too great says. Layer 2: numbers of the reference in boxes: what a store into a box leaves, and ref.Of over a fixed world. Layer 2: more on numbers of the reference in boxes: sums, turned numbers, what 'is' answers. -/
import Derived.Test.YtnfemojgecljiaaGreatDoorPWLawHelp
import Derived.Test.YtnfemojgecljiaaGreatDoorPGWc
import Derived.Test.YtnfemojgecljiaaGreatDoorPGWf
import Derived.Test.YtnfemojgecljiaaGreatDoorPWRefAdd
namespace Go.Proofs.YtnfemojgecljiaaGreatDoor
section
open Go.ChangeShapes Go.WideShapes Go.ChangeAt Go.RowKit
set_option linter.unusedVariables false
set_option linter.unusedSimpArgs false
/-- What a result that may be too great says: the number, or that there is none. -/
def ResCase (z : Int) (neg : Bool) (ws : List Int) (er : Int) : Prop := (Small z ∧ er = 0 ∧ Sgn B18 neg ws z) ∨ (¬ Small z ∧ er = 7 ∧ neg = false ∧ ws = [])
/-- A call's answer, over a world that stays fixed. -/
def At (W : World) (v : Value) (e : Ending) (w' : World) : Prop := e = .returned v ∧ Below W.heap.size W w'
theorem drew_cellA {W : World} {a : Addr} {v : Value} (h : W.cell? a = some v) : W.drew.cell? a = some v := h
theorem ResCase.uniq {z : Int} {n1 n2 : Bool} {xs ys : List Int} {e1 e2 : Int} (h : ResCase z n1 xs e1) (g : ResCase z n2 ys e2) : n1 = n2 ∧ xs = ys ∧ e1 = e2 := by
  rcases h with ⟨a, rfl, c⟩ | ⟨a, rfl, rfl, rfl⟩ <;> rcases g with ⟨a', rfl, c'⟩ | ⟨a', rfl, rfl, rfl⟩
  · exact ⟨(c.uniq (by decide) c').1, (c.uniq (by decide) c').2, rfl⟩
  · exact absurd a a'
  · exact absurd a' a
  · exact ⟨rfl, rfl, rfl⟩
theorem ResCase.len17 {z : Int} {neg : Bool} {ws : List Int} {er : Int} (h : ResCase z neg ws er) : ws.length ≤ 17592186043904 := by
  rcases h with ⟨h1, _, h3⟩ | ⟨_, _, _, rfl⟩
  · have := h3.small.2 h1; omega
  · simp
theorem ResCase.sgn {z : Int} {neg : Bool} {ws : List Int} {er : Int} (h : ResCase z neg ws er) : Sgn B18 neg ws (sg neg (val B18 ws)) ∧ ws.length ≤ 30 := by
  rcases h with ⟨h1, _, h3⟩ | ⟨_, _, rfl, rfl⟩
  · exact ⟨by have := h3.eq; rwa [this] at h3, h3.small.2 h1⟩
  · exact ⟨Sgn.zero (by decide), by simp⟩
theorem ResCase.er {z : Int} {neg : Bool} {ws : List Int} {er : Int} (h : ResCase z neg ws er) : er = 0 ∨ er = 7 := by
  rcases h with ⟨_, h, _⟩ | ⟨_, h, _⟩
  · exact .inl h
  · exact .inr h
theorem ResCase.ok {z : Int} {neg : Bool} {ws : List Int} (h : ResCase z neg ws 0) : Sgn B18 neg ws z := by
  rcases h with ⟨_, _, h⟩ | ⟨_, h, _⟩
  · exact h
  · cases h
theorem ResCase.er0 {z : Int} {neg : Bool} {ws : List Int} {er : Int} (h : ResCase z neg ws er) (hs : Small z) : er = 0 := by
  rcases h with ⟨_, h, _⟩ | ⟨h, _⟩
  · exact h
  · exact absurd hs h
theorem ResCase.er7 {z : Int} {neg : Bool} {ws : List Int} {er : Int} (h : ResCase z neg ws er) (hs : ¬ Small z) : er = 7 := by
  rcases h with ⟨h, _⟩ | ⟨_, h, _⟩
  · exact absurd h hs
  · exact h
theorem back_same {z2 : Int} {n n1 : Bool} {ws xs : List Int} {er : Int} (h : ResCase (sg n1 (val B18 xs) + z2 - z2) n ws er) (s : Sgn B18 n1 xs (sg n1 (val B18 xs))) (hl : xs.length ≤ 30) : n1 = n ∧ xs = ws ∧ 0 = er := by
  rw [Int.add_sub_cancel] at h
  exact ResCase.uniq (.inl ⟨s.small.1 hl, rfl, s⟩) h
theorem same_self (n : Bool) (u1 u2 : Value) (ws : List Int) (w : World) (h1 : Rd w u1 ws) (h2 : Rd w u2 ws) :
    Calls Tryz.prog 34 #[.agg #[.bool n, u1], .agg #[.bool n, u2]] w (BoolPost w true) := by
  have h := same_any n n u1 u2 ws ws w h1 h2
  rwa [show sameB n ws n ws = true by simp [sameB]] at h
theorem same_yes (n1 n2 : Bool) (u1 u2 : Value) (xs ys : List Int) (z : Int) (w : World) (h1 : Rd w u1 xs) (h2 : Rd w u2 ys) (s1 : Sgn B18 n1 xs z) (s2 : Sgn B18 n2 ys z) :
    Calls Tryz.prog 34 #[.agg #[.bool n1, u1], .agg #[.bool n2, u2]] w (BoolPost w true) := by
  have h := same_any n1 n2 u1 u2 xs ys w h1 h2
  rwa [s1.same (by decide) s2] at h
theorem refgood_at {W wx : World} {n1 : Bool} {u1 : Value} {xs : List Int} {b : Bool} (hr : Rd W u1 xs) (hf : Fit xs) (hg : goodB n1 xs = b) (hx : Below W.heap.size W wx) :
    Calls Tryz.prog 40 #[.agg #[.bool n1, u1]] wx (At W (.bool b)) := by
  refine (refgood_any n1 u1 xs wx (hr.keep hx) hf).mono ?_
  rintro e w' ⟨rfl, hb⟩
  rw [hg]
  exact ⟨rfl, hx.trans (hb.mono hx.size)⟩
theorem good_at {W wx : World} {n1 : Bool} {u1 : Value} {xs : List Int} {b : Bool} (hr : Rd W u1 xs) (hf : Fit xs) (hg : goodB n1 xs = b) (hx : Below W.heap.size W wx) :
    Calls Tryz.prog 50 #[.agg #[.bool n1, u1]] wx (At W (.bool b)) := by
  refine (good_any n1 u1 xs wx (hr.keep hx) hf).mono ?_
  rintro e w' ⟨rfl, hb⟩
  rw [hg]
  exact ⟨rfl, hx.trans (hb.mono hx.size)⟩
end
section
section
open Go.ChangeShapes Go.WideShapes Go.ChangeAt Go.RowKit
set_option linter.unusedVariables false
set_option linter.unusedSimpArgs false
/-- A box holds a bool and a slice, a row of bytes holds bytes: a store into the box leaves the row. -/
theorem Rb.set2 {w : World} {B : Nat} {a : Bool} {p : Option Addr} {n c : Nat} {v : Value} {ws : List Int} (h : Rb w v ws) (hb : Box2 w B (.bool a) (.slice p n c)) (x y : Value) : Rb ((w.setCell ⟨B, 0, none⟩ x).setCell ⟨B, 1, none⟩ y) v ws := by
  rcases h with h | ⟨b, off, cc, rfl, h1, h2, h3⟩
  · exact .inl h
  · refine .inr ⟨b, off, cc, rfl, h1, h2, fun i hi => ?_⟩
    have h4 := h3 i hi
    have e0 : (⟨B, 0, none⟩ : Addr) ≠ ⟨b, off + i, none⟩ := fun e => by rw [← e, hb.c0] at h4; simp at h4
    have e1 : (⟨B, 1, none⟩ : Addr) ≠ ⟨b, off + i, none⟩ := fun e => by rw [← e, hb.c1] at h4; simp at h4
    exact (World.cell?_setCell_other _ _ _ _ e1).trans ((World.cell?_setCell_other _ _ _ _ e0).trans h4)
def NumAt (W wx : World) (z : Int) (e : Ending) (w' : World) : Prop :=
  ∃ m p c ds, e = .returned (.agg #[.bool m, .slice p ds.length c]) ∧ Rb w' (.slice p ds.length c) ds ∧ Sgn 10 m ds z ∧ Below W.heap.size W w' ∧ Below wx.heap.size wx w'
theorem of_at {W : World} {n1 : Bool} {u1 : Value} {xs : List Int} {z : Int} (hr : Rd W u1 xs) (hs : Sgn B18 n1 xs z) (hl : xs.length ≤ 100) (wx : World) (hx : Below W.heap.size W wx) :
    Calls Tryz.prog 94 #[.agg #[.bool n1, u1]] wx (NumAt W wx z) := by
  refine (of_any n1 u1 xs z wx (hr.keep hx) hs hl).mono ?_
  rintro e w' ⟨m, u, ds, rfl, hb, hS, hB⟩
  obtain ⟨p, c, rfl, _, _, _⟩ := rb_form hb
  exact ⟨m, p, c, ds, rfl, hb, hS, hx.trans (hB.mono hx.size), hB⟩
/-- Two numbers in boxes of their own. -/
structure NN (W wx : World) (b1 b2 : Nat) (m1 : Bool) (p1 : Option Addr) (c1 : Nat) (d1 : List Int) (m2 : Bool) (p2 : Option Addr) (c2 : Nat) (d2 : List Int) (z1 z2 : Int) : Prop where
  below : Below W.heap.size W wx
  x1 : Box2 wx b1 (.bool m1) (.slice p1 d1.length c1)
  x2 : Box2 wx b2 (.bool m2) (.slice p2 d2.length c2)
  r1 : Rb wx (.slice p1 d1.length c1) d1
  r2 : Rb wx (.slice p2 d2.length c2) d2
  s1 : Sgn 10 m1 d1 z1
  s2 : Sgn 10 m2 d2 z2
  l1 : W.heap.size ≤ b1
  l2 : W.heap.size ≤ b2
  ne : b1 ≠ b2
end
section
open Go.ChangeShapes Go.WideShapes Go.ChangeAt Go.RowKit
set_option linter.unusedVariables false
set_option linter.unusedSimpArgs false
theorem Rb.alloc {w : World} {v : Value} {ws : List Int} (h : Rb w v ws) (o : Obj) : Rb (w.alloc o) v ws := h.keep ((Below.refl _ _).alloc (Nat.le_refl _) o)
theorem Rb.drew {w : World} {v : Value} {ws : List Int} (h : Rb w v ws) : Rb w.drew v ws := h
theorem Rb.put2 {w : World} {B : Nat} {v : Value} {ws : List Int} (hb : Box2 w B (.bool false) (.slice none 0 0)) (x y : Value) (h : Rb w v ws) : Rb ((w.setCell ⟨B, 0, none⟩ x).setCell ⟨B, 1, none⟩ y) v ws := h.set2 hb x y
theorem plus_at {W wx : World} {n1 : Bool} {u1 : Value} {xs : List Int} {z1 : Int} {n2 : Bool} {u2 : Value} {ys : List Int} {z2 : Int} (hr1 : Rb wx u1 xs) (hr2 : Rb wx u2 ys) (hs1 : Sgn 10 n1 xs z1) (hs2 : Sgn 10 n2 ys z2) (hl1 : xs.length ≤ 100000) (hl2 : ys.length ≤ 100000) (hx : Below W.heap.size W wx) :
    Calls Tryz.prog 124 #[.agg #[.bool n1, u1], .agg #[.bool n2, u2]] wx (NumAt W wx (z1 + z2)) := by
  refine (refplus_any n1 u1 xs z1 n2 u2 ys z2 wx hr1 hr2 hs1 hs2 hl1 hl2).mono ?_
  rintro e w' ⟨m, u, ds, rfl, hb, hS, hB⟩
  obtain ⟨p, c, rfl, _, _, _⟩ := rb_form hb
  exact ⟨m, p, c, ds, rfl, hb, hS, hx.trans (hB.mono hx.size), hB⟩
theorem Small.len {m : Bool} {ds : List Int} {z : Int} (h : Small z) (s : Sgn 10 m ds z) : ds.length ≤ 540 := s.fits.2 h
theorem sum_len {m : Bool} {ds : List Int} {z1 z2 : Int} (h1 : Small z1) (h2 : Small z2) (s : Sgn 10 m ds (z1 + z2)) : ds.length ≤ 541 := by
  rw [s.len (by decide), Int.pow_succ]
  have a := h1.lt
  have b := h2.lt
  generalize (10 : Int) ^ 540 = P at a b
  omega
theorem sgn_small {n : Bool} {xs : List Int} (h : Sgn B18 n xs (sg n (val B18 xs))) (hl : xs.length ≤ 30) : Small (sg n (val B18 xs)) := h.small.1 hl
/-- What 'fits' answers. -/
def fitN (ds : List Int) : Int := if (ds.length : Int) ≤ 540 then 0 else 7
theorem cmp_at {W wx : World} {n1 : Bool} {u1 : Value} {xs : List Int} {z1 : Int} {n2 : Bool} {u2 : Value} {ys : List Int} {z2 : Int} (hr1 : Rd W u1 xs) (hr2 : Rd W u2 ys) (hs1 : Sgn B18 n1 xs z1) (hs2 : Sgn B18 n2 ys z2) (hl1 : xs.length ≤ 30) (hl2 : ys.length ≤ 30) (hx : Below W.heap.size W wx) :
    Calls Tryz.prog 30 #[.agg #[.bool n1, u1], .agg #[.bool n2, u2]] wx (At W (.int .i64 (cmpI z1 z2))) := by
  refine (cmp_good n1 u1 xs z1 n2 u2 ys z2 wx (hr1.keep hx) (hr2.keep hx) hs1 hs2 hl1 hl2).mono ?_
  rintro e w' ⟨rfl, hb⟩
  exact ⟨rfl, hx.trans (hb.mono hx.size)⟩
theorem refcmp_at {W wx : World} {n1 : Bool} {u1 : Value} {xs : List Int} {z1 : Int} {n2 : Bool} {u2 : Value} {ys : List Int} {z2 : Int} (hr1 : Rb W u1 xs) (hr2 : Rb W u2 ys) (hs1 : Sgn 10 n1 xs z1) (hs2 : Sgn 10 n2 ys z2) (hx : Below W.heap.size W wx) :
    Calls Tryz.prog 58 #[.agg #[.bool n1, u1], .agg #[.bool n2, u2]] wx (At W (.int .i64 (cmpI z1 z2))) := by
  refine (refcmp_any n1 u1 xs z1 n2 u2 ys z2 wx (hr1.keep hx) (hr2.keep hx) hs1 hs2).mono ?_
  rintro e w' ⟨rfl, hb⟩
  exact ⟨rfl, hx.trans (hb.mono hx.size)⟩
/-- A big number of one's own, over a world that stays fixed. -/
def BigAt (W wx : World) (z : Int) (e : Ending) (w' : World) : Prop :=
  ∃ n p c ws, e = .returned (.agg #[.bool n, .slice p (List.length ws) c]) ∧ Rd w' (.slice p ws.length c) ws ∧ Sgn B18 n ws z ∧ Below W.heap.size W w' ∧ Below wx.heap.size wx w'
theorem neg_at {W wx : World} {n1 : Bool} {u1 : Value} {xs : List Int} {z1 : Int} (hr1 : Rd W u1 xs) (hs1 : Sgn B18 n1 xs z1) (hl1 : xs.length ≤ 30) (hx : Below W.heap.size W wx) :
    Calls Tryz.prog 102 #[.agg #[.bool n1, u1]] wx (BigAt W wx (-z1)) := by
  refine (neg_good n1 u1 xs z1 wx (hr1.keep hx) hs1 hl1).mono ?_
  rintro e w' ⟨n, u, ws, rfl, hM, hS, hB⟩
  obtain ⟨p, c, rfl⟩ := MU.form hM
  have hlen : ws.length ≤ 30 := hS.small.2 (hs1.small.1 hl1).neg
  exact ⟨n, p, c, ws, rfl, hM.rd (by omega), hS, hx.trans (hB.mono hx.size), hB⟩
theorem to_at {W wx : World} {n1 : Bool} {u1 : Value} {ds : List Int} {z1 : Int} (hr1 : Rb wx u1 ds) (hs1 : Sgn 10 n1 ds z1) (hl1 : ds.length ≤ 540) (hx : Below W.heap.size W wx) :
    Calls Tryz.prog 45 #[.agg #[.bool n1, u1]] wx (BigAt W wx z1) := by
  refine (to_any n1 u1 ds z1 wx hr1 hs1 (by omega)).mono ?_
  rintro e w' ⟨n, u, ws, rfl, hM, hS, hB⟩
  obtain ⟨p, c, rfl⟩ := MU.form hM
  have hlen : ws.length ≤ 30 := hS.small.2 (hs1.fits.1 hl1)
  exact ⟨n, p, c, ws, rfl, hM.rd (by omega), hS, hx.trans (hB.mono hx.size), hB⟩
theorem same_at {W wx : World} {n1 n2 : Bool} {u1 u2 : Value} {xs ys : List Int} {z : Int} (h1 : Rd wx u1 xs) (h2 : Rd wx u2 ys) (s1 : Sgn B18 n1 xs z) (s2 : Sgn B18 n2 ys z) (hx : Below W.heap.size W wx) :
    Calls Tryz.prog 34 #[.agg #[.bool n1, u1], .agg #[.bool n2, u2]] wx (At W (.bool true)) := by
  refine (same_any n1 n2 u1 u2 xs ys wx h1 h2).mono ?_
  rintro e w' ⟨rfl, hb⟩
  rw [s1.same (by decide) s2]
  exact ⟨rfl, hx.trans (hb.mono hx.size)⟩
end
end
end Go.Proofs.YtnfemojgecljiaaGreatDoor
