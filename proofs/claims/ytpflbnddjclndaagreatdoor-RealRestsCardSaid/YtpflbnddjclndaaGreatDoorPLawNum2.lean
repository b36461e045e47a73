/- Layer 2: answers over a world that stays fixed; what a result that may be too great says. Layer 2: numbers of the reference in boxes: what a store into a box leaves, and ref.Of over a fixed world. Layer 2: more on numbers of the reference in boxes: sums, turned numbers, what 'is' answers. -/
import Derived.Test.YtpflbnddjclndaaGreatDoorPWLawHelp
import Derived.Test.YtpflbnddjclndaaGreatDoorPGWc
import Derived.Test.YtpflbnddjclndaaGreatDoorPGWf
import Derived.Test.YtpflbnddjclndaaGreatDoorPWRefAdd
namespace Go.Proofs.YtpflbnddjclndaaGreatDoor
section
open Go.ChangeShapes Go.WideShapes Go.ChangeAt Go.RowKit
set_option linter.unusedVariables false
set_option linter.unusedSimpArgs false
/-- What a result that may be too great says: the number, or that there is none. -/
def ResCase (z : Int) (neg : Bool) (ws : List Int) (er : Int) : Prop := (Small z ∧ er = 0 ∧ Sgn B18 neg ws z) ∨ (¬ Small z ∧ er = 7 ∧ neg = false ∧ ws = [])
/-- A call's answer, over a world that stays fixed. -/
def At (W : World) (v : Value) (e : Ending) (w' : World) : Prop := e = .returned v ∧ Below W.heap.size W w'
theorem drew_cellA {W : World} {a : Addr} {v : Value} (h : W.cell? a = some v) : W.drew.cell? a = some v := h
theorem ResCase.uniq {z : Int} {n1 n2 : Bool} {xs ys : List Int} {e1 e2 : Int} (h : ResCase z n1 xs e1) (g : ResCase z n2 ys e2) : n1 = n2 ∧ xs = ys ∧ e1 = e2 := by
  rcases h with ⟨a, rfl, c⟩ | ⟨a, rfl, rfl, rfl⟩ <;> rcases g with ⟨a', rfl, c'⟩ | ⟨a', rfl, rfl, rfl⟩
  · exact ⟨(c.uniq (by decide) c').1, (c.uniq (by decide) c').2, rfl⟩
  · exact absurd a a'
  · exact absurd a' a
  · exact ⟨rfl, rfl, rfl⟩
theorem ResCase.len17 {z : Int} {neg : Bool} {ws : List Int} {er : Int} (h : ResCase z neg ws er) : ws.length ≤ 17592186043904 := by
  rcases h with ⟨h1, _, h3⟩ | ⟨_, _, _, rfl⟩
  · have := h3.small.2 h1; omega
  · simp
theorem ResCase.sgn {z : Int} {neg : Bool} {ws : List Int} {er : Int} (h : ResCase z neg ws er) : Sgn B18 neg ws (sg neg (val B18 ws)) ∧ ws.length ≤ 30 := by
  rcases h with ⟨h1, _, h3⟩ | ⟨_, _, rfl, rfl⟩
  · exact ⟨by have := h3.eq; rwa [this] at h3, h3.small.2 h1⟩
  · exact ⟨Sgn.zero (by decide), by simp⟩
theorem ResCase.er {z : Int} {neg : Bool} {ws : List Int} {er : Int} (h : ResCase z neg ws er) : er = 0 ∨ er = 7 := by
  rcases h with ⟨_, h, _⟩ | ⟨_, h, _⟩
  · exact .inl h
  · exact .inr h
theorem ResCase.ok {z : Int} {neg : Bool} {ws : List Int} (h : ResCase z neg ws 0) : Sgn B18 neg ws z := by
  rcases h with ⟨_, _, h⟩ | ⟨_, h, _⟩
  · exact h
  · cases h
theorem ResCase.er0 {z : Int} {neg : Bool} {ws : List Int} {er : Int} (h : ResCase z neg ws er) (hs : Small z) : er = 0 := by
  rcases h with ⟨_, h, _⟩ | ⟨h, _⟩
  · exact h
  · exact absurd hs h
theorem ResCase.er7 {z : Int} {neg : Bool} {ws : List Int} {er : Int} (h : ResCase z neg ws er) (hs : ¬ Small z) : er = 7 := by
  rcases h with ⟨h, _⟩ | ⟨_, h, _⟩
  · exact absurd h hs
  · exact h
theorem back_same {z2 : Int} {n n1 : Bool} {ws xs : List Int} {er : Int} (h : ResCase (sg n1 (val B18 xs) + z2 - z2) n ws er) (s : Sgn B18 n1 xs (sg n1 (val B18 xs))) (hl : xs.length ≤ 30) : n1 = n ∧ xs = ws ∧ 0 = er := by
  rw [Int.add_sub_cancel] at h
  exact ResCase.uniq (.inl ⟨s.small.1 hl, rfl, s⟩) h
theorem good_at {W wx : World} {n1 : Bool} {u1 : Value} {xs : List Int} {b : Bool} (hr : Rd W u1 xs) (hf : Fit xs) (hg : goodB n1 xs = b) (hx : Below W.heap.size W wx) :
    Calls Tryz.prog 28 #[.agg #[.bool n1, u1]] wx (At W (.bool b)) := by
  refine (good_any n1 u1 xs wx (hr.keep hx) hf).mono ?_
  rintro e w' ⟨rfl, hb⟩
  rw [hg]
  exact ⟨rfl, hx.trans (hb.mono hx.size)⟩
end
section
section
open Go.ChangeShapes Go.WideShapes Go.ChangeAt Go.RowKit
set_option linter.unusedVariables false
set_option linter.unusedSimpArgs false
/-- A box holds a bool and a slice, a row of bytes holds bytes: a store into the box leaves the row. -/
theorem Rb.set2 {w : World} {B : Nat} {a : Bool} {p : Option Addr} {n c : Nat} {v : Value} {ws : List Int} (h : Rb w v ws) (hb : Box2 w B (.bool a) (.slice p n c)) (x y : Value) : Rb ((w.setCell ⟨B, 0, none⟩ x).setCell ⟨B, 1, none⟩ y) v ws := by
  rcases h with h | ⟨b, off, cc, rfl, h1, h2, h3⟩
  · exact .inl h
  · refine .inr ⟨b, off, cc, rfl, h1, h2, fun i hi => ?_⟩
    have h4 := h3 i hi
    have e0 : (⟨B, 0, none⟩ : Addr) ≠ ⟨b, off + i, none⟩ := fun e => by rw [← e, hb.c0] at h4; simp at h4
    have e1 : (⟨B, 1, none⟩ : Addr) ≠ ⟨b, off + i, none⟩ := fun e => by rw [← e, hb.c1] at h4; simp at h4
    exact (World.cell?_setCell_other _ _ _ _ e1).trans ((World.cell?_setCell_other _ _ _ _ e0).trans h4)
def NumAt (W wx : World) (z : Int) (e : Ending) (w' : World) : Prop :=
  ∃ m p c ds, e = .returned (.agg #[.bool m, .slice p ds.length c]) ∧ Rb w' (.slice p ds.length c) ds ∧ Sgn 10 m ds z ∧ Below W.heap.size W w' ∧ Below wx.heap.size wx w'
/-- Two numbers in boxes of their own. -/
structure NN (W wx : World) (b1 b2 : Nat) (m1 : Bool) (p1 : Option Addr) (c1 : Nat) (d1 : List Int) (m2 : Bool) (p2 : Option Addr) (c2 : Nat) (d2 : List Int) (z1 z2 : Int) : Prop where
  below : Below W.heap.size W wx
  x1 : Box2 wx b1 (.bool m1) (.slice p1 d1.length c1)
  x2 : Box2 wx b2 (.bool m2) (.slice p2 d2.length c2)
  r1 : Rb wx (.slice p1 d1.length c1) d1
  r2 : Rb wx (.slice p2 d2.length c2) d2
  s1 : Sgn 10 m1 d1 z1
  s2 : Sgn 10 m2 d2 z2
  l1 : W.heap.size ≤ b1
  l2 : W.heap.size ≤ b2
  ne : b1 ≠ b2
end
section
open Go.ChangeShapes Go.WideShapes Go.ChangeAt Go.RowKit
set_option linter.unusedVariables false
set_option linter.unusedSimpArgs false
theorem Rb.alloc {w : World} {v : Value} {ws : List Int} (h : Rb w v ws) (o : Obj) : Rb (w.alloc o) v ws := h.keep ((Below.refl _ _).alloc (Nat.le_refl _) o)
theorem Rb.drew {w : World} {v : Value} {ws : List Int} (h : Rb w v ws) : Rb w.drew v ws := h
theorem Rb.put2 {w : World} {B : Nat} {v : Value} {ws : List Int} (hb : Box2 w B (.bool false) (.slice none 0 0)) (x y : Value) (h : Rb w v ws) : Rb ((w.setCell ⟨B, 0, none⟩ x).setCell ⟨B, 1, none⟩ y) v ws := h.set2 hb x y
theorem Small.len {m : Bool} {ds : List Int} {z : Int} (h : Small z) (s : Sgn 10 m ds z) : ds.length ≤ 540 := s.fits.2 h
theorem sum_len {m : Bool} {ds : List Int} {z1 z2 : Int} (h1 : Small z1) (h2 : Small z2) (s : Sgn 10 m ds (z1 + z2)) : ds.length ≤ 541 := by
  rw [s.len (by decide), Int.pow_succ]
  have a := h1.lt
  have b := h2.lt
  generalize (10 : Int) ^ 540 = P at a b
  omega
theorem sgn_small {n : Bool} {xs : List Int} (h : Sgn B18 n xs (sg n (val B18 xs))) (hl : xs.length ≤ 30) : Small (sg n (val B18 xs)) := h.small.1 hl
/-- What 'fits' answers. -/
def fitN (ds : List Int) : Int := if (ds.length : Int) ≤ 540 then 0 else 7
theorem cmp_at {W wx : World} {n1 : Bool} {u1 : Value} {xs : List Int} {z1 : Int} {n2 : Bool} {u2 : Value} {ys : List Int} {z2 : Int} (hr1 : Rd W u1 xs) (hr2 : Rd W u2 ys) (hs1 : Sgn B18 n1 xs z1) (hs2 : Sgn B18 n2 ys z2) (hl1 : xs.length ≤ 30) (hl2 : ys.length ≤ 30) (hx : Below W.heap.size W wx) :
    Calls Tryz.prog 29 #[.agg #[.bool n1, u1], .agg #[.bool n2, u2]] wx (At W (.int .i64 (cmpI z1 z2))) := by
  refine (cmp_good n1 u1 xs z1 n2 u2 ys z2 wx (hr1.keep hx) (hr2.keep hx) hs1 hs2 hl1 hl2).mono ?_
  rintro e w' ⟨rfl, hb⟩
  exact ⟨rfl, hx.trans (hb.mono hx.size)⟩
/-- A big number of one's own, over a world that stays fixed. -/
def BigAt (W wx : World) (z : Int) (e : Ending) (w' : World) : Prop :=
  ∃ n p c ws, e = .returned (.agg #[.bool n, .slice p (List.length ws) c]) ∧ Rd w' (.slice p ws.length c) ws ∧ Sgn B18 n ws z ∧ Below W.heap.size W w' ∧ Below wx.heap.size wx w'
theorem neg_at {W wx : World} {n1 : Bool} {u1 : Value} {xs : List Int} {z1 : Int} (hr1 : Rd W u1 xs) (hs1 : Sgn B18 n1 xs z1) (hl1 : xs.length ≤ 30) (hx : Below W.heap.size W wx) :
    Calls Tryz.prog 27 #[.agg #[.bool n1, u1]] wx (BigAt W wx (-z1)) := by
  refine (neg_good n1 u1 xs z1 wx (hr1.keep hx) hs1 hl1).mono ?_
  rintro e w' ⟨n, u, ws, rfl, hM, hS, hB⟩
  obtain ⟨p, c, rfl⟩ := MU.form hM
  have hlen : ws.length ≤ 30 := hS.small.2 (hs1.small.1 hl1).neg
  exact ⟨n, p, c, ws, rfl, hM.rd (by omega), hS, hx.trans (hB.mono hx.size), hB⟩
end
end
end Go.Proofs.YtpflbnddjclndaaGreatDoor
