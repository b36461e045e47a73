/- Layer 2: the law WholeExps, walked, at every input. -/
import Derived.Test.YtpflbnddjclndaaGreatDoorPWPow
import Derived.Test.YtpflbnddjclndaaGreatDoorPLawNum2
namespace Go.Proofs.YtpflbnddjclndaaGreatDoor
open Go.ChangeShapes Go.WideShapes Go.ChangeAt Go.RowKit
set_option linter.unusedVariables false
set_option linter.unusedSimpArgs false
theorem and31 (x : Int) : bits BinOp.and IntKind.i64 x 31 = x % 32 := by
  have e : bits BinOp.and IntKind.i64 x 31 = IntKind.i64.wrap (((BitVec.ofInt 64 x).toNat &&& (2 ^ 5 - 1) : Nat) : Int) := by
    simp only [bits, BitVec.toNat_and]; rfl
  rw [e, Nat.and_two_pow_sub_one_eq_mod, BitVec.toNat_ofInt, IntKind.wrap_i64]
  omega
theorem Rd.drew {w : World} {v : Value} {ws : List Int} (h : Rd w v ws) : Rd w.drew v ws := h
theorem Rd.putN {w : World} {B : Nat} {v : Value} {ws : List Int} (hb : Box2 w B (.bool false) (.slice none 0 0)) (x y : Value) (h : Rd w v ws) : Rd ((w.setCell ⟨B, 0, none⟩ x).setCell ⟨B, 1, none⟩ y) v ws := h.put2 hb x y
theorem pow_not_small {z : Int} {a b : Nat} (h : ¬ Small (z ^ a)) : ¬ Small (z ^ (a + b)) := by
  by_cases hz : z = 0
  · exfalso
    apply h
    subst hz
    cases a with
    | zero => exact small_one false
    | succ a => rw [Int.pow_succ, Int.mul_zero]; exact I64.small ⟨by decide, by decide⟩
  · refine not_small h ?_
    rw [Int.pow_add]
    exact abs_mul_le (pow_ne hz b)
/-- A big number of one's own in a box, and an error. -/
structure PR (W wx : World) (b1 : Nat) (n1 : Bool) (p1 : Option Addr) (c1 : Nat) (ws : List Int) (er : Int) (C : Bool → List Int → Int → Prop) : Prop where
  below : Below W.heap.size W wx
  x1 : Box2 wx b1 (.bool n1) (.slice p1 ws.length c1)
  r1 : Rd wx (.slice p1 ws.length c1) ws
  case : C n1 ws er
def PAt (W wx : World) (C : Bool → List Int → Int → Prop) (e : Ending) (w' : World) : Prop :=
  ∃ n p c ws er, e = .returned (.tuple #[.agg #[.bool n, .slice p (List.length ws) c], .int .i64 er]) ∧ Rd w' (.slice p ws.length c) ws ∧ C n ws er ∧ Below W.heap.size W w' ∧ Below wx.heap.size wx w'
def BadCase (n : Bool) (ws : List Int) (er : Int) : Prop := n = false ∧ ws = [] ∧ er = 3
/-- A big number of one's own, over a world that stays fixed. -/
def BigAtE (W wx : World) (z : Int) (e : Ending) (w' : World) : Prop :=
  ∃ n p c ws, e = .returned (.agg #[.bool n, .slice p (List.length ws) c]) ∧ Rd w' (.slice p ws.length c) ws ∧ Sgn B18 n ws z ∧ Below W.heap.size W w' ∧ Below wx.heap.size wx w'
theorem wofn_at {W wx : World} {n : Int} (hn : I64 n) (hx : Below W.heap.size W wx) : Calls Tryz.prog 22 #[.int .i64 n] wx (BigAtE W wx n) := by
  refine (of_int n wx hn.lo hn.hi).mono ?_
  rintro e w' ⟨m, u, ws, rfl, hM, hS, hB⟩
  obtain ⟨p, c, rfl⟩ := MU.form hM
  have hlen : ws.length ≤ 30 := hS.small.2 hn.small
  exact ⟨m, p, c, ws, rfl, hM.rd (by omega), hS, hx.trans (hB.mono hx.size), hB⟩
theorem pow_at {W wx : World} {n1 : Bool} {u1 : Value} {xs : List Int} {z1 : Int} {n2 : Bool} {u2 : Value} {ys : List Int} {z2 : Int} (hr1 : Rd wx u1 xs) (hr2 : Rd wx u2 ys) (hs1 : Sgn B18 n1 xs z1) (hs2 : Sgn B18 n2 ys z2) (hl1 : xs.length ≤ 30) (hl2 : ys.length ≤ 30) (hz : 0 ≤ z2) (hx : Below W.heap.size W wx) :
    Calls Tryz.prog 24 #[.agg #[.bool n1, u1], .agg #[.bool n2, u2]] wx (PAt W wx (ResCase (z1 ^ Int.toNat z2))) := by
  refine (pow_good n1 u1 xs z1 n2 u2 ys z2 wx hr1 hr2 hs1 hs2 hl1 hl2).mono ?_
  rintro e w' ⟨n, u, ws, er, rfl, hM, hB, hc⟩
  obtain ⟨p, c, rfl⟩ := MU.form hM
  rcases hc with ⟨h, _⟩ | ⟨_, hc⟩
  · omega
  · exact ⟨n, p, c, ws, er, rfl, hM.rd (ResCase.len17 hc), hc, hx.trans (hB.mono hx.size), hB⟩
set_option maxRecDepth 100000 in
set_option maxHeartbeats 1000000 in
theorem pow_bad1 (n1 : Bool) (u1 : Value) (xs : List Int) (n2 : Bool) (u2 : Value) (ys : List Int) (w : World) (hr1 : Rd w u1 xs) (hf1 : Fit xs) (hr2 : Rd w u2 ys) (hg : goodB n1 xs = false) :
    Calls Tryz.prog 24 #[.agg #[.bool n1, u1], .agg #[.bool n2, u2]] w (BadPost w 3) := by
  have HR1 := Lib.hid hr1
  have HR2 := Lib.hid hr2
  obtain ⟨p1, c1, rfl, _, _, _⟩ := rd_form hr1
  obtain ⟨p2, c2, rfl, _, _, _⟩ := rd_form hr2
  have HGN := Lib.hid hg
  clear hr1 hr2 hg
  go_enter Tryz.func24, Tryz.ntmps24
  go_wp2_with fail
  generalize hw2 : World.alloc (World.alloc (World.alloc w _) _) _ = w2
  have hbx : Bx3 w2 w.heap.size n1 (.slice p1 xs.length c1) n2 (.slice p2 ys.length c2) := by
    rw [← hw2]
    exact ⟨alloc_cell (alloc_cell (by simp) _) _, alloc_cell (alloc_cell (by simp) _) _, alloc_cell (by simp) _, alloc_cell (by simp) _, third_cell _ _ _ _ _ 0, third_cell _ _ _ _ _ 1, third_fr _ _ _ _ _ 0, third_fr _ _ _ _ _ 1, by simp⟩
  have HB2 := Lib.hid (show Below w.heap.size w w2 by rw [← hw2]; exact (((Below.refl _ _).alloc (Nat.le_refl _) _).alloc (by simp) _).alloc (by simp; omega) _)
  clear hw2
  have HX2 := Lib.hid hbx
  have q0 := hbx.x0
  have q1 := hbx.x1
  have q2 := hbx.y0
  have q3 := hbx.y1
  refine (good_no _ _ xs w2 (HR1.out.keep HB2.out) hf1 HGN.out).mono ?_
  rintro e w3 ⟨rfl, hb3⟩
  have hX := HX2.out.keep hb3
  have HB := Lib.hid (HB2.out.trans (hb3.mono HB2.out.size))
  have r0 := hX.r0
  have r1 := hX.r1
  have f0 := hX.f0
  have f1 := hX.f1
  clear hX hb3
  clear q0 q1 q2 q3 hbx
  go_wp2_with fail
  have z2 := two_setW (x0 := .bool false) (x1 := .slice none 0 0) r0 r1
  refine bodyPost_ret (v := .tuple #[.agg #[.bool false, .slice none 0 0], .int .i64 3]) (by simp [results, Tryz.results24, go_sem, z2.1, z2.2]) rfl ⟨rfl, ?_⟩
  exact (HB.out.setCell (by simp; omega) _).setCell (by simp; omega) _
theorem powbad_at {W wx : World} {n1 : Bool} {u1 : Value} {xs : List Int} {n2 : Bool} {u2 : Value} {ys : List Int} (hr1 : Rd wx u1 xs) (hf1 : Fit xs) (hr2 : Rd wx u2 ys) (hg : goodB n1 xs = false) (hx : Below W.heap.size W wx) :
    Calls Tryz.prog 24 #[.agg #[.bool n1, u1], .agg #[.bool n2, u2]] wx (PAt W wx BadCase) := by
  refine (pow_bad1 n1 u1 xs n2 u2 ys wx hr1 hf1 hr2 hg).mono ?_
  rintro e w' ⟨rfl, hB⟩
  exact ⟨false, none, 0, [], 3, rfl, .inl ⟨none, rfl, rfl⟩, ⟨rfl, rfl, rfl⟩, hx.trans (hB.mono hx.size), hB⟩
end Go.Proofs.YtpflbnddjclndaaGreatDoor
