/- real.Whole: a float cut to a whole number, at any float. real.CmpBig at any float and any number. The document's order of floats: place, order, Cmp. The document's Cut: a float cut to a whole number, digit by digit. The document's Of and Whole. -/
import Derived.Test.YtpebnofjcodikaaGreatDoorPGRlT
import Derived.Test.YtpebnofjcodikaaGreatDoorPGRlG
import Derived.Test.YtpebnofjcodikaaGreatDoorPGWg
import Derived.Test.YtpebnofjcodikaaGreatDoorPGWk
import Derived.Test.YtpebnofjcodikaaGreatDoorPGWa
import Derived.Test.YtpebnofjcodikaaGreatDoorPGWf
import Derived.LoopTactic
import Derived.Test.YtpebnofjcodikaaGreatDoorPGWh
namespace Go.Proofs.YtpebnofjcodikaaGreatDoor
section
open Go Go.ChangeShapes Go.WideShapes Go.ChangeAt Go.RowKit
set_option linter.unusedVariables false
set_option linter.unusedSimpArgs false
end
section
open Go Go.ChangeShapes Go.WideShapes Go.ChangeAt Go.RowKit
set_option linter.unusedVariables false
set_option linter.unusedSimpArgs false
end
section
open Go Go.ChangeShapes Go.WideShapes Go.ChangeAt Go.RowKit
set_option linter.unusedVariables false
set_option linter.unusedSimpArgs false
end
section
open Go Go.ChangeShapes Go.WideShapes Go.ChangeAt Go.RowKit
set_option linter.unusedVariables false
set_option linter.unusedSimpArgs false
/-- What is left behind the halving. -/
structure CtE (b m : Nat) (e : Int) : Prop where
  eq : trV b = m * 2 ^ e.toNat
  lt : m < 9007199254740992
  hi : e ≤ 972
  lo : -1074 ≤ e
/-- While it is halved. -/
structure CtG (b j m : Nat) (e : Int) (l : Bool) : Prop where
  gm : m = manB b / 2 ^ j
  ge : e = exqB b + (j : Int)
  gl : l = decide (manB b % 2 ^ j ≠ 0)
  gj : 0 < j → e ≤ 0
theorem CtG.start (b : Nat) : CtG b 0 (manB b) (exqB b) false := ⟨by simp, by simp, by simp [Nat.mod_one], by omega⟩
theorem CtG.lt {b j m : Nat} {e : Int} {l : Bool} (h : CtG b j m e l) : m < 9007199254740992 := by
  have h1 := h.gm; have h2 := man_lt b; have h3 := Nat.div_le_self (manB b) (2 ^ j); omega
theorem CtG.hi {b j m : Nat} {e : Int} {l : Bool} (h : CtG b j m e l) : e ≤ 972 ∧ -1074 ≤ e := by
  have h1 := h.ge; have h2 := exq_lo b; have h3 := h.gj; omega
theorem CtG.step {b j m : Nat} {e : Int} {l : Bool} (h : CtG b j m e l) (he : e < 0) : CtG b (j + 1) (m / 2) (e + 1) (l || decide (m % 2 = 1)) := by
  obtain ⟨h1, h2⟩ := half_step (manB b) j
  exact ⟨by rw [h1, ← h.gm], by have := h.ge; omega, by rw [h2, ← h.gm, ← h.gl], fun _ => by omega⟩
/-- Doubled i times: a small number. -/
theorem CtE.small {b m : Nat} {e : Int} (h : CtE b m e) {i : Nat} (hi : i ≤ e.toNat) : Small ((m * 2 ^ i : Nat) : Int) := by
  have h1 := tr_small b
  have h2 : m * 2 ^ i ≤ trV b := by rw [h.eq]; exact Nat.mul_le_mul_left _ (Nat.pow_le_pow_right (by decide) hi)
  have h3 := h1.lt
  refine ⟨?_⟩
  rw [Int.natAbs_natCast] at h3 ⊢
  exact Int.lt_of_le_of_lt (Int.ofNat_le.2 h2) h3
/-- Two boxes and a number in one of them. -/
structure CtS (w wr : World) (B : Nat) (n : Bool) (p : Option Addr) (c : Nat) (ds : List Int) (z : Int) : Prop where
  below : Below w.heap.size w wr
  res : Box2 wr w.heap.size (.bool false) (.slice none 0 0)
  bx : Box2 wr B (.bool n) (.slice p ds.length c)
  rb : Rb wr (.slice p ds.length c) ds
  sg : Sgn 10 n ds z
  hB : w.heap.size < B
theorem CtS.keep {w wr w' : World} {B : Nat} {n : Bool} {p : Option Addr} {c : Nat} {ds : List Int} {z : Int} (h : CtS w wr B n p c ds z) (hb : Below wr.heap.size wr w') : CtS w w' B n p c ds z :=
  ⟨h.below.trans (hb.mono h.below.size), h.res.keep hb, h.bx.keep hb, h.rb.keep hb, h.sg, h.hB⟩
theorem CtS.put {w wr : World} {B : Nat} {n : Bool} {p : Option Addr} {c : Nat} {ds : List Int} {z : Int} (h : CtS w wr B n p c ds z) {m : Bool} {q : Option Addr} {k : Nat} {es : List Int} {y : Int} (hr : Rb wr (.slice q es.length k) es) (hs : Sgn 10 m es y) :
    CtS w ((wr.setCell ⟨B, 0, none⟩ (.bool m)).setCell ⟨B, 1, none⟩ (.slice q es.length k)) B m q k es y :=
  ⟨(h.below.setCell (Nat.le_of_lt h.hB) _).setCell (Nat.le_of_lt h.hB) _, h.res.set2 (Nat.ne_of_lt h.hB) _ _, h.bx.put _ _, hr.set2 h.bx _ _, hs, h.hB⟩
theorem Rb.set1 {w : World} {B : Nat} {a : Bool} {v : Value} {ws : List Int} (h : Rb w v ws) (h0 : w.cell? ⟨B, 0, none⟩ = some (.bool a)) (x : Value) : Rb (w.setCell ⟨B, 0, none⟩ x) v ws := by
  rcases h with h | ⟨b, off, cc, rfl, h1, h2, h3⟩
  · exact .inl h
  · refine .inr ⟨b, off, cc, rfl, h1, h2, fun i hi => ?_⟩
    have h4 := h3 i hi
    have e0 : (⟨B, 0, none⟩ : Addr) ≠ ⟨b, off + i, none⟩ := fun e => by rw [← e, h0] at h4; simp at h4
    exact (World.cell?_setCell_other _ _ _ _ e0).trans h4
theorem CtS.leave {w wr : World} {B : Nat} {n : Bool} {p : Option Addr} {c : Nat} {ds : List Int} {b : Nat} (h : CtS w wr B n p c ds (trZ b)) :
    Rb ((wr.setCell ⟨w.heap.size, 0, none⟩ (.bool n)).setCell ⟨w.heap.size, 1, none⟩ (.slice p ds.length c)) (.slice p ds.length c) ds ∧ Below w.heap.size w ((wr.setCell ⟨w.heap.size, 0, none⟩ (.bool n)).setCell ⟨w.heap.size, 1, none⟩ (.slice p ds.length c)) :=
  ⟨h.rb.set2 h.res _ _, (h.below.setCell (Nat.le_refl _) _).setCell (Nat.le_refl _) _⟩
end
section
open Go Go.ChangeShapes Go.WideShapes Go.ChangeAt Go.RowKit
set_option linter.unusedVariables false
set_option linter.unusedSimpArgs false
def OfR (b : Nat) (x : Int) (w : World) (e : Ending) (w' : World) : Prop := e = .returned (.tuple #[.int .u64 ((b : Nat) : Int), .int .i64 x]) ∧ Below w.heap.size w w'
end
end Go.Proofs.YtpebnofjcodikaaGreatDoor
