/- Layer 2: whole.DivMod, walked. -/
import Derived.Test.YticebchmafipiaaDoorWDivMod
namespace Go.Proofs.YticebchmafipiaaDoor
open Go.ChangeShapes Go.WideShapes Go.ChangeAt Go.RowKit
set_option linter.unusedVariables false
set_option linter.unusedSimpArgs false
def MadeAt (W5 wx : World) (L H : Nat) (neg : Bool) (ws : List Int) (e : Ending) (w' : World) : Prop :=
  ∃ m p k q, e = .returned (.agg #[.bool m, .slice p k k]) ∧ MR w' L H (.slice p k k) q ∧ Sgn B18 m q (sg neg (val B18 ws)) ∧ Below W5.heap.size W5 w' ∧ Below wx.heap.size wx w'
theorem made_at {W5 : World} {L H n c : Nat} {p : Option Addr} {ws : List Int} (neg : Bool) (hM : MR W5 L H (.slice p ws.length c) ws) (hH : H ≤ W5.heap.size) (hd : Dig B18 ws) (hl : ws.length ≤ 1000) (wx : World) (hx : Below W5.heap.size W5 wx) :
    Calls Tryd.prog 41 #[.bool neg, .slice p ws.length c] wx (MadeAt W5 wx L H neg ws) := by
  refine (made_any neg p c ws wx ((hM.mu.keep hx).rd (by omega))).mono ?_
  rintro e w' ⟨k, hk, rfl, hb⟩
  obtain ⟨m, p', q, hv, hM', hS, _⟩ := made_mr neg hk hd hM
  have hb' := hx.trans (hb.mono hx.size)
  exact ⟨m, p', k, q, by rw [hv], hM'.block (fun q' _ h => hb'.block q' (Nat.lt_of_lt_of_le h hH)), hS, hb', hb⟩
structure Box2 (w : World) (B : Nat) (a b : Value) : Prop where
  c0 : w.cell? ⟨B, 0, none⟩ = some a
  c1 : w.cell? ⟨B, 1, none⟩ = some b
  f0 : w.frozen? ⟨B, 0, none⟩ = false
  f1 : w.frozen? ⟨B, 1, none⟩ = false
theorem Box2.lt {w : World} {B : Nat} {a b : Value} (h : Box2 w B a b) : B < w.heap.size := World.block_lt_of_cell? w ⟨B, 0, none⟩ h.c0
theorem Box2.new (X : World) (a b : Value) (T : TypeId) {B : Nat} (e : B = X.heap.size) : Box2 (X.alloc (.cells #[a, b] T)) B a b := by
  subst e; exact ⟨by simp, by simp, by simp, by simp⟩
theorem Box2.keep {w w' : World} {B : Nat} {a b : Value} (h : Box2 w B a b) (hb : Below w.heap.size w w') : Box2 w' B a b :=
  ⟨(World.cell?_of_block (a := ⟨B, 0, none⟩) (hb.block B h.lt)).trans h.c0, (World.cell?_of_block (a := ⟨B, 1, none⟩) (hb.block B h.lt)).trans h.c1,
    (World.frozen?_of_block (a := ⟨B, 0, none⟩) (hb.block B h.lt)).trans h.f0, (World.frozen?_of_block (a := ⟨B, 1, none⟩) (hb.block B h.lt)).trans h.f1⟩
theorem Box2.alloc {w : World} {B : Nat} {a b : Value} (h : Box2 w B a b) (o : Obj) : Box2 (w.alloc o) B a b := h.keep ((Below.refl _ _).alloc (Nat.le_refl _) o)
theorem Box2.put {w : World} {B : Nat} {a b : Value} (x y : Value) (h : Box2 w B a b) : Box2 ((w.setCell ⟨B, 0, none⟩ x).setCell ⟨B, 1, none⟩ y) B x y :=
  ⟨(two_setW h.c0 h.c1).1, (two_setW h.c0 h.c1).2, by simp [h.f0], by simp [h.f1]⟩
theorem Box2.set2 {w : World} {B C : Nat} {a b : Value} (hn : B ≠ C) (x y : Value) (h : Box2 w B a b) : Box2 ((w.setCell ⟨C, 0, none⟩ x).setCell ⟨C, 1, none⟩ y) B a b :=
  ⟨cell_set2 hn h.c0 x y, cell_set2 hn h.c1 x y, by simp [h.f0], by simp [h.f1]⟩
theorem Box2.all {w : World} {B : Nat} {a b : Value} (h : Box2 w B a b) : w.cell? ⟨B, 0, none⟩ = some a ∧ w.cell? ⟨B, 1, none⟩ = some b ∧ w.frozen? ⟨B, 0, none⟩ = false ∧ w.frozen? ⟨B, 1, none⟩ = false ∧ B < w.heap.size ∧ B < w.heap.size + 1 ∧ B ≠ w.heap.size ∧ B ≠ w.heap.size + 1 :=
  ⟨h.c0, h.c1, h.f0, h.f1, h.lt, Nat.lt_succ_of_lt h.lt, Nat.ne_of_lt h.lt, Nat.ne_of_lt (Nat.lt_succ_of_lt h.lt)⟩
theorem Box2.drew {w : World} {B : Nat} {a b : Value} (h : Box2 w B a b) : Box2 w.drew B a b := ⟨h.c0, h.c1, h.f0, h.f1⟩
theorem Box2.put0 {w : World} {B : Nat} (x y : Value) (h : Box2 w B (.bool false) (.slice none 0 0)) : Box2 ((w.setCell ⟨B, 0, none⟩ x).setCell ⟨B, 1, none⟩ y) B x y := h.put x y

theorem QR.leaf {w w5 wx w6 w7 : World} {n1 : Bool} {u1 : Value} {n2 : Bool} {u2 : Value} {L M b9 b10 : Nat} {m9 : Bool} {p9 : Option Addr} {k9 : Nat} {q : List Int} {m10 : Bool} {p10 : Option Addr} {k10 : Nat} {r : List Int} {zq zr : Int}
    (hX : Bx4 w5 w.heap.size n1 u1 n2 u2) (hB : Below w.heap.size w w5) (hL : w.heap.size + 1 + 1 + 1 < L) (hLM : L ≤ M) (hMH : M ≤ w5.heap.size) (h6 : Below w5.heap.size w5 w6) (h7 : Below w5.heap.size w5 w7)
    (hR9 : MR w6 L M (.slice p9 k9 k9) q) (hS9 : Sgn B18 m9 q zq) (hR10 : MR w7 M w5.heap.size (.slice p10 k10 k10) r) (hS10 : Sgn B18 m10 r zr)
    (hx : Below w5.heap.size w5 wx) (hb9 : Box2 wx b9 (.bool m9) (.slice p9 k9 k9)) (hb10 : Box2 wx b10 (.bool m10) (.slice p10 k10 k10)) (l9 : w5.heap.size ≤ b9) (l10 : w5.heap.size ≤ b10) (hn : b9 ≠ b10) :
    QR w wx n1 u1 n2 u2 L M w5.heap.size b9 b10 m9 p9 k9 q m10 p10 k10 r zq zr where
  box := hX.keep hx.block hx.size
  below := hB.trans (hx.mono hB.size)
  c9 := hb9.c0
  d9 := hb9.c1
  f9 := hb9.f0
  g9 := hb9.f1
  c10 := hb10.c0
  d10 := hb10.c1
  lo := hL
  h9 := l9
  h10 := l10
  ne := hn
  lM := hLM
  hM := hMH
  q9 := hR9.block fun q' _ h => (hx.block q' (Nat.lt_of_lt_of_le h hMH)).trans (h6.block q' (Nat.lt_of_lt_of_le h hMH)).symm
  q10 := hR10.block fun q' _ h => (hx.block q' h).trans (h7.block q' h).symm
  s9 := hS9
  s10 := hS10
end Go.Proofs.YticebchmafipiaaDoor
