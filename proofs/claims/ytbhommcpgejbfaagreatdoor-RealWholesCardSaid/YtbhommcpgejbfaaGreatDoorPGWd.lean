/- Layer 2: whole.DivMod, over what divSizes answers. Layer 2: whole.DivMod, walked. Layer 2: whole.DivMod: what it answers, and the numbers behind it. Layer 2: whole.DivMod, walked, over what divSizes answers. Layer 2: math/bits.Div64, as far as whole.divLimb needs it: its contract's words, and the way of a high word of 0. Layer 2: whole.divLimb: a row of limbs over one limb, over what Div64 answers. Layer 2: whole.divSizes by one limb. Layer 2: what known() asks of DivMod: -7 over 2. -/
import Derived.Test.YtbhommcpgejbfaaGreatDoorPGWc
import Derived.Deep.DeepCutAuto
import Derived.Test.YtbhommcpgejbfaaGreatDoorPGWa
import Derived.BigQuiet
import Derived.Test.YtbhommcpgejbfaaGreatDoorShelf
import Derived.Shelf.Spec.BitsCarry
namespace Go.Proofs.YtbhommcpgejbfaaGreatDoor
section
open Go.ChangeShapes Go.WideShapes Go.ChangeAt Go.RowKit
set_option linter.unusedVariables false
set_option linter.unusedSimpArgs false
/-- A row of one's own, between two blocks. -/
def MR (w : World) (lo hi : Nat) (u : Value) (ws : List Int) : Prop :=
  (u = .slice none 0 0 ∧ ws = []) ∨ ∃ g c cur, u = .slice (some ⟨g, 0, none⟩) ws.length c ∧ ws.length ≤ c ∧ c ≤ Array.size cur ∧ lo ≤ g ∧ g < hi ∧
    w.heap[g]? = some (.cells cur U64 (0, 0)) ∧ ∀ i, i < ws.length → cur[i]? = some (.int .u64 (ws.getD i 0))
theorem MU.mr {w : World} {lo : Nat} {u : Value} {ws : List Int} (h : MU w lo u ws) : MR w lo w.heap.size u ws := by
  rcases h with h | ⟨g, c, cur, h0, h1, h2, h3, h4, h5⟩
  · exact .inl h
  · exact .inr ⟨g, c, cur, h0, h1, h2, h3, (Array.getElem?_eq_some_iff.1 h4).1, h4, h5⟩
theorem MR.mu {w : World} {lo hi : Nat} {u : Value} {ws : List Int} (h : MR w lo hi u ws) : MU w lo u ws := by
  rcases h with h | ⟨g, c, cur, h0, h1, h2, h3, _, h4, h5⟩
  · exact .inl h
  · exact .inr ⟨g, c, cur, h0, h1, h2, h3, h4, h5⟩
theorem MR.block {w w' : World} {lo hi : Nat} {u : Value} {ws : List Int} (h : MR w lo hi u ws) (hb : ∀ q, lo ≤ q → q < hi → w'.heap[q]? = w.heap[q]?) : MR w' lo hi u ws := by
  rcases h with h | ⟨g, c, cur, h0, h1, h2, h3, h4, h5, h6⟩
  · exact .inl h
  · exact .inr ⟨g, c, cur, h0, h1, h2, h3, h4, (hb g h3 h4).trans h5, h6⟩
theorem MR.lo {w : World} {lo lo' hi : Nat} {u : Value} {ws : List Int} (h : MR w lo hi u ws) (hl : lo' ≤ lo) : MR w lo' hi u ws := by
  rcases h with h | ⟨g, c, cur, h0, h1, h2, h3, h4, h5, h6⟩
  · exact .inl h
  · exact .inr ⟨g, c, cur, h0, h1, h2, Nat.le_trans hl h3, h4, h5, h6⟩
theorem MR.hi {w : World} {lo hi hi' : Nat} {u : Value} {ws : List Int} (h : MR w lo hi u ws) (hl : hi ≤ hi') : MR w lo hi' u ws := by
  rcases h with h | ⟨g, c, cur, h0, h1, h2, h3, h4, h5, h6⟩
  · exact .inl h
  · exact .inr ⟨g, c, cur, h0, h1, h2, h3, Nat.lt_of_lt_of_le h4 hl, h5, h6⟩
theorem MR.keep {w w' : World} {lo hi : Nat} {u : Value} {ws : List Int} (h : MR w lo hi u ws) (hb : Below w.heap.size w w') : MR w' lo hi u ws := by
  rcases h with h | ⟨g, c, cur, h0, h1, h2, h3, h4, h5, h6⟩
  · exact .inl h
  · exact .inr ⟨g, c, cur, h0, h1, h2, h3, h4, (hb.block g (Array.getElem?_eq_some_iff.1 h5).1).trans h5, h6⟩
theorem MR.set2 {w : World} {lo hi B : Nat} {u : Value} {ws : List Int} (h : MR w lo hi u ws) (hB : B < lo) (x0 x1 : Value) : MR ((w.setCell ⟨B, 0, none⟩ x0).setCell ⟨B, 1, none⟩ x1) lo hi u ws :=
  h.block fun q hq _ => by rw [Below.heap_setCell _ _ _ _ (by simp; omega), Below.heap_setCell _ _ _ _ (by simp; omega)]
theorem MR.take {w : World} {lo hi : Nat} {p : Option Addr} {n c m : Nat} {ws : List Int} (h : MR w lo hi (.slice p n c) ws) (hm : m ≤ n) (h0 : 0 < m) : MR w lo hi (.slice p m m) (ws.take m) := by
  rcases h with ⟨e, rfl⟩ | ⟨g, c', cur, e, h1, h2, h3, h4, h5, h6⟩
  · simp only [Value.slice.injEq] at e; omega
  · simp only [Value.slice.injEq] at e
    obtain ⟨rfl, rfl, rfl⟩ := e
    have hl : (ws.take m).length = m := by rw [List.length_take]; omega
    refine .inr ⟨g, m, cur, by rw [hl], by rw [hl]; exact Nat.le_refl _, by omega, h3, h4, h5, fun i hi => ?_⟩
    rw [hl] at hi
    rw [getD_take, if_pos hi]
    exact h6 i (by omega)
/-- What divSizes answers. -/
def DivPost (W : World) (xs ys : List Int) (e : Ending) (w' : World) : Prop :=
  ∃ uq qs gr rs, e = .returned (.tuple #[uq, .slice (some ⟨gr, 0, none⟩) rs.length rs.length]) ∧ MR w' W.heap.size gr uq qs ∧ LU w' gr rs ∧ W.heap.size ≤ gr ∧ Dig B18 qs ∧ Dig B18 rs ∧
    qs.length ≤ 1000 ∧ rs.length ≤ 1000 ∧ val B18 xs = val B18 qs * val B18 ys + val B18 rs ∧ val B18 rs < val B18 ys ∧ Below W.heap.size W w'
/-- 'made' of a row of one's own. -/
theorem made_mr {w : World} {lo hi k n c : Nat} {p : Option Addr} {ws : List Int} (neg : Bool) (hk : CutAt ws k) (hd : Dig B18 ws) (hM : MR w lo hi (.slice p n c) ws) :
    ∃ neg' p' ws', madeV neg p k = .agg #[.bool neg', .slice p' k k] ∧ MR w lo hi (.slice p' k k) ws' ∧ Sgn B18 neg' ws' (sg neg (val B18 ws)) ∧ ws'.length = k := by
  obtain ⟨h1, h2, h3⟩ := hk.canon (b := B18) (by decide) hd
  have hn : n = ws.length := by
    rcases hM with ⟨e, rfl⟩ | ⟨g, c', cur, e, _⟩
    · simp only [Value.slice.injEq] at e; simp [e.2.1]
    · simp only [Value.slice.injEq] at e; exact e.2.1
  by_cases h0 : k = 0
  · subst h0
    refine ⟨false, none, [], if_pos rfl, .inl ⟨rfl, rfl⟩, ⟨Canon.nil (by decide), fun h => (by cases h), ?_⟩, rfl⟩
    rw [List.take_zero] at h2
    rw [← h2]
    cases neg <;> rfl
  · exact ⟨neg, _, ws.take k, if_neg h0, MR.take hM (by rw [hn]; exact hk.1) (by omega), ⟨h1, fun _ => by omega, by rw [h2]⟩, h3⟩
structure Bx4 (w : World) (B : Nat) (n1 : Bool) (u1 : Value) (n2 : Bool) (u2 : Value) : Prop where
  x0 : w.cell? ⟨B, 0, none⟩ = some (.bool n1)
  x1 : w.cell? ⟨B, 1, none⟩ = some u1
  y0 : w.cell? ⟨B + 1, 0, none⟩ = some (.bool n2)
  y1 : w.cell? ⟨B + 1, 1, none⟩ = some u2
  r0 : w.cell? ⟨B + 1 + 1, 0, none⟩ = some (.bool false)
  r1 : w.cell? ⟨B + 1 + 1, 1, none⟩ = some (.slice none 0 0)
  f0 : w.frozen? ⟨B + 1 + 1, 0, none⟩ = false
  f1 : w.frozen? ⟨B + 1 + 1, 1, none⟩ = false
  s0 : w.cell? ⟨B + 1 + 1 + 1, 0, none⟩ = some (.bool false)
  s1 : w.cell? ⟨B + 1 + 1 + 1, 1, none⟩ = some (.slice none 0 0)
  g0 : w.frozen? ⟨B + 1 + 1 + 1, 0, none⟩ = false
  g1 : w.frozen? ⟨B + 1 + 1 + 1, 1, none⟩ = false
  lt : B + 1 + 1 + 1 < w.heap.size
theorem Bx4.keep {w w' : World} {B : Nat} {n1 n2 : Bool} {u1 u2 : Value} (h : Bx4 w B n1 u1 n2 u2) (hb : ∀ q, q < w.heap.size → w'.heap[q]? = w.heap[q]?) (hs : w.heap.size ≤ w'.heap.size) : Bx4 w' B n1 u1 n2 u2 := by
  have hl := h.lt
  have c : ∀ b o, b < w.heap.size → w'.cell? ⟨b, o, none⟩ = w.cell? ⟨b, o, none⟩ := fun b o h => World.cell?_of_block (a := ⟨b, o, none⟩) (hb b h)
  have f : ∀ b o, b < w.heap.size → w'.frozen? ⟨b, o, none⟩ = w.frozen? ⟨b, o, none⟩ := fun b o h => World.frozen?_of_block (a := ⟨b, o, none⟩) (hb b h)
  exact ⟨(c _ _ (by omega)).trans h.x0, (c _ _ (by omega)).trans h.x1, (c _ _ (by omega)).trans h.y0, (c _ _ (by omega)).trans h.y1, (c _ _ (by omega)).trans h.r0, (c _ _ (by omega)).trans h.r1,
    (f _ _ (by omega)).trans h.f0, (f _ _ (by omega)).trans h.f1, (c _ _ (by omega)).trans h.s0, (c _ _ (by omega)).trans h.s1, (f _ _ (by omega)).trans h.g0, (f _ _ (by omega)).trans h.g1, Nat.lt_of_lt_of_le hl hs⟩
theorem bx4_new (w : World) (n1 n2 : Bool) (u1 u2 : Value) (T : TypeId) : Bx4 ((((w.alloc (.cells #[.bool n1, u1] T)).alloc (.cells #[.bool n2, u2] T)).alloc (.cells #[.bool false, .slice none 0 0] T)).alloc (.cells #[.bool false, .slice none 0 0] T)) w.heap.size n1 u1 n2 u2 := by
  have e1 : w.heap.size + 1 = (w.alloc (.cells #[.bool n1, u1] T)).heap.size := by simp
  have e2 : w.heap.size + 1 + 1 = ((w.alloc (.cells #[.bool n1, u1] T)).alloc (.cells #[.bool n2, u2] T)).heap.size := by simp
  have e3 : w.heap.size + 1 + 1 + 1 = (((w.alloc (.cells #[.bool n1, u1] T)).alloc (.cells #[.bool n2, u2] T)).alloc (.cells #[.bool false, .slice none 0 0] T)).heap.size := by simp
  refine ⟨alloc_cell (alloc_cell (alloc_cell (by simp) _) _) _, alloc_cell (alloc_cell (alloc_cell (by simp) _) _) _, ?_, ?_, ?_, ?_, ?_, ?_, ?_, ?_, ?_, ?_, by simp⟩
  · rw [e1]; exact alloc_cell (alloc_cell (by generalize w.alloc _ = W; simp) _) _
  · rw [e1]; exact alloc_cell (alloc_cell (by generalize w.alloc _ = W; simp) _) _
  · rw [e2]; exact alloc_cell (by generalize World.alloc (World.alloc w _) _ = W; simp) _
  · rw [e2]; exact alloc_cell (by generalize World.alloc (World.alloc w _) _ = W; simp) _
  · rw [e2]; exact alloc_frozen (by simp) (by generalize World.alloc (World.alloc w _) _ = W; simp) _
  · rw [e2]; exact alloc_frozen (by simp) (by generalize World.alloc (World.alloc w _) _ = W; simp) _
  · rw [e3]; generalize World.alloc (World.alloc (World.alloc w _) _) _ = W; simp
  · rw [e3]; generalize World.alloc (World.alloc (World.alloc w _) _) _ = W; simp
  · rw [e3]; generalize World.alloc (World.alloc (World.alloc w _) _) _ = W; simp
  · rw [e3]; generalize World.alloc (World.alloc (World.alloc w _) _) _ = W; simp
theorem below4 (w : World) (o1 o2 o3 o4 : Obj) : Below w.heap.size w ((((w.alloc o1).alloc o2).alloc o3).alloc o4) :=
  ((((Below.refl _ _).alloc (Nat.le_refl _) _).alloc (by simp) _).alloc (by simp; omega) _).alloc (by simp; omega) _
/-- Behind the two calls of made: quotient and rest of sizes in boxes of their own. -/
structure QR (w wx : World) (n1 : Bool) (u1 : Value) (n2 : Bool) (u2 : Value) (L M H b9 b10 : Nat) (m9 : Bool) (p9 : Option Addr) (k9 : Nat) (q : List Int) (m10 : Bool) (p10 : Option Addr) (k10 : Nat) (r : List Int) (zq zr : Int) : Prop where
  box : Bx4 wx w.heap.size n1 u1 n2 u2
  below : Below w.heap.size w wx
  c9 : wx.cell? ⟨b9, 0, none⟩ = some (.bool m9)
  d9 : wx.cell? ⟨b9, 1, none⟩ = some (.slice p9 k9 k9)
  f9 : wx.frozen? ⟨b9, 0, none⟩ = false
  g9 : wx.frozen? ⟨b9, 1, none⟩ = false
  c10 : wx.cell? ⟨b10, 0, none⟩ = some (.bool m10)
  d10 : wx.cell? ⟨b10, 1, none⟩ = some (.slice p10 k10 k10)
  lo : w.heap.size + 1 + 1 + 1 < L
  h9 : H ≤ b9
  h10 : H ≤ b10
  ne : b9 ≠ b10
  lM : L ≤ M
  hM : M ≤ H
  q9 : MR wx L M (.slice p9 k9 k9) q
  q10 : MR wx M H (.slice p10 k10 k10) r
  s9 : Sgn B18 m9 q zq
  s10 : Sgn B18 m10 r zr
end
section
open Go.ChangeShapes Go.WideShapes Go.ChangeAt Go.RowKit
set_option linter.unusedVariables false
set_option linter.unusedSimpArgs false
def MadeAt (W5 wx : World) (L H : Nat) (neg : Bool) (ws : List Int) (e : Ending) (w' : World) : Prop :=
  ∃ m p k q, e = .returned (.agg #[.bool m, .slice p k k]) ∧ MR w' L H (.slice p k k) q ∧ Sgn B18 m q (sg neg (val B18 ws)) ∧ Below W5.heap.size W5 w' ∧ Below wx.heap.size wx w'
theorem made_at {W5 : World} {L H n c : Nat} {p : Option Addr} {ws : List Int} (neg : Bool) (hM : MR W5 L H (.slice p ws.length c) ws) (hH : H ≤ W5.heap.size) (hd : Dig B18 ws) (hl : ws.length ≤ 1000) (wx : World) (hx : Below W5.heap.size W5 wx) :
    Calls Tryz.prog 53 #[.bool neg, .slice p ws.length c] wx (MadeAt W5 wx L H neg ws) := by
  refine (made_any neg p c ws wx ((hM.mu.keep hx).rd (by omega))).mono ?_
  rintro e w' ⟨k, hk, rfl, hb⟩
  obtain ⟨m, p', q, hv, hM', hS, _⟩ := made_mr neg hk hd hM
  have hb' := hx.trans (hb.mono hx.size)
  exact ⟨m, p', k, q, by rw [hv], hM'.block (fun q' _ h => hb'.block q' (Nat.lt_of_lt_of_le h hH)), hS, hb', hb⟩
structure Box2 (w : World) (B : Nat) (a b : Value) : Prop where
  c0 : w.cell? ⟨B, 0, none⟩ = some a
  c1 : w.cell? ⟨B, 1, none⟩ = some b
  f0 : w.frozen? ⟨B, 0, none⟩ = false
  f1 : w.frozen? ⟨B, 1, none⟩ = false
theorem Box2.lt {w : World} {B : Nat} {a b : Value} (h : Box2 w B a b) : B < w.heap.size := World.block_lt_of_cell? w ⟨B, 0, none⟩ h.c0
theorem Box2.new (X : World) (a b : Value) (T : TypeId) {B : Nat} (e : B = X.heap.size) : Box2 (X.alloc (.cells #[a, b] T)) B a b := by
  subst e; exact ⟨by simp, by simp, by simp, by simp⟩
theorem Box2.keep {w w' : World} {B : Nat} {a b : Value} (h : Box2 w B a b) (hb : Below w.heap.size w w') : Box2 w' B a b :=
  ⟨(World.cell?_of_block (a := ⟨B, 0, none⟩) (hb.block B h.lt)).trans h.c0, (World.cell?_of_block (a := ⟨B, 1, none⟩) (hb.block B h.lt)).trans h.c1,
    (World.frozen?_of_block (a := ⟨B, 0, none⟩) (hb.block B h.lt)).trans h.f0, (World.frozen?_of_block (a := ⟨B, 1, none⟩) (hb.block B h.lt)).trans h.f1⟩
theorem Box2.alloc {w : World} {B : Nat} {a b : Value} (h : Box2 w B a b) (o : Obj) : Box2 (w.alloc o) B a b := h.keep ((Below.refl _ _).alloc (Nat.le_refl _) o)
theorem Box2.put {w : World} {B : Nat} {a b : Value} (x y : Value) (h : Box2 w B a b) : Box2 ((w.setCell ⟨B, 0, none⟩ x).setCell ⟨B, 1, none⟩ y) B x y :=
  ⟨(two_setW h.c0 h.c1).1, (two_setW h.c0 h.c1).2, by simp [h.f0], by simp [h.f1]⟩
theorem Box2.set2 {w : World} {B C : Nat} {a b : Value} (hn : B ≠ C) (x y : Value) (h : Box2 w B a b) : Box2 ((w.setCell ⟨C, 0, none⟩ x).setCell ⟨C, 1, none⟩ y) B a b :=
  ⟨cell_set2 hn h.c0 x y, cell_set2 hn h.c1 x y, by simp [h.f0], by simp [h.f1]⟩
theorem Box2.all {w : World} {B : Nat} {a b : Value} (h : Box2 w B a b) : w.cell? ⟨B, 0, none⟩ = some a ∧ w.cell? ⟨B, 1, none⟩ = some b ∧ w.frozen? ⟨B, 0, none⟩ = false ∧ w.frozen? ⟨B, 1, none⟩ = false ∧ B < w.heap.size ∧ B < w.heap.size + 1 ∧ B ≠ w.heap.size ∧ B ≠ w.heap.size + 1 :=
  ⟨h.c0, h.c1, h.f0, h.f1, h.lt, Nat.lt_succ_of_lt h.lt, Nat.ne_of_lt h.lt, Nat.ne_of_lt (Nat.lt_succ_of_lt h.lt)⟩
theorem Box2.drew {w : World} {B : Nat} {a b : Value} (h : Box2 w B a b) : Box2 w.drew B a b := ⟨h.c0, h.c1, h.f0, h.f1⟩
theorem Box2.put0 {w : World} {B : Nat} (x y : Value) (h : Box2 w B (.bool false) (.slice none 0 0)) : Box2 ((w.setCell ⟨B, 0, none⟩ x).setCell ⟨B, 1, none⟩ y) B x y := h.put x y

theorem QR.leaf {w w5 wx w6 w7 : World} {n1 : Bool} {u1 : Value} {n2 : Bool} {u2 : Value} {L M b9 b10 : Nat} {m9 : Bool} {p9 : Option Addr} {k9 : Nat} {q : List Int} {m10 : Bool} {p10 : Option Addr} {k10 : Nat} {r : List Int} {zq zr : Int}
    (hX : Bx4 w5 w.heap.size n1 u1 n2 u2) (hB : Below w.heap.size w w5) (hL : w.heap.size + 1 + 1 + 1 < L) (hLM : L ≤ M) (hMH : M ≤ w5.heap.size) (h6 : Below w5.heap.size w5 w6) (h7 : Below w5.heap.size w5 w7)
    (hR9 : MR w6 L M (.slice p9 k9 k9) q) (hS9 : Sgn B18 m9 q zq) (hR10 : MR w7 M w5.heap.size (.slice p10 k10 k10) r) (hS10 : Sgn B18 m10 r zr)
    (hx : Below w5.heap.size w5 wx) (hb9 : Box2 wx b9 (.bool m9) (.slice p9 k9 k9)) (hb10 : Box2 wx b10 (.bool m10) (.slice p10 k10 k10)) (l9 : w5.heap.size ≤ b9) (l10 : w5.heap.size ≤ b10) (hn : b9 ≠ b10) :
    QR w wx n1 u1 n2 u2 L M w5.heap.size b9 b10 m9 p9 k9 q m10 p10 k10 r zq zr where
  box := hX.keep hx.block hx.size
  below := hB.trans (hx.mono hB.size)
  c9 := hb9.c0
  d9 := hb9.c1
  f9 := hb9.f0
  g9 := hb9.f1
  c10 := hb10.c0
  d10 := hb10.c1
  lo := hL
  h9 := l9
  h10 := l10
  ne := hn
  lM := hLM
  hM := hMH
  q9 := hR9.block fun q' _ h => (hx.block q' (Nat.lt_of_lt_of_le h hMH)).trans (h6.block q' (Nat.lt_of_lt_of_le h hMH)).symm
  q10 := hR10.block fun q' _ h => (hx.block q' h).trans (h7.block q' h).symm
  s9 := hS9
  s10 := hS10
end
section
open Go.ChangeShapes Go.WideShapes Go.ChangeAt Go.RowKit
set_option linter.unusedVariables false
set_option linter.unusedSimpArgs false
def DMPost (W : World) (z1 z2 : Int) (e : Ending) (w' : World) : Prop :=
  ∃ nq uq qs zq nr ur rs zr, e = .returned (.tuple #[.agg #[.bool nq, uq], .agg #[.bool nr, ur], .int .i64 0]) ∧ MU w' W.heap.size uq qs ∧ MU w' W.heap.size ur rs ∧ Sgn B18 nq qs zq ∧ Sgn B18 nr rs zr ∧
    z1 = zq * z2 + zr ∧ ((0 ≤ zr ∧ zr < z2) ∨ (z2 < zr ∧ zr ≤ 0)) ∧ Below W.heap.size W w'
/-- The same, and quotient and rest lie in different blocks. -/
def DMPost2 (W : World) (z1 z2 : Int) (e : Ending) (w' : World) : Prop :=
  ∃ M nq uq qs zq nr ur rs zr, e = .returned (.tuple #[.agg #[.bool nq, uq], .agg #[.bool nr, ur], .int .i64 0]) ∧ MR w' W.heap.size M uq qs ∧ MU w' M ur rs ∧ W.heap.size ≤ M ∧ Sgn B18 nq qs zq ∧ Sgn B18 nr rs zr ∧
    z1 = zq * z2 + zr ∧ ((0 ≤ zr ∧ zr < z2) ∨ (z2 < zr ∧ zr ≤ 0)) ∧ Below W.heap.size W w'
theorem DMPost2.one {W : World} {z1 z2 : Int} {e : Ending} {w' : World} (h : DMPost2 W z1 z2 e w') : DMPost W z1 z2 e w' := by
  obtain ⟨M, nq, uq, qs, zq, nr, ur, rs, zr, h1, h2, h3, h4, h5, h6, h7, h8, h9⟩ := h
  exact ⟨nq, uq, qs, zq, nr, ur, rs, zr, h1, h2.mu, Mine.low h3 h4, h5, h6, h7, h8, h9⟩
theorem floor_same (n1 n2 : Bool) {X Q V R : Int} (h : X = Q * V + R) (h0 : 0 ≤ R) (h1 : R < V) (hs : R = 0 ∨ n1 = n2) :
    sg n1 X = sg (n1 != n2) Q * sg n2 V + sg n1 R ∧ ((0 ≤ sg n1 R ∧ sg n1 R < sg n2 V) ∨ (sg n2 V < sg n1 R ∧ sg n1 R ≤ 0)) := by
  subst h
  cases n1 <;> cases n2 <;> simp [sg, Int.neg_mul, Int.mul_neg, Int.neg_neg] at hs ⊢ <;> omega
theorem floor_diff (n1 n2 : Bool) {X Q V R : Int} (h : X = Q * V + R) (h0 : 0 < R) (h1 : R < V) (hs : n1 ≠ n2) :
    sg n1 X = sg true (Q + 1) * sg n2 V + sg n2 (V - R) ∧ ((0 ≤ sg n2 (V - R) ∧ sg n2 (V - R) < sg n2 V) ∨ (sg n2 V < sg n2 (V - R) ∧ sg n2 (V - R) ≤ 0)) := by
  subst h
  cases n1 <;> cases n2 <;> simp [sg, Int.add_mul, Int.neg_add, Int.neg_mul, Int.mul_neg, Int.neg_neg] at hs ⊢ <;> omega
theorem MU.len {w : World} {B0 n c : Nat} {p : Option Addr} {ws : List Int} (h : MU w B0 (.slice p n c) ws) : n = ws.length := by
  rcases h with ⟨e, rfl⟩ | ⟨g, c', cur, e, _⟩
  · simp only [Value.slice.injEq] at e; simp [e.2.1]
  · simp only [Value.slice.injEq] at e; exact e.2.1
/-- Both results stored into their boxes. -/
theorem four_set {w : World} {B C : Nat} {a0 a1 b0 b1 : Value} (hn : B ≠ C) (x0 x1 y0 y1 : Value) (h0 : w.cell? ⟨B, 0, none⟩ = some a0) (h1 : w.cell? ⟨B, 1, none⟩ = some a1) (h2 : w.cell? ⟨C, 0, none⟩ = some b0) (h3 : w.cell? ⟨C, 1, none⟩ = some b1) :
    ((((w.setCell ⟨B, 0, none⟩ x0).setCell ⟨B, 1, none⟩ x1).setCell ⟨C, 0, none⟩ y0).setCell ⟨C, 1, none⟩ y1).cell? ⟨B, 0, none⟩ = some x0 ∧
    ((((w.setCell ⟨B, 0, none⟩ x0).setCell ⟨B, 1, none⟩ x1).setCell ⟨C, 0, none⟩ y0).setCell ⟨C, 1, none⟩ y1).cell? ⟨B, 1, none⟩ = some x1 ∧
    ((((w.setCell ⟨B, 0, none⟩ x0).setCell ⟨B, 1, none⟩ x1).setCell ⟨C, 0, none⟩ y0).setCell ⟨C, 1, none⟩ y1).cell? ⟨C, 0, none⟩ = some y0 ∧
    ((((w.setCell ⟨B, 0, none⟩ x0).setCell ⟨B, 1, none⟩ x1).setCell ⟨C, 0, none⟩ y0).setCell ⟨C, 1, none⟩ y1).cell? ⟨C, 1, none⟩ = some y1 := by
  have z := two_setW (x0 := x0) (x1 := x1) h0 h1
  have y := two_setW (x0 := y0) (x1 := y1) (cell_set2 (Ne.symm hn) h2 x0 x1) (cell_set2 (Ne.symm hn) h3 x0 x1)
  exact ⟨cell_set2 hn z.1 _ _, cell_set2 hn z.2 _ _, y.1, y.2⟩
theorem DMPost2.mk {W w w' : World} {B C L M : Nat} {z1 z2 zq zr : Int} {nq nr : Bool} {uq ur : Value} {qs rs : List Int} (x0 x1 y0 y1 : Value)
    (hq : MR w L M uq qs) (hr : MU w M ur rs) (hLM : L ≤ M) (hB : W.heap.size ≤ B) (hC : W.heap.size ≤ C) (lB : B < L) (lC : C < L) (hsq : Sgn B18 nq qs zq) (hsr : Sgn B18 nr rs zr) (he : z1 = zq * z2 + zr) (hb : (0 ≤ zr ∧ zr < z2) ∨ (z2 < zr ∧ zr ≤ 0)) (hw : Below W.heap.size W w)
    (hw' : w' = ((((w.setCell ⟨B, 0, none⟩ x0).setCell ⟨B, 1, none⟩ x1).setCell ⟨C, 0, none⟩ y0).setCell ⟨C, 1, none⟩ y1).drew) :
    DMPost2 W z1 z2 (.returned (.tuple #[.agg #[.bool nq, uq], .agg #[.bool nr, ur], .int .i64 0])) w' := by
  subst hw'
  have hq' : MR (((((w.setCell ⟨B, 0, none⟩ x0).setCell ⟨B, 1, none⟩ x1).setCell ⟨C, 0, none⟩ y0).setCell ⟨C, 1, none⟩ y1).drew) L M uq qs := (hq.set2 lB x0 x1).set2 lC y0 y1
  have hr' : MU (((((w.setCell ⟨B, 0, none⟩ x0).setCell ⟨B, 1, none⟩ x1).setCell ⟨C, 0, none⟩ y0).setCell ⟨C, 1, none⟩ y1).drew) M ur rs := (hr.set2 (Nat.lt_of_lt_of_le lB hLM) x0 x1).set2 (Nat.lt_of_lt_of_le lC hLM) y0 y1
  exact ⟨M, nq, uq, qs, zq, nr, ur, rs, zr, rfl, MR.lo hq' (by omega), hr', by omega, hsq, hsr, he, hb, ((((hw.setCell hB _).setCell hB _).setCell hC _).setCell hC _).drew⟩
end
section
open Go.ChangeShapes Go.WideShapes Go.ChangeAt Go.RowKit
set_option linter.unusedVariables false
set_option linter.unusedSimpArgs false
theorem cell_set4 {w : World} {B C D i : Nat} {v : Value} (h : B ≠ C) (h' : B ≠ D) (hc : w.cell? ⟨B, i, none⟩ = some v) (x y x' y' : Value) : ((((w.setCell ⟨C, 0, none⟩ x).setCell ⟨C, 1, none⟩ y).setCell ⟨D, 0, none⟩ x').setCell ⟨D, 1, none⟩ y').cell? ⟨B, i, none⟩ = some v :=
  cell_set2 h' (cell_set2 h hc x y) x' y'
theorem DMPost2.mk0 {W w w' : World} {B C L M : Nat} {z1 z2 zq zr : Int} {nq nr : Bool} {uq ur : Value} {qs rs : List Int} (x0 x1 y0 y1 : Value)
    (hq : MR w L M uq qs) (hr : MU w M ur rs) (hLM : L ≤ M) (hB : W.heap.size ≤ B) (hC : W.heap.size ≤ C) (lB : B < L) (lC : C < L) (hsq : Sgn B18 nq qs zq) (hsr : Sgn B18 nr rs zr) (he : z1 = zq * z2 + zr) (hb : (0 ≤ zr ∧ zr < z2) ∨ (z2 < zr ∧ zr ≤ 0)) (hw : Below W.heap.size W w)
    (hw' : w' = (((w.setCell ⟨B, 0, none⟩ x0).setCell ⟨B, 1, none⟩ x1).setCell ⟨C, 0, none⟩ y0).setCell ⟨C, 1, none⟩ y1) :
    DMPost2 W z1 z2 (.returned (.tuple #[.agg #[.bool nq, uq], .agg #[.bool nr, ur], .int .i64 0])) w' := by
  subst hw'
  exact ⟨M, nq, uq, qs, zq, nr, ur, rs, zr, rfl, MR.lo ((hq.set2 lB x0 x1).set2 lC y0 y1) (by omega), (hr.set2 (Nat.lt_of_lt_of_le lB hLM) x0 x1).set2 (Nat.lt_of_lt_of_le lC hLM) y0 y1, by omega, hsq, hsr, he, hb, (((hw.setCell hB _).setCell hB _).setCell hC _).setCell hC _⟩
theorem drew_cell {W : World} {a : Addr} {v : Value} (h : W.cell? a = some v) : W.drew.cell? a = some v := h
theorem abs_same {n m : Bool} {q : List Int} {v : Int} (h : Sgn B18 m q (sg n v)) (hv : 0 ≤ v) : val B18 q = v := by
  rw [h.abs (by decide)]
  cases n <;> simp [sg] <;> omega
theorem dig_1 : Dig B18 [1] := by
  intro i
  cases i with
  | zero => simp [B18]
  | succ i => simp [B18]
theorem Bx4.set2 {w : World} {B C : Nat} {n1 n2 : Bool} {u1 u2 : Value} (h : Bx4 w B n1 u1 n2 u2) (hC : B + 1 + 1 + 1 < C) (x y : Value) : Bx4 ((w.setCell ⟨C, 0, none⟩ x).setCell ⟨C, 1, none⟩ y) B n1 u1 n2 u2 :=
  ⟨cell_set2 (by omega) h.x0 x y, cell_set2 (by omega) h.x1 x y, cell_set2 (by omega) h.y0 x y, cell_set2 (by omega) h.y1 x y, cell_set2 (by omega) h.r0 x y, cell_set2 (by omega) h.r1 x y, by simp [h.f0], by simp [h.f1],
    cell_set2 (by omega) h.s0 x y, cell_set2 (by omega) h.s1 x y, by simp [h.g0], by simp [h.g1], by simp [World.setCell]; exact h.lt⟩
theorem made_at2 {W5 : World} {L c : Nat} {p : Option Addr} {ws : List Int} (neg : Bool) (hM : MU W5 L (.slice p ws.length c) ws) (hd : Dig B18 ws) (hl : ws.length ≤ 17592186043904) (wx : World) (hx : Below W5.heap.size W5 wx) :
    Calls Tryz.prog 53 #[.bool neg, .slice p ws.length c] wx (MadeAt W5 wx L W5.heap.size neg ws) := by
  refine (made_any neg p c ws wx ((hM.keep hx).rd hl)).mono ?_
  rintro e w' ⟨k, hk, rfl, hb⟩
  obtain ⟨m, p', q, hv, hM', hS, _⟩ := made_mr neg hk hd hM.mr
  have hb' := hx.trans (hb.mono hx.size)
  exact ⟨m, p', k, q, by rw [hv], hM'.block (fun q' _ h => hb'.block q' h), hS, hb', hb⟩
end
section
open Go.ChangeShapes Go.WideShapes Go.ChangeAt Go.RowKit
set_option linter.unusedVariables false
set_option linter.unusedSimpArgs false
def D64Post (W : World) (hi lo y : Int) (e : Ending) (w' : World) : Prop :=
  ∃ q r : Int, e = .returned (.tuple #[.int .u64 q, .int .u64 r]) ∧ hi * 18446744073709551616 + lo = q * y + r ∧ 0 ≤ q ∧ 0 ≤ r ∧ r < y ∧ Below W.heap.size W w'
theorem div64_small (lo y : Int) (hl : 0 ≤ lo ∧ lo ≤ 18446744073709551615) (hy : 0 < y ∧ y ≤ 18446744073709551615) (w : World) :
    Calls Tryz.prog 103 #[.int .u64 0, .int .u64 lo, .int .u64 y] w (D64Post w 0 lo y) := by
  have h0 : (y == 0) = false := by simp; omega
  have h0' : ¬ y = 0 := by omega
  have h1 : ¬ y ≤ 0 := by omega
  go_enter Tryz.func103, Tryz.ntmps103
  go_wp2
  go_region
  go_wp2
  go_ret2
  exact ⟨lo / y, lo % y, rfl, by rw [Int.mul_comm (lo / y)]; have := Int.mul_ediv_add_emod lo y; omega, Int.ediv_nonneg hl.1 (by omega), Int.emod_nonneg _ h0', Int.emod_lt_of_pos _ hy.1, (Below.refl _ _).drew⟩
end
section
open Go.ChangeShapes Go.WideShapes Go.ChangeAt Go.RowKit
set_option linter.unusedVariables false
set_option linter.unusedSimpArgs false
structure LimbState (xs os : List Int) (d : Int) (m : Nat) (rest : Int) : Prop where
  len : os.length = xs.length
  dig : Dig B18 os
  eq : val B18 (xs.drop m) = val B18 (os.drop m) * d + rest
  lo : 0 ≤ rest
  hi : rest < d
theorem LimbState.start (xs : List Int) {d : Int} (hd : 0 < d) : LimbState xs (List.replicate xs.length 0) d xs.length 0 :=
  ⟨by simp, fun i => by rw [List.getD_eq_getElem?_getD, List.getElem?_replicate]; split <;> simp [B18], by simp [val], Int.le_refl 0, hd⟩
theorem val_drop {b : Int} {ws : List Int} {k : Nat} (hk : k < ws.length) : val b (ws.drop k) = ws.getD k 0 + b * val b (ws.drop (k + 1)) := by
  rw [List.drop_eq_getElem_cons hk, List.getD_eq_getElem?_getD, List.getElem?_eq_getElem hk]
  rfl
theorem LimbState.step {xs os : List Int} {d rest q r : Int} {p : Nat} (h : LimbState xs os d (p + 1) rest) (hp : p < xs.length) (hx : Dig B18 xs) (e : rest * B18 + xs.getD p 0 = q * d + r) (hq : 0 ≤ q) (hr : 0 ≤ r ∧ r < d) : LimbState xs (os.set p q) d p r := by
  have hl := h.len
  have hb := hx p
  have hd : 0 < d := by omega
  have hqb : q < B18 := by
    refine Int.lt_of_not_ge fun hge => ?_
    have h1 : B18 * d ≤ q * d := Int.mul_le_mul_of_nonneg_right hge (by omega)
    have h2 : rest * B18 ≤ (d - 1) * B18 := Int.mul_le_mul_of_nonneg_right (by have := h.hi; omega) (by decide)
    rw [Int.sub_mul, Int.mul_comm d B18] at h2
    omega
  refine ⟨by rw [List.length_set]; exact hl, h.dig.set p q ⟨hq, hqb⟩, ?_, hr.1, hr.2⟩
  rw [val_drop hp, val_drop (ws := os.set p q) (by rw [List.length_set]; omega), h.eq, getD_set' _ _ _ _ (by omega), if_pos rfl, List.drop_set_of_lt (by omega)]
  have e2 : B18 * (val B18 (os.drop (p + 1)) * d + rest) = B18 * val B18 (os.drop (p + 1)) * d + rest * B18 := by rw [Int.mul_add, Int.mul_assoc, Int.mul_comm B18 rest]
  rw [e2, Int.add_mul]
  omega
theorem wide_step {rest x d : Nat} (hr : rest < d) (hx : x < 1000000000000000000) (hd : d < 1000000000000000000) :
    rest * 1000000000000000000 / 18446744073709551616 + (rest * 1000000000000000000 % 18446744073709551616 + x + 0) / 18446744073709551616 < d ∧
    (rest * 1000000000000000000 / 18446744073709551616 + (rest * 1000000000000000000 % 18446744073709551616 + x + 0) / 18446744073709551616) * 18446744073709551616 + (rest * 1000000000000000000 % 18446744073709551616 + x + 0) % 18446744073709551616 = rest * 1000000000000000000 + x := by
  omega
def LimbPost (W : World) (xs : List Int) (d : Int) (e : Ending) (w' : World) : Prop :=
  ∃ g qs r, e = .returned (.tuple #[.slice (some ⟨g, 0, none⟩) qs.length qs.length, .int .u64 r]) ∧ W.heap.size ≤ g ∧ LU w' g qs ∧ qs.length = xs.length ∧ Dig B18 qs ∧ val B18 xs = val B18 qs * d + r ∧ 0 ≤ r ∧ r < d ∧ Below W.heap.size W w'
theorem add64_run (x y c : Nat) (hc : c ≤ 1) (w : World) :
    (callFunc 102 #[.int .u64 x, .int .u64 y, .int .u64 c]).run Tryz.prog w =
      .ok (.value (.tuple #[.int .u64 (((x + y + c) % 18446744073709551616 : Nat) : Int), .int .u64 (((x + y + c) / 18446744073709551616 : Nat) : Int)])) w := by
  rw [run_callFunc_extern Tryz.func102 (by kernel_rfl) (by kernel_rfl) (by kernel_rfl) (e := add64Entry) (by kernel_rfl), run_add64 x y c (by omega) (by omega) (by omega) (by omega)]
  simp only [Result.andThen]
  congr 5 <;> omega
theorem mul64_at (x : Nat) (hx : x < 18446744073709551616) (w : World) :
    Calls Tryz.prog 101 #[.int .u64 x, .int .u64 1000000000000000000] w fun e w' => (∃ hi lo : Int, e = .returned (.tuple #[.int .u64 hi, .int .u64 lo]) ∧ hi * 18446744073709551616 + lo = x * 1000000000000000000 ∧ 0 ≤ hi ∧ 0 ≤ lo ∧ lo ≤ 18446744073709551615) ∧ w' = w := by
  refine (Tryz.bits_Mul64 x 1000000000000000000 hx (by omega) w).mono ?_
  rintro e w' ⟨rfl, rfl⟩
  exact ⟨⟨_, _, rfl, by omega, by omega, by omega, by omega⟩, rfl⟩
theorem add64_at (x y : Int) (hx : 0 ≤ x ∧ x ≤ 18446744073709551615) (hy : 0 ≤ y ∧ y ≤ 18446744073709551615) (w : World) :
    ∃ lo c : Int, Sem.run Tryz.prog (callFunc 102 #[.int .u64 x, .int .u64 y, .int .u64 0]) w = .ok (.value (.tuple #[.int .u64 lo, .int .u64 c])) w ∧ c * 18446744073709551616 + lo = x + y ∧ 0 ≤ lo ∧ lo ≤ 18446744073709551615 ∧ 0 ≤ c ∧ c ≤ 1 := by
  obtain ⟨x, rfl⟩ := Int.eq_ofNat_of_zero_le hx.1
  obtain ⟨y, rfl⟩ := Int.eq_ofNat_of_zero_le hy.1
  exact ⟨_, _, add64_run x y 0 (by omega) w, by omega, by omega, by omega, by omega, by omega⟩
end
section
open Go.ChangeShapes Go.WideShapes Go.ChangeAt Go.RowKit
set_option linter.unusedVariables false
set_option linter.unusedSimpArgs false
end
section
open Go.ChangeShapes Go.WideShapes Go.ChangeAt Go.RowKit
set_option linter.unusedVariables false
set_option linter.unusedSimpArgs false
theorem dig_d {d : Int} (h : 0 ≤ d ∧ d < B18) : Dig B18 [d] := by
  intro i
  cases i with
  | zero => simpa using h
  | succ i => simp [B18]
theorem canon_d {d : Int} (h : 0 < d ∧ d < B18) : Canon B18 [d] := ⟨dig_d ⟨by omega, h.2⟩, fun _ => by simp; omega⟩
theorem sgn7 : Sgn B18 true [7] (-7) := ⟨canon_d ⟨by decide, by decide⟩, fun _ => by simp, by simp [sg, val]⟩
theorem sgn2 : Sgn B18 false [2] 2 := ⟨canon_d ⟨by decide, by decide⟩, fun h => (by cases h), by simp [sg, val]⟩
end
end Go.Proofs.YtbhommcpgejbfaaGreatDoor
