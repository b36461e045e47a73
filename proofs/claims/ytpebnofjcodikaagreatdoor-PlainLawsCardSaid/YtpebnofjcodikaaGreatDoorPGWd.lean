/- Layer 2: whole.DivMod, over what divSizes answers. Layer 2: whole.DivMod, walked. Layer 2: whole.DivMod: what it answers, and the numbers behind it. Layer 2: whole.DivMod, walked, over what divSizes answers. Layer 2: math/bits.Div64, as far as whole.divLimb needs it: its contract's words, and the way of a high word of 0. Layer 2: whole.divLimb: a row of limbs over one limb, over what Div64 answers. Layer 2: whole.divSizes by one limb. Layer 2: what known() asks of DivMod: -7 over 2. The builder of strings, as layer 2 uses it: writing a text to a builder of the call's own. Layer 2: the text of a small number. Layer 2: whole.Of: the number of an int. Layer 2: known(): the example that each statement asks first: it answers true. -/
import Derived.Test.YtpebnofjcodikaaGreatDoorPGWc
import Derived.Deep.DeepCutAuto
import Derived.Test.YtpebnofjcodikaaGreatDoorPGWa
import Derived.BigQuiet
import Derived.Test.YtpebnofjcodikaaGreatDoorShelf
import Derived.Shelf.Spec.BitsCarry
import Derived.Lib.AppendStr
import Derived.Laws.Externs
import Derived.ProofKit
import Derived.OpenShut
import Derived.OwnWalk
import Derived.Outline
import Derived.Lib.Hide
import Derived.WalkLawsBesides
import Derived.Lib.ItoaNum
namespace Go.Proofs.YtpebnofjcodikaaGreatDoor
section
open Go.ChangeShapes Go.WideShapes Go.ChangeAt Go.RowKit
set_option linter.unusedVariables false
set_option linter.unusedSimpArgs false
/-- A row of one's own, between two blocks. -/
def MR (w : World) (lo hi : Nat) (u : Value) (ws : List Int) : Prop :=
  (u = .slice none 0 0 ∧ ws = []) ∨ ∃ g c cur, u = .slice (some ⟨g, 0, none⟩) ws.length c ∧ ws.length ≤ c ∧ c ≤ Array.size cur ∧ lo ≤ g ∧ g < hi ∧
    w.heap[g]? = some (.cells cur U64 (0, 0)) ∧ ∀ i, i < ws.length → cur[i]? = some (.int .u64 (ws.getD i 0))
theorem MU.mr {w : World} {lo : Nat} {u : Value} {ws : List Int} (h : MU w lo u ws) : MR w lo w.heap.size u ws := by
  rcases h with h | ⟨g, c, cur, h0, h1, h2, h3, h4, h5⟩
  · exact .inl h
  · exact .inr ⟨g, c, cur, h0, h1, h2, h3, (Array.getElem?_eq_some_iff.1 h4).1, h4, h5⟩
theorem MR.mu {w : World} {lo hi : Nat} {u : Value} {ws : List Int} (h : MR w lo hi u ws) : MU w lo u ws := by
  rcases h with h | ⟨g, c, cur, h0, h1, h2, h3, _, h4, h5⟩
  · exact .inl h
  · exact .inr ⟨g, c, cur, h0, h1, h2, h3, h4, h5⟩
theorem MR.block {w w' : World} {lo hi : Nat} {u : Value} {ws : List Int} (h : MR w lo hi u ws) (hb : ∀ q, lo ≤ q → q < hi → w'.heap[q]? = w.heap[q]?) : MR w' lo hi u ws := by
  rcases h with h | ⟨g, c, cur, h0, h1, h2, h3, h4, h5, h6⟩
  · exact .inl h
  · exact .inr ⟨g, c, cur, h0, h1, h2, h3, h4, (hb g h3 h4).trans h5, h6⟩
theorem MR.lo {w : World} {lo lo' hi : Nat} {u : Value} {ws : List Int} (h : MR w lo hi u ws) (hl : lo' ≤ lo) : MR w lo' hi u ws := by
  rcases h with h | ⟨g, c, cur, h0, h1, h2, h3, h4, h5, h6⟩
  · exact .inl h
  · exact .inr ⟨g, c, cur, h0, h1, h2, Nat.le_trans hl h3, h4, h5, h6⟩
theorem MR.hi {w : World} {lo hi hi' : Nat} {u : Value} {ws : List Int} (h : MR w lo hi u ws) (hl : hi ≤ hi') : MR w lo hi' u ws := by
  rcases h with h | ⟨g, c, cur, h0, h1, h2, h3, h4, h5, h6⟩
  · exact .inl h
  · exact .inr ⟨g, c, cur, h0, h1, h2, h3, Nat.lt_of_lt_of_le h4 hl, h5, h6⟩
theorem MR.keep {w w' : World} {lo hi : Nat} {u : Value} {ws : List Int} (h : MR w lo hi u ws) (hb : Below w.heap.size w w') : MR w' lo hi u ws := by
  rcases h with h | ⟨g, c, cur, h0, h1, h2, h3, h4, h5, h6⟩
  · exact .inl h
  · exact .inr ⟨g, c, cur, h0, h1, h2, h3, h4, (hb.block g (Array.getElem?_eq_some_iff.1 h5).1).trans h5, h6⟩
theorem MR.set2 {w : World} {lo hi B : Nat} {u : Value} {ws : List Int} (h : MR w lo hi u ws) (hB : B < lo) (x0 x1 : Value) : MR ((w.setCell ⟨B, 0, none⟩ x0).setCell ⟨B, 1, none⟩ x1) lo hi u ws :=
  h.block fun q hq _ => by rw [Below.heap_setCell _ _ _ _ (by simp; omega), Below.heap_setCell _ _ _ _ (by simp; omega)]
theorem MR.take {w : World} {lo hi : Nat} {p : Option Addr} {n c m : Nat} {ws : List Int} (h : MR w lo hi (.slice p n c) ws) (hm : m ≤ n) (h0 : 0 < m) : MR w lo hi (.slice p m m) (ws.take m) := by
  rcases h with ⟨e, rfl⟩ | ⟨g, c', cur, e, h1, h2, h3, h4, h5, h6⟩
  · simp only [Value.slice.injEq] at e; omega
  · simp only [Value.slice.injEq] at e
    obtain ⟨rfl, rfl, rfl⟩ := e
    have hl : (ws.take m).length = m := by rw [List.length_take]; omega
    refine .inr ⟨g, m, cur, by rw [hl], by rw [hl]; exact Nat.le_refl _, by omega, h3, h4, h5, fun i hi => ?_⟩
    rw [hl] at hi
    rw [getD_take, if_pos hi]
    exact h6 i (by omega)
/-- What divSizes answers. -/
def DivPost (W : World) (xs ys : List Int) (e : Ending) (w' : World) : Prop :=
  ∃ uq qs gr rs, e = .returned (.tuple #[uq, .slice (some ⟨gr, 0, none⟩) rs.length rs.length]) ∧ MR w' W.heap.size gr uq qs ∧ LU w' gr rs ∧ W.heap.size ≤ gr ∧ Dig B18 qs ∧ Dig B18 rs ∧
    qs.length ≤ 1000 ∧ rs.length ≤ 1000 ∧ val B18 xs = val B18 qs * val B18 ys + val B18 rs ∧ val B18 rs < val B18 ys ∧ Below W.heap.size W w'
/-- 'made' of a row of one's own. -/
theorem made_mr {w : World} {lo hi k n c : Nat} {p : Option Addr} {ws : List Int} (neg : Bool) (hk : CutAt ws k) (hd : Dig B18 ws) (hM : MR w lo hi (.slice p n c) ws) :
    ∃ neg' p' ws', madeV neg p k = .agg #[.bool neg', .slice p' k k] ∧ MR w lo hi (.slice p' k k) ws' ∧ Sgn B18 neg' ws' (sg neg (val B18 ws)) ∧ ws'.length = k := by
  obtain ⟨h1, h2, h3⟩ := hk.canon (b := B18) (by decide) hd
  have hn : n = ws.length := by
    rcases hM with ⟨e, rfl⟩ | ⟨g, c', cur, e, _⟩
    · simp only [Value.slice.injEq] at e; simp [e.2.1]
    · simp only [Value.slice.injEq] at e; exact e.2.1
  by_cases h0 : k = 0
  · subst h0
    refine ⟨false, none, [], if_pos rfl, .inl ⟨rfl, rfl⟩, ⟨Canon.nil (by decide), fun h => (by cases h), ?_⟩, rfl⟩
    rw [List.take_zero] at h2
    rw [← h2]
    cases neg <;> rfl
  · exact ⟨neg, _, ws.take k, if_neg h0, MR.take hM (by rw [hn]; exact hk.1) (by omega), ⟨h1, fun _ => by omega, by rw [h2]⟩, h3⟩
structure Bx4 (w : World) (B : Nat) (n1 : Bool) (u1 : Value) (n2 : Bool) (u2 : Value) : Prop where
  x0 : w.cell? ⟨B, 0, none⟩ = some (.bool n1)
  x1 : w.cell? ⟨B, 1, none⟩ = some u1
  y0 : w.cell? ⟨B + 1, 0, none⟩ = some (.bool n2)
  y1 : w.cell? ⟨B + 1, 1, none⟩ = some u2
  r0 : w.cell? ⟨B + 1 + 1, 0, none⟩ = some (.bool false)
  r1 : w.cell? ⟨B + 1 + 1, 1, none⟩ = some (.slice none 0 0)
  f0 : w.frozen? ⟨B + 1 + 1, 0, none⟩ = false
  f1 : w.frozen? ⟨B + 1 + 1, 1, none⟩ = false
  s0 : w.cell? ⟨B + 1 + 1 + 1, 0, none⟩ = some (.bool false)
  s1 : w.cell? ⟨B + 1 + 1 + 1, 1, none⟩ = some (.slice none 0 0)
  g0 : w.frozen? ⟨B + 1 + 1 + 1, 0, none⟩ = false
  g1 : w.frozen? ⟨B + 1 + 1 + 1, 1, none⟩ = false
  lt : B + 1 + 1 + 1 < w.heap.size
theorem Bx4.keep {w w' : World} {B : Nat} {n1 n2 : Bool} {u1 u2 : Value} (h : Bx4 w B n1 u1 n2 u2) (hb : ∀ q, q < w.heap.size → w'.heap[q]? = w.heap[q]?) (hs : w.heap.size ≤ w'.heap.size) : Bx4 w' B n1 u1 n2 u2 := by
  have hl := h.lt
  have c : ∀ b o, b < w.heap.size → w'.cell? ⟨b, o, none⟩ = w.cell? ⟨b, o, none⟩ := fun b o h => World.cell?_of_block (a := ⟨b, o, none⟩) (hb b h)
  have f : ∀ b o, b < w.heap.size → w'.frozen? ⟨b, o, none⟩ = w.frozen? ⟨b, o, none⟩ := fun b o h => World.frozen?_of_block (a := ⟨b, o, none⟩) (hb b h)
  exact ⟨(c _ _ (by omega)).trans h.x0, (c _ _ (by omega)).trans h.x1, (c _ _ (by omega)).trans h.y0, (c _ _ (by omega)).trans h.y1, (c _ _ (by omega)).trans h.r0, (c _ _ (by omega)).trans h.r1,
    (f _ _ (by omega)).trans h.f0, (f _ _ (by omega)).trans h.f1, (c _ _ (by omega)).trans h.s0, (c _ _ (by omega)).trans h.s1, (f _ _ (by omega)).trans h.g0, (f _ _ (by omega)).trans h.g1, Nat.lt_of_lt_of_le hl hs⟩
theorem bx4_new (w : World) (n1 n2 : Bool) (u1 u2 : Value) (T : TypeId) : Bx4 ((((w.alloc (.cells #[.bool n1, u1] T)).alloc (.cells #[.bool n2, u2] T)).alloc (.cells #[.bool false, .slice none 0 0] T)).alloc (.cells #[.bool false, .slice none 0 0] T)) w.heap.size n1 u1 n2 u2 := by
  have e1 : w.heap.size + 1 = (w.alloc (.cells #[.bool n1, u1] T)).heap.size := by simp
  have e2 : w.heap.size + 1 + 1 = ((w.alloc (.cells #[.bool n1, u1] T)).alloc (.cells #[.bool n2, u2] T)).heap.size := by simp
  have e3 : w.heap.size + 1 + 1 + 1 = (((w.alloc (.cells #[.bool n1, u1] T)).alloc (.cells #[.bool n2, u2] T)).alloc (.cells #[.bool false, .slice none 0 0] T)).heap.size := by simp
  refine ⟨alloc_cell (alloc_cell (alloc_cell (by simp) _) _) _, alloc_cell (alloc_cell (alloc_cell (by simp) _) _) _, ?_, ?_, ?_, ?_, ?_, ?_, ?_, ?_, ?_, ?_, by simp⟩
  · rw [e1]; exact alloc_cell (alloc_cell (by generalize w.alloc _ = W; simp) _) _
  · rw [e1]; exact alloc_cell (alloc_cell (by generalize w.alloc _ = W; simp) _) _
  · rw [e2]; exact alloc_cell (by generalize World.alloc (World.alloc w _) _ = W; simp) _
  · rw [e2]; exact alloc_cell (by generalize World.alloc (World.alloc w _) _ = W; simp) _
  · rw [e2]; exact alloc_frozen (by simp) (by generalize World.alloc (World.alloc w _) _ = W; simp) _
  · rw [e2]; exact alloc_frozen (by simp) (by generalize World.alloc (World.alloc w _) _ = W; simp) _
  · rw [e3]; generalize World.alloc (World.alloc (World.alloc w _) _) _ = W; simp
  · rw [e3]; generalize World.alloc (World.alloc (World.alloc w _) _) _ = W; simp
  · rw [e3]; generalize World.alloc (World.alloc (World.alloc w _) _) _ = W; simp
  · rw [e3]; generalize World.alloc (World.alloc (World.alloc w _) _) _ = W; simp
theorem below4 (w : World) (o1 o2 o3 o4 : Obj) : Below w.heap.size w ((((w.alloc o1).alloc o2).alloc o3).alloc o4) :=
  ((((Below.refl _ _).alloc (Nat.le_refl _) _).alloc (by simp) _).alloc (by simp; omega) _).alloc (by simp; omega) _
/-- Behind the two calls of made: quotient and rest of sizes in boxes of their own. -/
structure QR (w wx : World) (n1 : Bool) (u1 : Value) (n2 : Bool) (u2 : Value) (L M H b9 b10 : Nat) (m9 : Bool) (p9 : Option Addr) (k9 : Nat) (q : List Int) (m10 : Bool) (p10 : Option Addr) (k10 : Nat) (r : List Int) (zq zr : Int) : Prop where
  box : Bx4 wx w.heap.size n1 u1 n2 u2
  below : Below w.heap.size w wx
  c9 : wx.cell? ⟨b9, 0, none⟩ = some (.bool m9)
  d9 : wx.cell? ⟨b9, 1, none⟩ = some (.slice p9 k9 k9)
  f9 : wx.frozen? ⟨b9, 0, none⟩ = false
  g9 : wx.frozen? ⟨b9, 1, none⟩ = false
  c10 : wx.cell? ⟨b10, 0, none⟩ = some (.bool m10)
  d10 : wx.cell? ⟨b10, 1, none⟩ = some (.slice p10 k10 k10)
  lo : w.heap.size + 1 + 1 + 1 < L
  h9 : H ≤ b9
  h10 : H ≤ b10
  ne : b9 ≠ b10
  lM : L ≤ M
  hM : M ≤ H
  q9 : MR wx L M (.slice p9 k9 k9) q
  q10 : MR wx M H (.slice p10 k10 k10) r
  s9 : Sgn B18 m9 q zq
  s10 : Sgn B18 m10 r zr
end
section
open Go.ChangeShapes Go.WideShapes Go.ChangeAt Go.RowKit
set_option linter.unusedVariables false
set_option linter.unusedSimpArgs false
def MadeAt (W5 wx : World) (L H : Nat) (neg : Bool) (ws : List Int) (e : Ending) (w' : World) : Prop :=
  ∃ m p k q, e = .returned (.agg #[.bool m, .slice p k k]) ∧ MR w' L H (.slice p k k) q ∧ Sgn B18 m q (sg neg (val B18 ws)) ∧ Below W5.heap.size W5 w' ∧ Below wx.heap.size wx w'
theorem made_at {W5 : World} {L H n c : Nat} {p : Option Addr} {ws : List Int} (neg : Bool) (hM : MR W5 L H (.slice p ws.length c) ws) (hH : H ≤ W5.heap.size) (hd : Dig B18 ws) (hl : ws.length ≤ 1000) (wx : World) (hx : Below W5.heap.size W5 wx) :
    Calls Tryz.prog 89 #[.bool neg, .slice p ws.length c] wx (MadeAt W5 wx L H neg ws) := by
  refine (made_any neg p c ws wx ((hM.mu.keep hx).rd (by omega))).mono ?_
  rintro e w' ⟨k, hk, rfl, hb⟩
  obtain ⟨m, p', q, hv, hM', hS, _⟩ := made_mr neg hk hd hM
  have hb' := hx.trans (hb.mono hx.size)
  exact ⟨m, p', k, q, by rw [hv], hM'.block (fun q' _ h => hb'.block q' (Nat.lt_of_lt_of_le h hH)), hS, hb', hb⟩
structure Box2 (w : World) (B : Nat) (a b : Value) : Prop where
  c0 : w.cell? ⟨B, 0, none⟩ = some a
  c1 : w.cell? ⟨B, 1, none⟩ = some b
  f0 : w.frozen? ⟨B, 0, none⟩ = false
  f1 : w.frozen? ⟨B, 1, none⟩ = false
theorem Box2.lt {w : World} {B : Nat} {a b : Value} (h : Box2 w B a b) : B < w.heap.size := World.block_lt_of_cell? w ⟨B, 0, none⟩ h.c0
theorem Box2.new (X : World) (a b : Value) (T : TypeId) {B : Nat} (e : B = X.heap.size) : Box2 (X.alloc (.cells #[a, b] T)) B a b := by
  subst e; exact ⟨by simp, by simp, by simp, by simp⟩
theorem Box2.keep {w w' : World} {B : Nat} {a b : Value} (h : Box2 w B a b) (hb : Below w.heap.size w w') : Box2 w' B a b :=
  ⟨(World.cell?_of_block (a := ⟨B, 0, none⟩) (hb.block B h.lt)).trans h.c0, (World.cell?_of_block (a := ⟨B, 1, none⟩) (hb.block B h.lt)).trans h.c1,
    (World.frozen?_of_block (a := ⟨B, 0, none⟩) (hb.block B h.lt)).trans h.f0, (World.frozen?_of_block (a := ⟨B, 1, none⟩) (hb.block B h.lt)).trans h.f1⟩
theorem Box2.alloc {w : World} {B : Nat} {a b : Value} (h : Box2 w B a b) (o : Obj) : Box2 (w.alloc o) B a b := h.keep ((Below.refl _ _).alloc (Nat.le_refl _) o)
theorem Box2.put {w : World} {B : Nat} {a b : Value} (x y : Value) (h : Box2 w B a b) : Box2 ((w.setCell ⟨B, 0, none⟩ x).setCell ⟨B, 1, none⟩ y) B x y :=
  ⟨(two_setW h.c0 h.c1).1, (two_setW h.c0 h.c1).2, by simp [h.f0], by simp [h.f1]⟩
theorem Box2.put0 {w : World} {B : Nat} (x y : Value) (h : Box2 w B (.bool false) (.slice none 0 0)) : Box2 ((w.setCell ⟨B, 0, none⟩ x).setCell ⟨B, 1, none⟩ y) B x y := h.put x y

theorem Box2.set2 {w : World} {B C : Nat} {a b : Value} (hn : B ≠ C) (x y : Value) (h : Box2 w B a b) : Box2 ((w.setCell ⟨C, 0, none⟩ x).setCell ⟨C, 1, none⟩ y) B a b :=
  ⟨cell_set2 hn h.c0 x y, cell_set2 hn h.c1 x y, by simp [h.f0], by simp [h.f1]⟩
theorem Box2.all {w : World} {B : Nat} {a b : Value} (h : Box2 w B a b) : w.cell? ⟨B, 0, none⟩ = some a ∧ w.cell? ⟨B, 1, none⟩ = some b ∧ w.frozen? ⟨B, 0, none⟩ = false ∧ w.frozen? ⟨B, 1, none⟩ = false ∧ B < w.heap.size ∧ B < w.heap.size + 1 ∧ B ≠ w.heap.size ∧ B ≠ w.heap.size + 1 :=
  ⟨h.c0, h.c1, h.f0, h.f1, h.lt, Nat.lt_succ_of_lt h.lt, Nat.ne_of_lt h.lt, Nat.ne_of_lt (Nat.lt_succ_of_lt h.lt)⟩
theorem Box2.drew {w : World} {B : Nat} {a b : Value} (h : Box2 w B a b) : Box2 w.drew B a b := ⟨h.c0, h.c1, h.f0, h.f1⟩
theorem QR.leaf {w w5 wx w6 w7 : World} {n1 : Bool} {u1 : Value} {n2 : Bool} {u2 : Value} {L M b9 b10 : Nat} {m9 : Bool} {p9 : Option Addr} {k9 : Nat} {q : List Int} {m10 : Bool} {p10 : Option Addr} {k10 : Nat} {r : List Int} {zq zr : Int}
    (hX : Bx4 w5 w.heap.size n1 u1 n2 u2) (hB : Below w.heap.size w w5) (hL : w.heap.size + 1 + 1 + 1 < L) (hLM : L ≤ M) (hMH : M ≤ w5.heap.size) (h6 : Below w5.heap.size w5 w6) (h7 : Below w5.heap.size w5 w7)
    (hR9 : MR w6 L M (.slice p9 k9 k9) q) (hS9 : Sgn B18 m9 q zq) (hR10 : MR w7 M w5.heap.size (.slice p10 k10 k10) r) (hS10 : Sgn B18 m10 r zr)
    (hx : Below w5.heap.size w5 wx) (hb9 : Box2 wx b9 (.bool m9) (.slice p9 k9 k9)) (hb10 : Box2 wx b10 (.bool m10) (.slice p10 k10 k10)) (l9 : w5.heap.size ≤ b9) (l10 : w5.heap.size ≤ b10) (hn : b9 ≠ b10) :
    QR w wx n1 u1 n2 u2 L M w5.heap.size b9 b10 m9 p9 k9 q m10 p10 k10 r zq zr where
  box := hX.keep hx.block hx.size
  below := hB.trans (hx.mono hB.size)
  c9 := hb9.c0
  d9 := hb9.c1
  f9 := hb9.f0
  g9 := hb9.f1
  c10 := hb10.c0
  d10 := hb10.c1
  lo := hL
  h9 := l9
  h10 := l10
  ne := hn
  lM := hLM
  hM := hMH
  q9 := hR9.block fun q' _ h => (hx.block q' (Nat.lt_of_lt_of_le h hMH)).trans (h6.block q' (Nat.lt_of_lt_of_le h hMH)).symm
  q10 := hR10.block fun q' _ h => (hx.block q' h).trans (h7.block q' h).symm
  s9 := hS9
  s10 := hS10
end
section
open Go.ChangeShapes Go.WideShapes Go.ChangeAt Go.RowKit
set_option linter.unusedVariables false
set_option linter.unusedSimpArgs false
def DMPost (W : World) (z1 z2 : Int) (e : Ending) (w' : World) : Prop :=
  ∃ nq uq qs zq nr ur rs zr, e = .returned (.tuple #[.agg #[.bool nq, uq], .agg #[.bool nr, ur], .int .i64 0]) ∧ MU w' W.heap.size uq qs ∧ MU w' W.heap.size ur rs ∧ Sgn B18 nq qs zq ∧ Sgn B18 nr rs zr ∧
    z1 = zq * z2 + zr ∧ ((0 ≤ zr ∧ zr < z2) ∨ (z2 < zr ∧ zr ≤ 0)) ∧ Below W.heap.size W w'
/-- The same, and quotient and rest lie in different blocks. -/
def DMPost2 (W : World) (z1 z2 : Int) (e : Ending) (w' : World) : Prop :=
  ∃ M nq uq qs zq nr ur rs zr, e = .returned (.tuple #[.agg #[.bool nq, uq], .agg #[.bool nr, ur], .int .i64 0]) ∧ MR w' W.heap.size M uq qs ∧ MU w' M ur rs ∧ W.heap.size ≤ M ∧ Sgn B18 nq qs zq ∧ Sgn B18 nr rs zr ∧
    z1 = zq * z2 + zr ∧ ((0 ≤ zr ∧ zr < z2) ∨ (z2 < zr ∧ zr ≤ 0)) ∧ Below W.heap.size W w'
theorem DMPost2.one {W : World} {z1 z2 : Int} {e : Ending} {w' : World} (h : DMPost2 W z1 z2 e w') : DMPost W z1 z2 e w' := by
  obtain ⟨M, nq, uq, qs, zq, nr, ur, rs, zr, h1, h2, h3, h4, h5, h6, h7, h8, h9⟩ := h
  exact ⟨nq, uq, qs, zq, nr, ur, rs, zr, h1, h2.mu, Mine.low h3 h4, h5, h6, h7, h8, h9⟩
theorem floor_same (n1 n2 : Bool) {X Q V R : Int} (h : X = Q * V + R) (h0 : 0 ≤ R) (h1 : R < V) (hs : R = 0 ∨ n1 = n2) :
    sg n1 X = sg (n1 != n2) Q * sg n2 V + sg n1 R ∧ ((0 ≤ sg n1 R ∧ sg n1 R < sg n2 V) ∨ (sg n2 V < sg n1 R ∧ sg n1 R ≤ 0)) := by
  subst h
  cases n1 <;> cases n2 <;> simp [sg, Int.neg_mul, Int.mul_neg, Int.neg_neg] at hs ⊢ <;> omega
theorem floor_diff (n1 n2 : Bool) {X Q V R : Int} (h : X = Q * V + R) (h0 : 0 < R) (h1 : R < V) (hs : n1 ≠ n2) :
    sg n1 X = sg true (Q + 1) * sg n2 V + sg n2 (V - R) ∧ ((0 ≤ sg n2 (V - R) ∧ sg n2 (V - R) < sg n2 V) ∨ (sg n2 V < sg n2 (V - R) ∧ sg n2 (V - R) ≤ 0)) := by
  subst h
  cases n1 <;> cases n2 <;> simp [sg, Int.add_mul, Int.neg_add, Int.neg_mul, Int.mul_neg, Int.neg_neg] at hs ⊢ <;> omega
theorem MU.len {w : World} {B0 n c : Nat} {p : Option Addr} {ws : List Int} (h : MU w B0 (.slice p n c) ws) : n = ws.length := by
  rcases h with ⟨e, rfl⟩ | ⟨g, c', cur, e, _⟩
  · simp only [Value.slice.injEq] at e; simp [e.2.1]
  · simp only [Value.slice.injEq] at e; exact e.2.1
/-- Both results stored into their boxes. -/
theorem four_set {w : World} {B C : Nat} {a0 a1 b0 b1 : Value} (hn : B ≠ C) (x0 x1 y0 y1 : Value) (h0 : w.cell? ⟨B, 0, none⟩ = some a0) (h1 : w.cell? ⟨B, 1, none⟩ = some a1) (h2 : w.cell? ⟨C, 0, none⟩ = some b0) (h3 : w.cell? ⟨C, 1, none⟩ = some b1) :
    ((((w.setCell ⟨B, 0, none⟩ x0).setCell ⟨B, 1, none⟩ x1).setCell ⟨C, 0, none⟩ y0).setCell ⟨C, 1, none⟩ y1).cell? ⟨B, 0, none⟩ = some x0 ∧
    ((((w.setCell ⟨B, 0, none⟩ x0).setCell ⟨B, 1, none⟩ x1).setCell ⟨C, 0, none⟩ y0).setCell ⟨C, 1, none⟩ y1).cell? ⟨B, 1, none⟩ = some x1 ∧
    ((((w.setCell ⟨B, 0, none⟩ x0).setCell ⟨B, 1, none⟩ x1).setCell ⟨C, 0, none⟩ y0).setCell ⟨C, 1, none⟩ y1).cell? ⟨C, 0, none⟩ = some y0 ∧
    ((((w.setCell ⟨B, 0, none⟩ x0).setCell ⟨B, 1, none⟩ x1).setCell ⟨C, 0, none⟩ y0).setCell ⟨C, 1, none⟩ y1).cell? ⟨C, 1, none⟩ = some y1 := by
  have z := two_setW (x0 := x0) (x1 := x1) h0 h1
  have y := two_setW (x0 := y0) (x1 := y1) (cell_set2 (Ne.symm hn) h2 x0 x1) (cell_set2 (Ne.symm hn) h3 x0 x1)
  exact ⟨cell_set2 hn z.1 _ _, cell_set2 hn z.2 _ _, y.1, y.2⟩
theorem DMPost2.mk {W w w' : World} {B C L M : Nat} {z1 z2 zq zr : Int} {nq nr : Bool} {uq ur : Value} {qs rs : List Int} (x0 x1 y0 y1 : Value)
    (hq : MR w L M uq qs) (hr : MU w M ur rs) (hLM : L ≤ M) (hB : W.heap.size ≤ B) (hC : W.heap.size ≤ C) (lB : B < L) (lC : C < L) (hsq : Sgn B18 nq qs zq) (hsr : Sgn B18 nr rs zr) (he : z1 = zq * z2 + zr) (hb : (0 ≤ zr ∧ zr < z2) ∨ (z2 < zr ∧ zr ≤ 0)) (hw : Below W.heap.size W w)
    (hw' : w' = ((((w.setCell ⟨B, 0, none⟩ x0).setCell ⟨B, 1, none⟩ x1).setCell ⟨C, 0, none⟩ y0).setCell ⟨C, 1, none⟩ y1).drew) :
    DMPost2 W z1 z2 (.returned (.tuple #[.agg #[.bool nq, uq], .agg #[.bool nr, ur], .int .i64 0])) w' := by
  subst hw'
  have hq' : MR (((((w.setCell ⟨B, 0, none⟩ x0).setCell ⟨B, 1, none⟩ x1).setCell ⟨C, 0, none⟩ y0).setCell ⟨C, 1, none⟩ y1).drew) L M uq qs := (hq.set2 lB x0 x1).set2 lC y0 y1
  have hr' : MU (((((w.setCell ⟨B, 0, none⟩ x0).setCell ⟨B, 1, none⟩ x1).setCell ⟨C, 0, none⟩ y0).setCell ⟨C, 1, none⟩ y1).drew) M ur rs := (hr.set2 (Nat.lt_of_lt_of_le lB hLM) x0 x1).set2 (Nat.lt_of_lt_of_le lC hLM) y0 y1
  exact ⟨M, nq, uq, qs, zq, nr, ur, rs, zr, rfl, MR.lo hq' (by omega), hr', by omega, hsq, hsr, he, hb, ((((hw.setCell hB _).setCell hB _).setCell hC _).setCell hC _).drew⟩
end
section
open Go.ChangeShapes Go.WideShapes Go.ChangeAt Go.RowKit
set_option linter.unusedVariables false
set_option linter.unusedSimpArgs false
theorem DMPost2.mk0 {W w w' : World} {B C L M : Nat} {z1 z2 zq zr : Int} {nq nr : Bool} {uq ur : Value} {qs rs : List Int} (x0 x1 y0 y1 : Value)
    (hq : MR w L M uq qs) (hr : MU w M ur rs) (hLM : L ≤ M) (hB : W.heap.size ≤ B) (hC : W.heap.size ≤ C) (lB : B < L) (lC : C < L) (hsq : Sgn B18 nq qs zq) (hsr : Sgn B18 nr rs zr) (he : z1 = zq * z2 + zr) (hb : (0 ≤ zr ∧ zr < z2) ∨ (z2 < zr ∧ zr ≤ 0)) (hw : Below W.heap.size W w)
    (hw' : w' = (((w.setCell ⟨B, 0, none⟩ x0).setCell ⟨B, 1, none⟩ x1).setCell ⟨C, 0, none⟩ y0).setCell ⟨C, 1, none⟩ y1) :
    DMPost2 W z1 z2 (.returned (.tuple #[.agg #[.bool nq, uq], .agg #[.bool nr, ur], .int .i64 0])) w' := by
  subst hw'
  exact ⟨M, nq, uq, qs, zq, nr, ur, rs, zr, rfl, MR.lo ((hq.set2 lB x0 x1).set2 lC y0 y1) (by omega), (hr.set2 (Nat.lt_of_lt_of_le lB hLM) x0 x1).set2 (Nat.lt_of_lt_of_le lC hLM) y0 y1, by omega, hsq, hsr, he, hb, (((hw.setCell hB _).setCell hB _).setCell hC _).setCell hC _⟩
theorem drew_cell {W : World} {a : Addr} {v : Value} (h : W.cell? a = some v) : W.drew.cell? a = some v := h
theorem abs_same {n m : Bool} {q : List Int} {v : Int} (h : Sgn B18 m q (sg n v)) (hv : 0 ≤ v) : val B18 q = v := by
  rw [h.abs (by decide)]
  cases n <;> simp [sg] <;> omega
theorem dig_1 : Dig B18 [1] := by
  intro i
  cases i with
  | zero => simp [B18]
  | succ i => simp [B18]
theorem cell_set4 {w : World} {B C D i : Nat} {v : Value} (h : B ≠ C) (h' : B ≠ D) (hc : w.cell? ⟨B, i, none⟩ = some v) (x y x' y' : Value) : ((((w.setCell ⟨C, 0, none⟩ x).setCell ⟨C, 1, none⟩ y).setCell ⟨D, 0, none⟩ x').setCell ⟨D, 1, none⟩ y').cell? ⟨B, i, none⟩ = some v :=
  cell_set2 h' (cell_set2 h hc x y) x' y'
theorem Bx4.set2 {w : World} {B C : Nat} {n1 n2 : Bool} {u1 u2 : Value} (h : Bx4 w B n1 u1 n2 u2) (hC : B + 1 + 1 + 1 < C) (x y : Value) : Bx4 ((w.setCell ⟨C, 0, none⟩ x).setCell ⟨C, 1, none⟩ y) B n1 u1 n2 u2 :=
  ⟨cell_set2 (by omega) h.x0 x y, cell_set2 (by omega) h.x1 x y, cell_set2 (by omega) h.y0 x y, cell_set2 (by omega) h.y1 x y, cell_set2 (by omega) h.r0 x y, cell_set2 (by omega) h.r1 x y, by simp [h.f0], by simp [h.f1],
    cell_set2 (by omega) h.s0 x y, cell_set2 (by omega) h.s1 x y, by simp [h.g0], by simp [h.g1], by simp [World.setCell]; exact h.lt⟩
theorem made_at2 {W5 : World} {L c : Nat} {p : Option Addr} {ws : List Int} (neg : Bool) (hM : MU W5 L (.slice p ws.length c) ws) (hd : Dig B18 ws) (hl : ws.length ≤ 17592186043904) (wx : World) (hx : Below W5.heap.size W5 wx) :
    Calls Tryz.prog 89 #[.bool neg, .slice p ws.length c] wx (MadeAt W5 wx L W5.heap.size neg ws) := by
  refine (made_any neg p c ws wx ((hM.keep hx).rd hl)).mono ?_
  rintro e w' ⟨k, hk, rfl, hb⟩
  obtain ⟨m, p', q, hv, hM', hS, _⟩ := made_mr neg hk hd hM.mr
  have hb' := hx.trans (hb.mono hx.size)
  exact ⟨m, p', k, q, by rw [hv], hM'.block (fun q' _ h => hb'.block q' h), hS, hb', hb⟩
set_option maxRecDepth 100000 in
set_option maxHeartbeats 8000000 in
/-- DivMod by a divisor that is not 0, over what divSizes answers. -/
theorem div_walk2 (n1 : Bool) (u1 : Value) (xs : List Int) (z1 : Int) (n2 : Bool) (u2 : Value) (ys : List Int) (z2 : Int) (w : World) (hr1 : Rd w u1 xs) (hr2 : Rd w u2 ys) (hs1 : Sgn B18 n1 xs z1) (hs2 : Sgn B18 n2 ys z2) (hl1 : xs.length ≤ 30) (hl2 : ys.length ≤ 30) (hy : 0 < ys.length)
    (hdiv : ∀ wx, Below w.heap.size w wx → Calls Tryz.prog 88 #[u1, u2] wx (DivPost wx xs ys)) :
    Calls Tryz.prog 51 #[.agg #[.bool n1, u1], .agg #[.bool n2, u2]] w (DMPost2 w z1 z2) := by
  have HR1 := Lib.hid hr1
  have HR2 := Lib.hid hr2
  obtain ⟨p1, c1, rfl, _, _, _⟩ := rd_form hr1
  obtain ⟨p2, c2, rfl, _, _, _⟩ := rd_form hr2
  have HS1 := Lib.hid hs1
  have HS2 := Lib.hid hs2
  have HDIV := Lib.hid hdiv
  have hyz : ((ys.length : Int) == 0) = false := by simp; intro e; rw [e] at hy; simp at hy
  have hyn : ¬ (ys.length : Int) = 0 := by omega
  clear hr1 hr2 hs1 hs2 hdiv
  go_enter Tryz.func51, Tryz.ntmps51
  go_wp2_with fail
  generalize hw2 : World.alloc (World.alloc (World.alloc (World.alloc w _) _) _) _ = w2
  have hbx : Bx4 w2 w.heap.size n1 (.slice p1 xs.length c1) n2 (.slice p2 ys.length c2) := by rw [← hw2]; exact bx4_new w n1 n2 _ _ _
  have HB2 := Lib.hid (show Below w.heap.size w w2 by rw [← hw2]; exact below4 w _ _ _ _)
  clear hw2
  have HX2 := Lib.hid hbx
  have q0 := hbx.x0
  have q1 := hbx.x1
  have q2 := hbx.y0
  have q3 := hbx.y1
  refine (good_yes _ _ xs z1 w2 (HR1.out.keep HB2.out) HS1.out hl1).mono ?_
  rintro e w3 ⟨rfl, hb3⟩
  have HX3 := Lib.hid (HX2.out.keep hb3.block hb3.size)
  have HB3 := Lib.hid (HB2.out.trans (hb3.mono HB2.out.size))
  have t0 := HX3.out.x0
  have t1 := HX3.out.x1
  have t2 := HX3.out.y0
  have t3 := HX3.out.y1
  clear q0 q1 q2 q3 hb3 hbx HX2 HB2
  go_wp2_with fail
  refine (good_yes _ _ ys z2 w3 (HR2.out.keep HB3.out) HS2.out hl2).mono ?_
  rintro e w4 ⟨rfl, hb4⟩
  have HX4 := Lib.hid (HX3.out.keep hb4.block hb4.size)
  have HB4 := Lib.hid (HB3.out.trans (hb4.mono HB3.out.size))
  have s0 := HX4.out.x0
  have s1 := HX4.out.x1
  have s2 := HX4.out.y0
  have s3 := HX4.out.y1
  clear t0 t1 t2 t3 hb4 HX3 HB3
  go_wp2_with fail
  refine (HDIV.out w4 HB4.out).mono ?_
  rintro e w5 ⟨uq, qs, gr, rs, rfl, hMq, hLr, hgr, hDq, hDr, hlq, hlr, hxy, hry, hb5⟩
  obtain ⟨pq, cq, rfl⟩ := MU.form hMq.mu
  have HX5 := Lib.hid (HX4.out.keep hb5.block hb5.size)
  have HB5 := Lib.hid (HB4.out.trans (hb5.mono HB4.out.size))
  have HMQ := Lib.hid hMq
  have HMR := Lib.hid (MU.mr (LR.mine hLr (Nat.le_refl gr)))
  have HGR := Lib.hid hgr
  have HGL := Lib.hid (Nat.le_of_lt (LR.lt hLr))
  have HDQ := Lib.hid hDq
  have HDR := Lib.hid hDr
  have HXY := Lib.hid hxy
  have HRY := Lib.hid hry
  have hlt4 := HX4.out.lt
  have HL4 := Lib.hid hlt4
  clear s0 s1 s2 s3 hMq hLr hgr hDq hDr hxy hry hb5 HX4 HB4 hlt4
  have s0 := HX5.out.x0
  have s1 := HX5.out.x1
  have s2 := HX5.out.y0
  have s3 := HX5.out.y1
  have hlt5 := HX5.out.lt
  have HMADEQ := Lib.hid (fun (neg : Bool) (wx : World) (hx : Below w5.heap.size w5 wx) => made_at (n := 0) neg HMQ.out HGL.out HDQ.out hlq wx hx)
  have HMADER := Lib.hid (fun (neg : Bool) (wx : World) (hx : Below w5.heap.size w5 wx) => made_at (n := 0) neg HMR.out (Nat.le_refl _) HDR.out hlr wx hx)
  go_wp2_with fail
  go_cut [9, 10] (fun a b wx => ∃ b9 b10 m9 p9 k9 q m10 p10 k10 r, a = .pointer (some ⟨b9, 0, none⟩) ∧ b = .pointer (some ⟨b10, 0, none⟩) ∧
    QR w wx n1 (.slice p1 xs.length c1) n2 (.slice p2 ys.length c2) w4.heap.size gr w5.heap.size b9 b10 m9 p9 k9 q m10 p10 k10 r (sg (n1 != n2) (val B18 qs)) (sg n1 (val B18 rs)))
  case first =>
    go_region_held3 (fun w' => w'.cell? ⟨w.heap.size, 0, none⟩ = some (.bool n1) ∧ w'.cell? ⟨w.heap.size + 1, 0, none⟩ = some (.bool n2))
      ((repeat' apply And.intro) <;> (repeat' (first | with_reducible assumption | with_reducible refine alloc_cell ?_ _ | (with_reducible refine cell_set2 ?_ ?_ _ _; · omega) | with_reducible refine drew_cell ?_)))
      (first
       | (go_at_call 89; (with_reducible refine (HMADEQ.out _ _ (by ((repeat' (first | assumption | exact Below.refl _ _ | refine Below.drew ?_ | refine Below.alloc ?_ (by first | omega | (simp; omega) | (simp; done) | fail) _ | refine Below.setCell ?_ (by first | omega | (simp; omega) | (simp; done) | fail) _ | fail)); (first | done | fail)))).mono ?_); rintro e w6 ⟨m9, p9, k9, q, rfl, hR9, hS9, hb9, hx9⟩; have k9a := below_cell hb9 s0; have k9b := below_cell hb9 s2; have z9 := hb9.size; (try (have hBox := Box2.keep (B := w5.heap.size) (a := (.bool false)) (b := (.slice none 0 0)) (by ((repeat' (first | assumption | (with_reducible exact Hid.out ‹_›) | (with_reducible refine Box2.put0 _ _ ?_) | (with_reducible refine Box2.new _ _ _ _ ?_; (first | with_reducible rfl | (simp; done) | rfl)) | (with_reducible refine Box2.alloc ?_ _) | (with_reducible refine Box2.drew ?_) | (with_reducible refine Box2.set2 ?hn _ _ ?_; case hn => omega) | fail)); (first | done | fail))) hx9; obtain ⟨_, _, _, _, _, _, _, _⟩ := hBox.all)); (try (have hBox := Box2.keep (B := (w5.heap.size + 1)) (a := (.bool false)) (b := (.slice none 0 0)) (by ((repeat' (first | assumption | (with_reducible exact Hid.out ‹_›) | (with_reducible refine Box2.put0 _ _ ?_) | (with_reducible refine Box2.new _ _ _ _ ?_; (first | with_reducible rfl | (simp; done) | rfl)) | (with_reducible refine Box2.alloc ?_ _) | (with_reducible refine Box2.drew ?_) | (with_reducible refine Box2.set2 ?hn _ _ ?_; case hn => omega) | fail)); (first | done | fail))) hx9; obtain ⟨_, _, _, _, _, _, _, _⟩ := hBox.all)); clear hx9)
       | (go_at_call 89; (with_reducible refine (HMADER.out _ _ (by ((repeat' (first | assumption | exact Below.refl _ _ | refine Below.drew ?_ | refine Below.alloc ?_ (by first | omega | (simp; omega) | (simp; done) | fail) _ | refine Below.setCell ?_ (by first | omega | (simp; omega) | (simp; done) | fail) _ | fail)); (first | done | fail)))).mono ?_); rintro e w7 ⟨m10, p10, k10, r, rfl, hR10, hS10, hb10, hx10⟩; have k10a := below_cell hb10 s0; have k10b := below_cell hb10 s2; have z10 := hb10.size; (try (have hBox := Box2.keep (B := w5.heap.size) (a := (.bool false)) (b := (.slice none 0 0)) (by ((repeat' (first | assumption | (with_reducible exact Hid.out ‹_›) | (with_reducible refine Box2.put0 _ _ ?_) | (with_reducible refine Box2.new _ _ _ _ ?_; (first | with_reducible rfl | (simp; done) | rfl)) | (with_reducible refine Box2.alloc ?_ _) | (with_reducible refine Box2.drew ?_) | (with_reducible refine Box2.set2 ?hn _ _ ?_; case hn => omega) | fail)); (first | done | fail))) hx10; obtain ⟨_, _, _, _, _, _, _, _⟩ := hBox.all)); (try (have hBox := Box2.keep (B := (w5.heap.size + 1)) (a := (.bool false)) (b := (.slice none 0 0)) (by ((repeat' (first | assumption | (with_reducible exact Hid.out ‹_›) | (with_reducible refine Box2.put0 _ _ ?_) | (with_reducible refine Box2.new _ _ _ _ ?_; (first | with_reducible rfl | (simp; done) | rfl)) | (with_reducible refine Box2.alloc ?_ _) | (with_reducible refine Box2.drew ?_) | (with_reducible refine Box2.set2 ?hn _ _ ?_; case hn => omega) | fail)); (first | done | fail))) hx10; obtain ⟨_, _, _, _, _, _, _, _⟩ := hBox.all)); (try (have hBox := Box2.keep (B := w6.heap.size) (a := (.bool false)) (b := (.slice none 0 0)) (by ((repeat' (first | assumption | (with_reducible exact Hid.out ‹_›) | (with_reducible refine Box2.put0 _ _ ?_) | (with_reducible refine Box2.new _ _ _ _ ?_; (first | with_reducible rfl | (simp; done) | rfl)) | (with_reducible refine Box2.alloc ?_ _) | (with_reducible refine Box2.drew ?_) | (with_reducible refine Box2.set2 ?hn _ _ ?_; case hn => omega) | fail)); (first | done | fail))) hx10; obtain ⟨_, _, _, _, _, _, _, _⟩ := hBox.all)); (try (have hBox := Box2.keep (B := (w6.heap.size + 1)) (a := (.bool false)) (b := (.slice none 0 0)) (by ((repeat' (first | assumption | (with_reducible exact Hid.out ‹_›) | (with_reducible refine Box2.put0 _ _ ?_) | (with_reducible refine Box2.new _ _ _ _ ?_; (first | with_reducible rfl | (simp; done) | rfl)) | (with_reducible refine Box2.alloc ?_ _) | (with_reducible refine Box2.drew ?_) | (with_reducible refine Box2.set2 ?hn _ _ ?_; case hn => omega) | fail)); (first | done | fail))) hx10; obtain ⟨_, _, _, _, _, _, _, _⟩ := hBox.all)); (try (have hBox := Box2.keep (B := w5.heap.size) (a := (.bool m9)) (b := (.slice p9 k9 k9)) (by ((repeat' (first | assumption | (with_reducible exact Hid.out ‹_›) | (with_reducible refine Box2.put0 _ _ ?_) | (with_reducible refine Box2.new _ _ _ _ ?_; (first | with_reducible rfl | (simp; done) | rfl)) | (with_reducible refine Box2.alloc ?_ _) | (with_reducible refine Box2.drew ?_) | (with_reducible refine Box2.set2 ?hn _ _ ?_; case hn => omega) | fail)); (first | done | fail))) hx10; obtain ⟨_, _, _, _, _, _, _, _⟩ := hBox.all)); (try (have hBox := Box2.keep (B := (w5.heap.size + 1)) (a := (.bool m9)) (b := (.slice p9 k9 k9)) (by ((repeat' (first | assumption | (with_reducible exact Hid.out ‹_›) | (with_reducible refine Box2.put0 _ _ ?_) | (with_reducible refine Box2.new _ _ _ _ ?_; (first | with_reducible rfl | (simp; done) | rfl)) | (with_reducible refine Box2.alloc ?_ _) | (with_reducible refine Box2.drew ?_) | (with_reducible refine Box2.set2 ?hn _ _ ?_; case hn => omega) | fail)); (first | done | fail))) hx10; obtain ⟨_, _, _, _, _, _, _, _⟩ := hBox.all)); (try (have hBox := Box2.keep (B := w6.heap.size) (a := (.bool m9)) (b := (.slice p9 k9 k9)) (by ((repeat' (first | assumption | (with_reducible exact Hid.out ‹_›) | (with_reducible refine Box2.put0 _ _ ?_) | (with_reducible refine Box2.new _ _ _ _ ?_; (first | with_reducible rfl | (simp; done) | rfl)) | (with_reducible refine Box2.alloc ?_ _) | (with_reducible refine Box2.drew ?_) | (with_reducible refine Box2.set2 ?hn _ _ ?_; case hn => omega) | fail)); (first | done | fail))) hx10; obtain ⟨_, _, _, _, _, _, _, _⟩ := hBox.all)); (try (have hBox := Box2.keep (B := (w6.heap.size + 1)) (a := (.bool m9)) (b := (.slice p9 k9 k9)) (by ((repeat' (first | assumption | (with_reducible exact Hid.out ‹_›) | (with_reducible refine Box2.put0 _ _ ?_) | (with_reducible refine Box2.new _ _ _ _ ?_; (first | with_reducible rfl | (simp; done) | rfl)) | (with_reducible refine Box2.alloc ?_ _) | (with_reducible refine Box2.drew ?_) | (with_reducible refine Box2.set2 ?hn _ _ ?_; case hn => omega) | fail)); (first | done | fail))) hx10; obtain ⟨_, _, _, _, _, _, _, _⟩ := hBox.all)); clear hx10)
       )
    go_goals
    all_goals (go_wp2_with fail)
    all_goals go_meet
    all_goals exact ⟨_, _, m9, p9, k9, q, m10, p10, k10, r, rfl, rfl, QR.leaf HX5.out HB5.out HL4.out HGR.out HGL.out hb9 hb10 hR9 hS9 hR10 hS10 (by ((repeat' (first | assumption | exact Below.refl _ _ | refine Below.drew ?_ | refine Below.alloc ?_ (by first | omega | (simp; omega) | (simp; done) | fail) _ | refine Below.setCell ?_ (by first | omega | (simp; omega) | (simp; done) | fail) _ | fail)); (first | done | fail))) (by ((repeat' (first | assumption | (with_reducible exact Hid.out ‹_›) | (with_reducible refine Box2.put0 _ _ ?_) | (with_reducible refine Box2.new _ _ _ _ ?_; (first | with_reducible rfl | (simp; done) | rfl)) | (with_reducible refine Box2.alloc ?_ _) | (with_reducible refine Box2.drew ?_) | (with_reducible refine Box2.set2 ?hn _ _ ?_; case hn => omega) | fail)); (first | done | fail))) (by ((repeat' (first | assumption | (with_reducible exact Hid.out ‹_›) | (with_reducible refine Box2.put0 _ _ ?_) | (with_reducible refine Box2.new _ _ _ _ ?_; (first | with_reducible rfl | (simp; done) | rfl)) | (with_reducible refine Box2.alloc ?_ _) | (with_reducible refine Box2.drew ?_) | (with_reducible refine Box2.set2 ?hn _ _ ?_; case hn => omega) | fail)); (first | done | fail))) (by first | omega | (simp; omega)) (by first | omega | (simp; omega)) (by first | omega | (simp; omega))⟩
  case rest =>
    obtain ⟨b9, b10, m9, p9, k9, q, m10, p10, k10, r, rfl, rfl, hQR⟩ := hcut
    have HQR := Lib.hid hQR
    have e0 := hQR.box.x0
    have e1 := hQR.box.x1
    have e2 := hQR.box.y0
    have e3 := hQR.box.y1
    have g0 := hQR.c9
    have g1 := hQR.d9
    have g2 := hQR.c10
    have g3 := hQR.d10
    have f0 := hQR.f9
    have f1 := hQR.g9
    clear hQR
    have r0 := HQR.out.box.r0
    have r1 := HQR.out.box.r1
    have i0 := HQR.out.box.f0
    have i1 := HQR.out.box.f1
    have t0 := HQR.out.box.s0
    have t1 := HQR.out.box.s1
    have j0 := HQR.out.box.g0
    have j1 := HQR.out.box.g1
    have l9 := HQR.out.h9
    have l10 := HQR.out.h10
    have l4 := HQR.out.lo
    have lM := HQR.out.lM
    clear HX5 HMQ HMR HMADEQ HMADER s0 s1 s2 s3 HDIV
    by_cases hk0 : k10 = 0
    · subst hk0
      go_wp2_with fail
      go_region
      go_wp2_with fail
      have zz := four_set (B := w.heap.size + 1 + 1) (C := w.heap.size + 1 + 1 + 1) (by omega) (.bool m9) (.slice p9 k9 k9) (.bool m10) (.slice p10 0 0) r0 r1 t0 t1
      refine bodyPost_ret (v := .tuple #[.agg #[.bool m9, .slice p9 k9 k9], .agg #[.bool m10, .slice p10 0 0], .int .i64 0]) (by simp [results, Tryz.results51, go_sem, zz.1, zz.2.1, zz.2.2.1, zz.2.2.2]) rfl ?_
      have hf := floor_same n1 n2 HXY.out (val_nonneg (by decide) HDR.out) HRY.out (Or.inl (by have h1 := HQR.out.s10.eq; have h2 := MU.len HQR.out.q10.mu; rw [List.length_eq_zero_iff.1 h2.symm] at h1; have h3 := val_nonneg (b := B18) (by decide) HDR.out; revert h1; cases n1 <;> cases m10 <;> simp [sg, val]))
      exact DMPost2.mk _ _ _ _ HQR.out.q9 HQR.out.q10.mu lM (by omega) (by omega) (by omega) (by omega) HQR.out.s9 HQR.out.s10 (by rw [HS1.out.eq, HS2.out.eq]; exact hf.1) (by rw [HS2.out.eq]; exact hf.2) HQR.out.below rfl
    · have hkz : ((k10 : Int) == 0) = false := by simp; omega
      have hkn : ¬ (k10 : Int) = 0 := by omega
      by_cases hnn : n1 = n2
      · subst hnn
        have hnd : (n1 == n1) = true := by simp
        go_wp2_with fail
        go_region
        go_wp2_with fail
        have zz := four_set (B := w.heap.size + 1 + 1) (C := w.heap.size + 1 + 1 + 1) (by omega) (.bool m9) (.slice p9 k9 k9) (.bool m10) (.slice p10 k10 k10) r0 r1 t0 t1
        refine bodyPost_ret (v := .tuple #[.agg #[.bool m9, .slice p9 k9 k9], .agg #[.bool m10, .slice p10 k10 k10], .int .i64 0]) (by simp [results, Tryz.results51, go_sem, zz.1, zz.2.1, zz.2.2.1, zz.2.2.2]) rfl ?_
        have hf := floor_same n1 n1 HXY.out (val_nonneg (by decide) HDR.out) HRY.out (Or.inr rfl)
        exact DMPost2.mk _ _ _ _ HQR.out.q9 HQR.out.q10.mu lM (by omega) (by omega) (by omega) (by omega) HQR.out.s9 HQR.out.s10 (by rw [HS1.out.eq, HS2.out.eq]; exact hf.1) (by rw [HS2.out.eq]; exact hf.2) HQR.out.below rfl
      · have hnd : (n1 == n2) = false := by simpa using hnn
        have hq9 := HQR.out.q9.mu
        have hr9 := HQR.out.q10.mu
        obtain rfl := MU.len hq9
        obtain rfl := MU.len hr9
        have HQS := Lib.hid (abs_same HQR.out.s9 (val_nonneg (by decide) HDQ.out))
        have HRS := Lib.hid (abs_same HQR.out.s10 (val_nonneg (by decide) HDR.out))
        have hql : q.length ≤ 1000 := Nat.le_trans ((canon_len (by decide) HQR.out.s9.canon qs.length).2 (by rw [HQS.out]; exact val_lt (by decide) HDQ.out)) hlq
        have hrl : r.length ≤ 1000 := Nat.le_trans ((canon_len (by decide) HQR.out.s10.canon rs.length).2 (by rw [HRS.out]; exact val_lt (by decide) HDR.out)) hlr
        have hry : r.length ≤ ys.length := (canon_len (by decide) HQR.out.s10.canon ys.length).2 (by rw [HRS.out]; exact Int.lt_trans HRY.out (val_lt (by decide) HS2.out.canon.1))
        have hrv : val B18 r ≤ val B18 ys := by rw [HRS.out]; exact Int.le_of_lt HRY.out
        have hlt := HQR.out.box.lt
        have HADD := Lib.hid (show Calls Tryz.prog 83 #[.slice p9 q.length q.length, .slice (some ⟨wc.heap.size, 0, none⟩) 1 1] (wc.alloc (.cells #[.int .u64 1] 25)) (AddPost (wc.alloc (.cells #[.int .u64 1] 25)) q [1]) from
          addSizes_any _ _ q [1] _ ((hq9.rd (by omega)).alloc _) (Mine.rd (T := 25) (LR.mine (B0 := 0) (show LU (wc.alloc (.cells #[.int .u64 1] 25)) wc.heap.size [1] from heap_alloc_new wc _) (Nat.zero_le _)) (by simp)) HQR.out.s9.canon.1 dig_1)
        have HBX := Lib.hid (show Box2 wc b9 (.bool m9) (.slice p9 q.length q.length) from ⟨g0, g1, f0, f1⟩)
        have hb9l := HBX.out.lt
        have HRR := Lib.hid (hr9.rd (by omega))
        have HRL := Lib.hid hry
        have HRV := Lib.hid hrv
        have HQL := Lib.hid hql
        clear hq9 hr9 hql hrl hry hrv
        go_wp2_with fail
        refine HADD.out.mono ?_
        rintro e w6 ⟨g, os, rfl, hg, hL, hol, hd, hv, hb5⟩
        have hg' : wc.heap.size + 1 ≤ g := by simpa using hg
        have HL6 := Lib.hid (LR.mine hL (B0 := wc.heap.size + 1) hg')
        have HD6 := Lib.hid hd
        have HV6 := Lib.hid hv
        have HO6 := Lib.hid (show os.length ≤ 1001 by have := HQL.out; rw [hol]; simp only [List.length_cons, List.length_nil]; omega)
        have HB6 := Lib.hid (show Below wc.heap.size wc w6 from ((Below.refl _ _).alloc (Nat.le_refl _) _).trans (hb5.mono (by simp)))
        have hz6 : wc.heap.size + 1 ≤ w6.heap.size := by have := hb5.size; simpa using this
        clear hL hd hv hol hg hb5 hg'
        go_wp2_with fail
        refine (made_at2 true HL6.out HD6.out (by have := HO6.out; omega) w6 (Below.refl _ _)).mono ?_
        rintro e w7 ⟨m', p', k', q', rfl, hR, hS, _, hb7⟩
        have HR7 := Lib.hid hR
        have hz67 := hb7.size
        have HS7 := Lib.hid hS
        have HB7 := Lib.hid (HB6.out.trans (hb7.mono HB6.out.size))
        have HK7 := Lib.hid (HBX.out.keep HB7.out)
        obtain ⟨y1, y2, y3, y4, _, _, _, _⟩ := HK7.out.all
        have hz7 := hb7.size
        have HX8 := Lib.hid ((HQR.out.box.keep HB7.out.block HB7.out.size).set2 (C := b9) (by omega) (.bool m') (.slice p' k' k'))
        have HK8 := Lib.hid (HK7.out.put (.bool m') (.slice p' k' k'))
        have HB8 := Lib.hid (show Below w.heap.size w ((w7.setCell ⟨b9, 0, none⟩ (.bool m')).setCell ⟨b9, 1, none⟩ (.slice p' k' k')) from
          (((HQR.out.below).trans (HB7.out.mono (by omega))).setCell (by simp; omega) _).setCell (by simp; omega) _)
        have HM8 := Lib.hid (MR.set2 HR7.out (show b9 < wc.heap.size + 1 by omega) (.bool m') (.slice p' k' k'))
        have hc10 := cell_set2 (C := b9) (Ne.symm HQR.out.ne) (below_cell HB7.out g3) (.bool m') (.slice p' k' k')
        have hz9 : w6.heap.size ≤ ((w7.setCell ⟨b9, 0, none⟩ (.bool m')).setCell ⟨b9, 1, none⟩ (.slice p' k' k')).heap.size := by simp [World.setCell]; omega
        have hz8 : wc.heap.size + 1 ≤ ((w7.setCell ⟨b9, 0, none⟩ (.bool m')).setCell ⟨b9, 1, none⟩ (.slice p' k' k')).heap.size := by simp [World.setCell]; omega
        have HRM8 := Lib.hid (show MR ((w7.setCell ⟨b9, 0, none⟩ (.bool m')).setCell ⟨b9, 1, none⟩ (.slice p' k' k')) gr w5.heap.size (.slice p10 r.length r.length) r from
          HQR.out.q10.block (fun j _ hj => by rw [Below.heap_setCell _ _ _ _ (by simp; omega), Below.heap_setCell _ _ _ _ (by simp; omega)]; exact HB7.out.block j (by omega)))
        have HCS := Lib.hid HQR.out.s10.canon
        have hrl' : r.length ≤ 1000 := by have := HRL.out; omega
        clear e0 e1 e2 e3 g0 g1 g2 g3 f0 f1 r0 r1 i0 i1 t0 t1 j0 j1
        have HE := Lib.hid (show z1 = sg true (val B18 os) * z2 + sg n2 (val B18 ys - val B18 r) ∧ ((0 ≤ sg n2 (val B18 ys - val B18 r) ∧ sg n2 (val B18 ys - val B18 r) < z2) ∨ (z2 < sg n2 (val B18 ys - val B18 r) ∧ sg n2 (val B18 ys - val B18 r) ≤ 0)) by
          have hp : 0 < val B18 rs := by
            have h1 := val_nonneg (b := B18) (by decide) HDR.out
            have h2 := (canon_len (b := B18) (by decide) HCS.out 0)
            rw [HRS.out] at h2
            simp at h2
            by_cases h3 : val B18 rs = 0
            · exact absurd (List.length_eq_zero_iff.2 (h2.2 (by omega))) hk0
            · omega
          have hf := floor_diff n1 n2 HXY.out hp HRY.out hnn
          rw [HV6.out, HQS.out, HRS.out, val_one, HS1.out.eq, HS2.out.eq]
          exact hf)
        go_wp2_with fail
        generalize hw8 : World.setCell (World.setCell w7 _ _) _ _ = w8 at HX8 HK8 HB8 HM8 hc10 hz8 hz9 HRM8
        clear hw8 y1 y2 y3 y4
        have HSUB := Lib.hid (fun (wx : World) (hx : Below w8.heap.size w8 wx) => subSizes_any _ _ ys r wx (HR2.out.keep (HB8.out.trans (hx.mono HB8.out.size))) ((HRM8.out.mu.rd (by omega)).keep hx) HS2.out.canon.1 HCS.out.1 HRL.out HRV.out)
        have k0 := HK8.out.c0
        have k1 := HK8.out.c1
        have k2 := HX8.out.y0
        have k3 := HX8.out.y1
        have r0 := HX8.out.r0
        have r1 := HX8.out.r1
        have i0 := HX8.out.f0
        have i1 := HX8.out.f1
        have t0 := HX8.out.s0
        have t1 := HX8.out.s1
        have j0 := HX8.out.g0
        have j1 := HX8.out.g1
        have d0 : w8.drew.cell? ⟨b9, 0, none⟩ = some (.bool m') := k0
        have d1 : w8.drew.cell? ⟨b9, 1, none⟩ = some (.slice p' k' k') := k1
        have d2 : w8.drew.cell? ⟨w.heap.size + 1, 0, none⟩ = some (.bool n2) := k2
        have d3 : w8.drew.cell? ⟨w.heap.size + 1, 1, none⟩ = some (.slice p2 ys.length c2) := k3
        have d4 : w8.drew.cell? ⟨b10, 1, none⟩ = some (.slice p10 r.length r.length) := hc10
        go_region_held3 (fun w' => w'.cell? ⟨b9, 0, none⟩ = some (.bool m') ∧ w'.cell? ⟨b9, 1, none⟩ = some (.slice p' k' k') ∧ w'.cell? ⟨w.heap.size + 1, 0, none⟩ = some (.bool n2) ∧ w'.cell? ⟨w.heap.size + 1, 1, none⟩ = some (.slice p2 ys.length c2) ∧ w'.cell? ⟨b10, 1, none⟩ = some (.slice p10 r.length r.length))
          ((repeat' apply And.intro) <;> (first | with_reducible assumption | (with_reducible exact cell_set2 (by omega) (by assumption) _ _) | (with_reducible exact cell_set4 (by omega) (by omega) (by assumption) _ _ _ _)))
          (first
           | (go_at_call 84; refine (HSUB.out _ (by first | exact Below.refl _ _ | exact (Below.refl _ _).drew)).mono ?_; rintro e wa ⟨ga, oa, rfl, hga, hLa, hola, hda, hva, hba⟩; have hqa : Below w8.heap.size w8 wa := ⟨hba.os, hba.tape, hba.output, hba.size, hba.block⟩; have HLa := Lib.hid (LR.mine hLa (B0 := w6.heap.size) (Nat.le_trans hz9 hga)); have HDa := Lib.hid hda; have HVa := Lib.hid hva; have HOa := Lib.hid hola; have HBa := Lib.hid hqa; have hxa := HX8.out.keep hqa.block hqa.size; have a0 := below_cell hqa k0; have a1 := below_cell hqa k1; have a2 := hxa.y0; have a3 := hxa.y1; have a4 := below_cell hqa hc10; clear hLa hda hva hola hga hba hqa hxa)
           | (go_at_call 89; refine (made_at2 n2 HLa.out HDa.out (by have := HOa.out; omega) _ (by first | exact Below.refl _ _ | exact (Below.refl _ _).drew)).mono ?_; rintro e wb ⟨mb, pb, kb, qb, rfl, hRb, hSb, hbb, _⟩; have HRb := Lib.hid hRb.mu; have HSb := Lib.hid hSb; have HBb := Lib.hid (HBa.out.trans (hbb.mono HBa.out.size)); have hxb := HX8.out.keep HBb.out.block HBb.out.size; have b0 := below_cell HBb.out k0; have b1 := below_cell HBb.out k1; have b2 := hxb.y0; have b3 := hxb.y1; have b4 := below_cell HBb.out hc10; have q0 := hxb.r0; have q1 := hxb.r1; have q2 := hxb.f0; have q3 := hxb.f1; have q4 := hxb.s0; have q5 := hxb.s1; have q6 := hxb.g0; have q7 := hxb.g1; clear hRb hSb hbb hxb))
        go_goals
        go_wp2_with fail
        have zz := four_set (B := w.heap.size + 1 + 1) (C := w.heap.size + 1 + 1 + 1) (by omega) (.bool m') (.slice p' k' k') (.bool mb) (.slice pb kb kb) q0 q1 q4 q5
        refine bodyPost_ret (v := .tuple #[.agg #[.bool m', .slice p' k' k'], .agg #[.bool mb, .slice pb kb kb], .int .i64 0]) (by simp [results, Tryz.results51, go_sem, zz.1, zz.2.1, zz.2.2.1, zz.2.2.2]) rfl ?_
        exact DMPost2.mk0 _ _ _ _ (HM8.out.keep HBb.out) HRb.out hz6 (by omega) (by omega) (by omega) (by omega) HS7.out HSb.out (by rw [HVa.out]; exact HE.out.1) (by rw [HVa.out]; exact HE.out.2) (HB8.out.trans (HBb.out.mono HB8.out.size)) rfl
end
section
open Go.ChangeShapes Go.WideShapes Go.ChangeAt Go.RowKit
set_option linter.unusedVariables false
set_option linter.unusedSimpArgs false
def D64Post (W : World) (hi lo y : Int) (e : Ending) (w' : World) : Prop :=
  ∃ q r : Int, e = .returned (.tuple #[.int .u64 q, .int .u64 r]) ∧ hi * 18446744073709551616 + lo = q * y + r ∧ 0 ≤ q ∧ 0 ≤ r ∧ r < y ∧ Below W.heap.size W w'
theorem div64_small (lo y : Int) (hl : 0 ≤ lo ∧ lo ≤ 18446744073709551615) (hy : 0 < y ∧ y ≤ 18446744073709551615) (w : World) :
    Calls Tryz.prog 140 #[.int .u64 0, .int .u64 lo, .int .u64 y] w (D64Post w 0 lo y) := by
  have h0 : (y == 0) = false := by simp; omega
  have h0' : ¬ y = 0 := by omega
  have h1 : ¬ y ≤ 0 := by omega
  go_enter Tryz.func140, Tryz.ntmps140
  go_wp2
  go_region
  go_wp2
  go_ret2
  exact ⟨lo / y, lo % y, rfl, by rw [Int.mul_comm (lo / y)]; have := Int.mul_ediv_add_emod lo y; omega, Int.ediv_nonneg hl.1 (by omega), Int.emod_nonneg _ h0', Int.emod_lt_of_pos _ hy.1, (Below.refl _ _).drew⟩
end
section
open Go.ChangeShapes Go.WideShapes Go.ChangeAt Go.RowKit
set_option linter.unusedVariables false
set_option linter.unusedSimpArgs false
structure LimbState (xs os : List Int) (d : Int) (m : Nat) (rest : Int) : Prop where
  len : os.length = xs.length
  dig : Dig B18 os
  eq : val B18 (xs.drop m) = val B18 (os.drop m) * d + rest
  lo : 0 ≤ rest
  hi : rest < d
theorem LimbState.start (xs : List Int) {d : Int} (hd : 0 < d) : LimbState xs (List.replicate xs.length 0) d xs.length 0 :=
  ⟨by simp, fun i => by rw [List.getD_eq_getElem?_getD, List.getElem?_replicate]; split <;> simp [B18], by simp [val], Int.le_refl 0, hd⟩
theorem val_drop {b : Int} {ws : List Int} {k : Nat} (hk : k < ws.length) : val b (ws.drop k) = ws.getD k 0 + b * val b (ws.drop (k + 1)) := by
  rw [List.drop_eq_getElem_cons hk, List.getD_eq_getElem?_getD, List.getElem?_eq_getElem hk]
  rfl
theorem LimbState.step {xs os : List Int} {d rest q r : Int} {p : Nat} (h : LimbState xs os d (p + 1) rest) (hp : p < xs.length) (hx : Dig B18 xs) (e : rest * B18 + xs.getD p 0 = q * d + r) (hq : 0 ≤ q) (hr : 0 ≤ r ∧ r < d) : LimbState xs (os.set p q) d p r := by
  have hl := h.len
  have hb := hx p
  have hd : 0 < d := by omega
  have hqb : q < B18 := by
    refine Int.lt_of_not_ge fun hge => ?_
    have h1 : B18 * d ≤ q * d := Int.mul_le_mul_of_nonneg_right hge (by omega)
    have h2 : rest * B18 ≤ (d - 1) * B18 := Int.mul_le_mul_of_nonneg_right (by have := h.hi; omega) (by decide)
    rw [Int.sub_mul, Int.mul_comm d B18] at h2
    omega
  refine ⟨by rw [List.length_set]; exact hl, h.dig.set p q ⟨hq, hqb⟩, ?_, hr.1, hr.2⟩
  rw [val_drop hp, val_drop (ws := os.set p q) (by rw [List.length_set]; omega), h.eq, getD_set' _ _ _ _ (by omega), if_pos rfl, List.drop_set_of_lt (by omega)]
  have e2 : B18 * (val B18 (os.drop (p + 1)) * d + rest) = B18 * val B18 (os.drop (p + 1)) * d + rest * B18 := by rw [Int.mul_add, Int.mul_assoc, Int.mul_comm B18 rest]
  rw [e2, Int.add_mul]
  omega
def LimbPost (W : World) (xs : List Int) (d : Int) (e : Ending) (w' : World) : Prop :=
  ∃ g qs r, e = .returned (.tuple #[.slice (some ⟨g, 0, none⟩) qs.length qs.length, .int .u64 r]) ∧ W.heap.size ≤ g ∧ LU w' g qs ∧ qs.length = xs.length ∧ Dig B18 qs ∧ val B18 xs = val B18 qs * d + r ∧ 0 ≤ r ∧ r < d ∧ Below W.heap.size W w'
theorem add64_run (x y c : Nat) (hc : c ≤ 1) (w : World) :
    (callFunc 139 #[.int .u64 x, .int .u64 y, .int .u64 c]).run Tryz.prog w =
      .ok (.value (.tuple #[.int .u64 (((x + y + c) % 18446744073709551616 : Nat) : Int), .int .u64 (((x + y + c) / 18446744073709551616 : Nat) : Int)])) w := by
  rw [run_callFunc_extern Tryz.func139 (by kernel_rfl) (by kernel_rfl) (by kernel_rfl) (e := add64Entry) (by kernel_rfl), run_add64 x y c (by omega) (by omega) (by omega) (by omega)]
  simp only [Result.andThen]
  congr 5 <;> omega
theorem mul64_at (x : Nat) (hx : x < 18446744073709551616) (w : World) :
    Calls Tryz.prog 122 #[.int .u64 x, .int .u64 1000000000000000000] w fun e w' => (∃ hi lo : Int, e = .returned (.tuple #[.int .u64 hi, .int .u64 lo]) ∧ hi * 18446744073709551616 + lo = x * 1000000000000000000 ∧ 0 ≤ hi ∧ 0 ≤ lo ∧ lo ≤ 18446744073709551615) ∧ w' = w := by
  refine (Tryz.bits_Mul64 x 1000000000000000000 hx (by omega) w).mono ?_
  rintro e w' ⟨rfl, rfl⟩
  exact ⟨⟨_, _, rfl, by omega, by omega, by omega, by omega⟩, rfl⟩
theorem add64_at (x y : Int) (hx : 0 ≤ x ∧ x ≤ 18446744073709551615) (hy : 0 ≤ y ∧ y ≤ 18446744073709551615) (w : World) :
    ∃ lo c : Int, Sem.run Tryz.prog (callFunc 139 #[.int .u64 x, .int .u64 y, .int .u64 0]) w = .ok (.value (.tuple #[.int .u64 lo, .int .u64 c])) w ∧ c * 18446744073709551616 + lo = x + y ∧ 0 ≤ lo ∧ lo ≤ 18446744073709551615 ∧ 0 ≤ c ∧ c ≤ 1 := by
  obtain ⟨x, rfl⟩ := Int.eq_ofNat_of_zero_le hx.1
  obtain ⟨y, rfl⟩ := Int.eq_ofNat_of_zero_le hy.1
  exact ⟨_, _, add64_run x y 0 (by omega) w, by omega, by omega, by omega, by omega, by omega⟩
set_option maxRecDepth 100000 in
set_option maxHeartbeats 4000000 in
theorem divLimb_any (u : Value) (xs : List Int) (d : Int) (w : World) (h1 : Rd w u xs) (hx : Dig B18 xs) (hd : 0 < d ∧ d < B18)
    (hD : ∀ (wx : World) (hi lo : Int), 0 ≤ hi → hi < d → 0 ≤ lo → lo ≤ 18446744073709551615 → (xs.length ≤ 1 → hi = 0) → Calls Tryz.prog 140 #[.int .u64 hi, .int .u64 lo, .int .u64 d] wx (D64Post wx hi lo d)) :
    Calls Tryz.prog 116 #[u, .int .u64 d] w (LimbPost w xs d) := by
  obtain ⟨p1, c1, rfl, hc1, hm1, hp1⟩ := rd_form h1
  have HP1 := Lib.hid hp1
  have HX := Lib.hid hx
  have HD := Lib.hid hD
  have HDD := Lib.hid hd
  clear h1 hc1 hx hp1 hD hd
  have hmk := run_make_row' (P := Tryz.prog) 22 25 (.int .u64 0) 8 Tryz.underlying22 infoU64 rfl .i64 .i64 xs.length (by omega) (by omega)
  have HGG := Lib.hid (show LU (w.alloc (.cells (madeCells #[Value.int .u64 0] xs.length) 25)) w.heap.size (List.replicate xs.length 0) from LR.made (k := .u64) (T := 25) w xs.length)
  have HBB := Lib.hid (show Below w.heap.size w (w.alloc (.cells (madeCells #[Value.int .u64 0] xs.length) 25)) from (Below.refl _ _).alloc (Nat.le_refl _) _)
  go_enter Tryz.func116, Tryz.ntmps116
  go_wp2_with fail
  generalize hw1 : World.alloc w _ = w1 at HGG HBB
  clear hw1 hmk
  go_loopw [7, 18] (fun cv s wr => ∃ (k : Nat) (rest : Int) (os : List Int), s = .int .i64 k ∧ cv = .int .u64 rest ∧ k ≤ xs.length ∧ (k = 0 → rest = 0) ∧ LimbState xs os d (xs.length - k) rest ∧ LU wr w.heap.size os ∧ Below w.heap.size w wr) (fun _ s _ => xs.length - (intOf s).toNat)
  case atStart => exact ⟨0, 0, _, by go_num, rfl, by omega, fun _ => rfl, LimbState.start xs HDD.out.1, HGG.out, HBB.out⟩
  case round =>
    obtain ⟨k, rest, os, rfl, rfl, hk, hr0, hS, hL, hB⟩ := hrel
    have HS := Lib.hid hS
    have HL := Lib.hid hL
    have HB := Lib.hid hB
    have hol := hS.len
    clear hS hL hB
    by_cases hlt : k < xs.length
    · obtain ⟨p, hp⟩ : ∃ p, xs.length = p + 1 + k := ⟨xs.length - 1 - k, by omega⟩
      obtain ⟨b, off, rfl, hcell⟩ := HP1.out (by omega)
      have hc := below_cell HB.out (hcell p (by omega))
      have hfr := HL.out.frozen p
      have hox := HL.out.cell (i := p) (by omega)
      have hlz : (k : Int) < (xs.length : Int) := by omega
      have hpz : (p : Int) < (xs.length : Int) := by omega
      have hp0 : (0 : Int) ≤ (p : Int) := by omega
      have hpn : p < xs.length := by omega
      have hw2 : (xs.length : Int) - 1 - (k : Int) = (p : Int) := by omega
      have HS2 := Lib.hid (show LimbState xs os d (p + 1) rest by have := HS.out; rwa [show xs.length - k = p + 1 by omega] at this)
      have hbx := HX.out p
      obtain ⟨x, hxe⟩ := Int.eq_ofNat_of_zero_le hbx.1
      obtain ⟨rn, rfl⟩ := Int.eq_ofNat_of_zero_le HS2.out.lo
      have HXE := Lib.hid hxe
      rw [hxe] at hc hbx
      rw [B18] at hbx
      have HQ := Lib.hid hp
      have HR0 := Lib.hid hr0
      have hrb : rn < 18446744073709551616 := by have h1 := HS2.out.hi; have h2 := HDD.out.2; rw [B18] at h2; omega
      have HRB := Lib.hid hrb
      clear hcell hxe HS hp hr0
      have hxb : 0 ≤ (x : Int) ∧ (x : Int) ≤ 18446744073709551615 := by omega
      go_wp2_with (go_at_call 122; (with_reducible refine (mul64_at rn HRB.out _).mono ?_); rintro e w2 ⟨⟨hi, lo, rfl, hm, hi0, lo0, lo1⟩, rfl⟩)
      obtain ⟨lo2, c, hadd, hac, hl0, hl1, hq0, hq1⟩ := add64_at lo x ⟨lo0, lo1⟩ hxb w2
      rw [hadd]
      have hlt2 : hi + c < d := by have h1 := HS2.out.hi; have h2 := HDD.out.2; rw [B18] at h2; omega
      have hdb := HDD.out.2
      rw [B18] at hdb
      have hwr : IntKind.u64.wrap (hi + c) = hi + c := by rw [IntKind.wrap_u64]; omega
      clear hadd
      go_wp2_with (go_at_call 140; (with_reducible refine (HD.out _ _ _ (by omega) hlt2 hl0 hl1 (fun h => by have h1 := HR0.out; have h2 := HQ.out; omega)).mono ?_); rintro e w3 ⟨q, r, rfl, hqr, hqq, hrr, hrd, hb3⟩; have HL3 := Lib.hid (HL.out.keep hb3); have HB3 := Lib.hid (HB.out.trans (hb3.mono HB.out.size)); have hfr3 := HL3.out.frozen p; have hox3 := HL3.out.cell (i := p) (by omega); clear hb3)
      have hex : ((rn : Int)) * B18 + xs.getD p 0 = q * d + r := by rw [HXE.out, B18]; omega
      have HS4 := Lib.hid (HS2.out.step hpn HX.out hex hqq ⟨hrr, hrd⟩)
      have hqk : xs.length - (k + 1) = p := by have := HQ.out; omega
      go_roundw
      case rel => exact ⟨k + 1, r, _, by go_num, rfl, by omega, fun h => by omega, by rw [hqk]; exact HS4.out, HL3.out.set p _, HB3.out.setCell (Nat.le_refl _) _⟩
      case measure => simp [intOf]; omega
    · obtain rfl : k = xs.length := by omega
      have HE := Lib.hid HS.out
      go_wp2
      go_ret2
      have hE := HE.out
      rw [Nat.sub_self] at hE
      exact ⟨w.heap.size, os, rest, by rw [hol]; rfl, Nat.le_refl _, HL.out, hol, hE.dig, by have := hE.eq; simpa using this, hE.lo, hE.hi, HB.out⟩
end
section
open Go.ChangeShapes Go.WideShapes Go.ChangeAt Go.RowKit
set_option linter.unusedVariables false
set_option linter.unusedSimpArgs false
set_option maxRecDepth 100000 in
set_option maxHeartbeats 2000000 in
theorem divSizes_one (u1 u2 : Value) (xs : List Int) (d : Int) (w : World) (h1 : Rd w u1 xs) (h2 : Rd w u2 [d]) (hx : Dig B18 xs) (hxl : xs.length ≤ 1000) (hd : 0 < d ∧ d < B18) (hge : 0 ≤ cmpI (val B18 xs) (val B18 [d]))
    (hx' : Canon B18 xs) (hc' : Canon B18 [d])
    (hD : ∀ (wx : World) (hi lo : Int), 0 ≤ hi → hi < d → 0 ≤ lo → lo ≤ 18446744073709551615 → (xs.length ≤ 1 → hi = 0) → Calls Tryz.prog 140 #[.int .u64 hi, .int .u64 lo, .int .u64 d] wx (D64Post wx hi lo d)) :
    Calls Tryz.prog 88 #[u1, u2] w (DivPost w xs [d]) := by
  have HR1 := Lib.hid h1
  have HR2 := Lib.hid h2
  obtain ⟨p1, c1, rfl, _, _, _⟩ := rd_form h1
  obtain ⟨p2, c2, rfl, _, _, hp2⟩ := rd_form h2
  have HL := Lib.hid (fun wx (hb : Below w.heap.size w wx) => divLimb_any _ xs d wx (HR1.out.keep hb) hx hd hD)
  have HC := Lib.hid (show ∀ wx, Below w.heap.size w wx → Calls Tryz.prog 64 #[.slice p1 xs.length c1, .slice p2 1 c2] wx (CmpPost wx (cmpI (val B18 xs) (val B18 [d]))) from fun wx (hb : Below w.heap.size w wx) => cmpSizes_any _ _ xs [d] wx (HR1.out.keep hb) (HR2.out.keep hb) hx' hc')
  obtain ⟨b2, o2, rfl, hcell⟩ := hp2 (by simp)
  have hc0 := hcell 0 (by simp)
  rw [List.getD_cons_zero, Nat.add_zero] at hc0
  have hnl : ¬ cmpI (val B18 xs) (val B18 [d]) < 0 := by omega
  have HX := Lib.hid hx
  have HXL := Lib.hid hxl
  have HDD := Lib.hid hd
  generalize hcc : cmpI (val B18 xs) (val B18 [d]) = cc at hnl HC
  clear h1 h2 hp2 hcell hx hxl hd hD hge hx' hc' hcc
  go_enter Tryz.func88, Tryz.ntmps88
  go_wp2_with (first
    | (go_at_call 64; (with_reducible refine (HC.out _ (Below.refl _ _)).mono ?_); rintro e wa ⟨rfl, hba⟩; have HBA := Lib.hid hba; have hc1 := below_cell hba hc0; clear hba)
    | (go_at_call 116; (with_reducible refine (HL.out _ HBA.out).mono ?_); rintro e wb ⟨g, qs, r, rfl, hg, hLU, hql, hdq, hxy, hr0, hrd, hbb⟩; have HQL := Lib.hid hql; clear hql))
  have hBB := HBA.out.trans (hbb.mono HBA.out.size)
  have hz := hBB.size
  have hdd := HDD.out
  go_ret2
  refine ⟨.slice (some ⟨g, 0, none⟩) qs.length qs.length, qs, wb.heap.size, [r], rfl, ((MU.mr (LR.mine hLU (B0 := w.heap.size) (by have := HBA.out.size; omega))).keep ((Below.refl _ _).alloc (Nat.le_refl _) _)), heap_alloc_new wb _, hz, hdq, ?_, by rw [HQL.out]; exact HXL.out, by simp, ?_, ?_, hBB.alloc hz _⟩
  · intro i
    cases i with
    | zero => simp; omega
    | succ i => simp [B18]
  · rw [hxy]; simp [val]
  · simp [val]; omega
end
section
open Go.ChangeShapes Go.WideShapes Go.ChangeAt Go.RowKit
set_option linter.unusedVariables false
set_option linter.unusedSimpArgs false
end
section
open Go.ChangeShapes Go.WideShapes Go.ChangeAt Go.RowKit
set_option linter.unusedVariables false
set_option linter.unusedSimpArgs false
abbrev BT : TypeId := 62
abbrev BE : TypeId := 5
theorem builderSize : (Tryz.prog.info? BT).map (·.size) = some 2 := by kernel_rfl
theorem builderLies : liesAt Tryz.prog Tryz.prog.depth BT (2 / Tryz.prog.cellsOf BT) 0 BT 1 = true := by kernel_rfl
theorem builderByte : (Tryz.prog.info? BE).map (fun i => (i.zero, i.size, i.bytes)) = some (some (.int .u8 0), 1, 1) := by kernel_rfl
theorem owned_form {w : World} {B : Nat} {e : TypeId} {v : Value} {n : Nat} {xs : List Value} (h : w.ownsRow B e 1 v n xs) : ∃ p m c, v = .slice p m c := by
  rcases h.2 with ⟨hv, _⟩ | ⟨g, cap, cur, hv, _⟩
  · exact ⟨_, _, _, hv⟩
  · exact ⟨_, _, _, hv⟩
set_option maxRecDepth 100000 in
set_option maxHeartbeats 400000 in
theorem copyCheck_fresh (b : Nat) (w : World) (h0 : w.cell? ⟨b, 0, none⟩ = some (.pointer none)) (hsh : w.shape? b = some (BT, 2)) (hf : w.frozen? ⟨b, 0, none⟩ = false) :
    Calls Tryz.prog 79 #[.pointer (some ⟨b, 0, none⟩)] w fun e w' => e = .returned (.tuple #[]) ∧ w.setCell ⟨b, 0, none⟩ (.pointer (some ⟨b, 0, none⟩)) = w' := by
  obtain ⟨j, hj, hjs⟩ := Option.map_eq_some_iff.1 builderSize
  have hto := Lib.run_to_unsafe w ⟨b, 0, none⟩ Tryz.underlying60 Tryz.underlying136 hj (by rw [hjs]; decide) hsh (Nat.zero_lt_succ 1)
  have hfrom := Lib.run_from_unsafe w ⟨b, 0, none⟩ Tryz.underlying136 Tryz.underlying60 hj hsh builderLies
  go_enter Tryz.func79, Tryz.ntmps79
  go_wp2
  rw [run_callFunc_extern Tryz.func113 (by kernel_rfl) (by kernel_rfl) (by kernel_rfl) (e := Extern.AbiNoEscape.same) (by kernel_rfl), Lib.run_noEscape]
  simp only [Result.andThen]
  rw [Oper.upon_value]
  go_wp2
  go_end0
  exact ⟨rfl, rfl⟩
set_option maxRecDepth 100000 in
set_option maxHeartbeats 400000 in
theorem copyCheck_used (b : Nat) (w : World) (h0 : w.cell? ⟨b, 0, none⟩ = some (.pointer (some ⟨b, 0, none⟩))) :
    Calls Tryz.prog 79 #[.pointer (some ⟨b, 0, none⟩)] w fun e w' => e = .returned (.tuple #[]) ∧ w = w' := by
  obtain ⟨j, hj, hjs⟩ := Option.map_eq_some_iff.1 builderSize
  have hne := Lib.run_neq_ptr_same w ⟨b, 0, none⟩ Tryz.underlying60 hj
  go_enter Tryz.func79, Tryz.ntmps79
  go_wp2
  go_end0
  exact ⟨rfl, rfl⟩
theorem copyCheck_any (B b : Nat) (bs : List Value) (w : World) (h : Lib.IsBuilder BT BE B b bs w) :
    Calls Tryz.prog 79 #[.pointer (some ⟨b, 0, none⟩)] w fun e w' => e = .returned (.tuple #[]) ∧ Lib.BuilderAt BT BE B b (.pointer (some ⟨b, 0, none⟩)) bs w' ∧ Below B w w' := by
  rcases h with h | h
  · refine (copyCheck_fresh b w h.cell0 h.shape h.frozen0).mono ?_
    rintro e w' ⟨rfl, rfl⟩
    exact ⟨rfl, h.used _, (Below.refl B w).setCell (p := ⟨b, 0, none⟩) h.1 _⟩
  · refine (copyCheck_used b w h.cell0).mono ?_
    rintro e w' ⟨rfl, rfl⟩
    exact ⟨rfl, h, Below.refl B w⟩
set_option maxRecDepth 100000 in
set_option maxHeartbeats 400000 in
theorem writeString_any (B b : Nat) (bs : List Value) (s : ByteArray) (w : World) (h : Lib.IsBuilder BT BE B b bs w) (hlen : bs.length + s.size ≤ 140737488355328) (hBw : B ≤ w.heap.size) :
    Calls Tryz.prog 38 #[.pointer (some ⟨b, 0, none⟩), .string s] w fun e w' => e = .returned (.tuple #[.int .i64 s.size, .nilIface]) ∧ Lib.BuilderAt BT BE B b (.pointer (some ⟨b, 0, none⟩)) (bs ++ Lib.strCells s) w' ∧ Below B w w' := by
  obtain ⟨i0, hi, hz0, hz1, hz2⟩ := info_parts builderByte
  go_enter Tryz.func38, Tryz.ntmps38
  go_wp2_with fail
  refine (copyCheck_any B b bs _ h).mono ?_
  rintro e w1 ⟨rfl, ⟨hB, v, hbk, hown, hne⟩, hb1⟩
  have hlt : b < w1.heap.size := (Array.getElem?_eq_some_iff.1 hbk).1
  have c0 : w1.cell? ⟨b, 0, none⟩ = some (.pointer (some ⟨b, 0, none⟩)) := by rw [Lib.cell_of_heap hbk]; rfl
  have c1 : w1.cell? ⟨b, 1, none⟩ = some v := by rw [Lib.cell_of_heap hbk]; rfl
  have HO := Lib.hid hown
  have HB := Lib.hid hbk
  have HN := Lib.hid hne
  have HB1 := Lib.hid hb1
  have hsz := hb1.size
  clear hown hbk hne hb1
  go_wp2_with (at_builtin; refine Lib.wpList_append_own_string _ rfl _ _ 38 9 rfl B BE i0 Tryz.underlying38 Tryz.underlying9 hi hz0 hz1 hz2 _ _ _ rfl HO.out s rfl (by unfold maxLen; omega) (by omega) (by omega) ?_; intro v' w2 hown' hgrow _; have hb2 : w2.heap[b]? = some (.cells #[.pointer (some ⟨b, 0, none⟩), v] BT (0, 0)) := (hgrow.block b hlt (fun e => HN.out e.symm)).trans HB.out; have d1 : w2.cell? ⟨b, 1, none⟩ = some v := (by rw [Lib.cell_of_heap hb2]; rfl); have f1 : w2.frozen? ⟨b, 1, none⟩ = false := Lib.frozen_of_heap hb2 1; obtain ⟨p', n', c', rfl⟩ := owned_form hown'; have HO2 := Lib.hid hown'; have HG := Lib.hid hgrow; have HB2 := Lib.hid hb2; clear hown' hgrow hb2)
  go_ret2
  refine ⟨rfl, ?_, ?_⟩
  · exact Lib.BuilderAt.put (T := BT) (e := BE) hB HB2.out (bs' := bs ++ Lib.strCells s) (by have := HO2.out; simpa [Lib.strCells_length] using this) (by decide)
  · exact (HB1.out.grown HG.out (by omega) (fun k hk => (World.ownsRow.lt HO.out k hk).1)).setCell (p := ⟨b, 1, none⟩) hB _
end
section
open Go.ChangeShapes Go.WideShapes Go.ChangeAt Go.RowKit
set_option linter.unusedVariables false
set_option linter.unusedSimpArgs false
set_option maxRecDepth 100000 in
set_option maxHeartbeats 400000 in
theorem formatUint_in (i : Nat) (h : i < 100) (w : World) :
    Calls Tryz.prog 134 #[.int .u64 (i : Int), .int .i64 10] w fun e w' => e = .returned (.string ⟨(Lib.decDigits i).toArray⟩) ∧ w = w' := by
  have hi : (i : Int) < 100 := by omega
  go_enter Tryz.func134, Tryz.ntmps134
  go_wp2_with fail
  refine (Tryz.internal_strconv_small i h _).mono ?_
  rintro e w' ⟨rfl, rfl⟩
  go_wp2_with fail
  go_ret
  exact ⟨rfl, rfl⟩
def TextPost (W : World) (s : ByteArray) (e : Ending) (w' : World) : Prop := e = .returned (.string s) ∧ Below W.heap.size W w'
end
section
open Go.ChangeShapes Go.WideShapes Go.ChangeAt Go.RowKit
set_option linter.unusedVariables false
set_option linter.unusedSimpArgs false
theorem two_limbs (a : Int) (h : 0 ≤ a) (h' : a ≤ 18446744073709551615) : Dig B18 [a % 1000000000000000000, a / 1000000000000000000] ∧ val B18 [a % 1000000000000000000, a / 1000000000000000000] = a := by
  refine ⟨Dig.cons (by rw [B18]; omega) (Dig.cons (by rw [B18]; omega) (Dig.nil (by decide))), ?_⟩
  simp only [val, B18]; omega
theorem LU.two (w : World) (a b : Int) : LU (w.alloc (.cells #[.int .u64 a, .int .u64 b] 25)) w.heap.size [a, b] := heap_alloc_new w _
theorem of_core (neg : Bool) (a : Int) (h0 : 0 ≤ a) (h1 : a ≤ 18446744073709551615) (w : World) (k : Nat) (hk : CutAt [a % 1000000000000000000, a / 1000000000000000000] k) {g B0 : Nat} (hL : LU w g [a % 1000000000000000000, a / 1000000000000000000]) (hB : B0 ≤ g) :
    ∃ neg' p ws', madeV neg (some ⟨g, 0, none⟩) k = .agg #[.bool neg', .slice p k k] ∧ (∀ w' : World, w'.heap[g]? = w.heap[g]? → MU w' B0 (.slice p k k) ws') ∧ Sgn B18 neg' ws' (sg neg a) ∧ ws'.length = k := by
  obtain ⟨hd, hv⟩ := two_limbs a h0 h1
  have := made_sgn neg hk hd hL hB
  rw [hv] at this
  exact this
set_option maxRecDepth 100000 in
set_option maxHeartbeats 800000 in
theorem of_pos (n : Int) (w : World) (h0 : 0 ≤ n) (h1 : n ≤ 9223372036854775807) :
    Calls Tryz.prog 52 #[.int .i64 n] w (BigPost w w.heap.size n) := by
  have hn : ¬ n < 0 := by omega
  go_enter Tryz.func52, Tryz.ntmps52
  go_wp2_with fail
  generalize hw2 : World.alloc (World.alloc w _) _ = w2
  have hL : LU w2 (w.heap.size + 1) [n % 1000000000000000000, n / 1000000000000000000] := by
    rw [← hw2]
    have := LU.two (w.alloc (.cells #[.bool false, .slice none 0 0] 24)) (n % 1000000000000000000) (n / 1000000000000000000)
    simpa using this
  have HL := Lib.hid hL
  have HB2 := Lib.hid (show Below w.heap.size w w2 by rw [← hw2]; exact ((Below.refl _ _).alloc (Nat.le_refl _) _).alloc (by simp) _)
  have q0 : w2.cell? ⟨w.heap.size, 0, none⟩ = some (.bool false) := by rw [← hw2]; exact alloc_cell (by simp) _
  have q1 : w2.cell? ⟨w.heap.size, 1, none⟩ = some (.slice none 0 0) := by rw [← hw2]; exact alloc_cell (by simp) _
  have f0 : w2.frozen? ⟨w.heap.size, 0, none⟩ = false := by rw [← hw2]; exact alloc_frozen (by simp) (by simp) _
  have f1 : w2.frozen? ⟨w.heap.size, 1, none⟩ = false := by rw [← hw2]; exact alloc_frozen (by simp) (by simp) _
  have hlt : w.heap.size < w2.heap.size := by rw [← hw2]; simp; omega
  clear hw2 hL
  refine (made_any false _ 2 [n % 1000000000000000000, n / 1000000000000000000] w2 ((HL.out.mine (Nat.zero_le _)).rd (by simp))).mono ?_
  rintro e w3 ⟨k, hk, rfl, hb3⟩
  obtain ⟨neg', p, ws', hv, hM, hS, hlk⟩ := of_core (B0 := w.heap.size + 1) false n (by omega) (by omega) w3 k hk (HL.out.keep hb3) (Nat.le_refl _)
  rw [hv]
  have HM := Lib.hid (hM w3 rfl)
  have HS := Lib.hid hS
  have HB3 := Lib.hid (HB2.out.trans (hb3.mono HB2.out.size))
  have m0 := below_cell hb3 q0
  have m1 := below_cell hb3 q1
  have mf0 := (hb3.frozen (p := ⟨w.heap.size, 0, none⟩) hlt).trans f0
  have mf1 := (hb3.frozen (p := ⟨w.heap.size, 1, none⟩) hlt).trans f1
  clear hv hM hS hlk hb3 hk q0 q1 f0 f1
  go_wp2_with fail
  have zz := two_setW (x0 := .bool neg') (x1 := .slice p k k) m0 m1
  exact bodyPost_ret (v := .agg #[.bool neg', .slice p k k]) (by simp [results, Tryz.results52, go_sem, zz.1, zz.2]) rfl ⟨neg', _, ws', rfl, (HM.out.set2 (by omega) _ _).low (by omega), HS.out, (HB3.out.setCell (by simp) _).setCell (by simp) _⟩
set_option maxRecDepth 100000 in
set_option maxHeartbeats 800000 in
theorem of_neg (n : Int) (w : World) (h0 : n < 0) (h1 : -9223372036854775808 ≤ n) :
    Calls Tryz.prog 52 #[.int .i64 n] w (BigPost w w.heap.size n) := by
  obtain ⟨m, hm, hm0, hm1, hnm⟩ : ∃ m : Int, IntKind.u64.wrap (-IntKind.u64.wrap n) = m ∧ 0 ≤ m ∧ m ≤ 9223372036854775808 ∧ n = -m := by
    refine ⟨-n, ?_, by omega, by omega, by omega⟩
    rw [u64w, u64w]; omega
  have HN := Lib.hid hnm
  clear hnm
  go_enter Tryz.func52, Tryz.ntmps52
  go_wp2_with fail
  clear hm
  generalize hw2 : World.alloc (World.alloc w _) _ = w2
  have hL : LU w2 (w.heap.size + 1) [m % 1000000000000000000, m / 1000000000000000000] := by
    rw [← hw2]
    have := LU.two (w.alloc (.cells #[.bool false, .slice none 0 0] 24)) (m % 1000000000000000000) (m / 1000000000000000000)
    simpa using this
  have HL := Lib.hid hL
  have HB2 := Lib.hid (show Below w.heap.size w w2 by rw [← hw2]; exact ((Below.refl _ _).alloc (Nat.le_refl _) _).alloc (by simp) _)
  have q0 : w2.cell? ⟨w.heap.size, 0, none⟩ = some (.bool false) := by rw [← hw2]; exact alloc_cell (by simp) _
  have q1 : w2.cell? ⟨w.heap.size, 1, none⟩ = some (.slice none 0 0) := by rw [← hw2]; exact alloc_cell (by simp) _
  have f0 : w2.frozen? ⟨w.heap.size, 0, none⟩ = false := by rw [← hw2]; exact alloc_frozen (by simp) (by simp) _
  have f1 : w2.frozen? ⟨w.heap.size, 1, none⟩ = false := by rw [← hw2]; exact alloc_frozen (by simp) (by simp) _
  have hlt : w.heap.size < w2.heap.size := by rw [← hw2]; simp; omega
  clear hw2 hL
  refine (made_any true _ 2 [m % 1000000000000000000, m / 1000000000000000000] w2 ((HL.out.mine (Nat.zero_le _)).rd (by simp))).mono ?_
  rintro e w3 ⟨k, hk, rfl, hb3⟩
  obtain ⟨neg', p, ws', hv, hM, hS, hlk⟩ := of_core (B0 := w.heap.size + 1) true m (by omega) (by omega) w3 k hk (HL.out.keep hb3) (Nat.le_refl _)
  rw [hv]
  have HM := Lib.hid (hM w3 rfl)
  have HS := Lib.hid hS
  have HB3 := Lib.hid (HB2.out.trans (hb3.mono HB2.out.size))
  have m0 := below_cell hb3 q0
  have m1 := below_cell hb3 q1
  have mf0 := (hb3.frozen (p := ⟨w.heap.size, 0, none⟩) hlt).trans f0
  have mf1 := (hb3.frozen (p := ⟨w.heap.size, 1, none⟩) hlt).trans f1
  clear hv hM hS hlk hb3 hk q0 q1 f0 f1
  go_wp2_with fail
  have zz := two_setW (x0 := .bool neg') (x1 := .slice p k k) m0 m1
  exact bodyPost_ret (v := .agg #[.bool neg', .slice p k k]) (by simp [results, Tryz.results52, go_sem, zz.1, zz.2]) rfl ⟨neg', _, ws', rfl, (HM.out.set2 (by omega) _ _).low (by omega), by rw [HN.out]; exact HS.out, (HB3.out.setCell (by simp) _).setCell (by simp) _⟩
theorem of_int (n : Int) (w : World) (h0 : -9223372036854775808 ≤ n) (h1 : n ≤ 9223372036854775807) :
    Calls Tryz.prog 52 #[.int .i64 n] w (BigPost w w.heap.size n) := by
  by_cases h : n < 0
  · exact of_neg n w h h0
  · exact of_pos n w (by omega) h1
end
section
open Go.ChangeShapes Go.WideShapes Go.ChangeAt Go.RowKit
set_option linter.unusedVariables false
set_option linter.unusedSimpArgs false
end
end Go.Proofs.YtpebnofjcodikaaGreatDoor
