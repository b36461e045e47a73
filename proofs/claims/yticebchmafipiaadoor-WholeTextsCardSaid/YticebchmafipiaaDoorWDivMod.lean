/- Layer 2: whole.DivMod, over what divSizes answers. -/
import Derived.Test.YticebchmafipiaaDoorWCmp
import Derived.Deep.DeepCutAuto
namespace Go.Proofs.YticebchmafipiaaDoor
open Go.ChangeShapes Go.WideShapes Go.ChangeAt Go.RowKit
set_option linter.unusedVariables false
set_option linter.unusedSimpArgs false
/-- A row of one's own, between two blocks. -/
def MR (w : World) (lo hi : Nat) (u : Value) (ws : List Int) : Prop :=
  (u = .slice none 0 0 ∧ ws = []) ∨ ∃ g c cur, u = .slice (some ⟨g, 0, none⟩) ws.length c ∧ ws.length ≤ c ∧ c ≤ Array.size cur ∧ lo ≤ g ∧ g < hi ∧
    w.heap[g]? = some (.cells cur U64 (0, 0)) ∧ ∀ i, i < ws.length → cur[i]? = some (.int .u64 (ws.getD i 0))
theorem MU.mr {w : World} {lo : Nat} {u : Value} {ws : List Int} (h : MU w lo u ws) : MR w lo w.heap.size u ws := by
  rcases h with h | ⟨g, c, cur, h0, h1, h2, h3, h4, h5⟩
  · exact .inl h
  · exact .inr ⟨g, c, cur, h0, h1, h2, h3, (Array.getElem?_eq_some_iff.1 h4).1, h4, h5⟩
theorem MR.mu {w : World} {lo hi : Nat} {u : Value} {ws : List Int} (h : MR w lo hi u ws) : MU w lo u ws := by
  rcases h with h | ⟨g, c, cur, h0, h1, h2, h3, _, h4, h5⟩
  · exact .inl h
  · exact .inr ⟨g, c, cur, h0, h1, h2, h3, h4, h5⟩
theorem MR.block {w w' : World} {lo hi : Nat} {u : Value} {ws : List Int} (h : MR w lo hi u ws) (hb : ∀ q, lo ≤ q → q < hi → w'.heap[q]? = w.heap[q]?) : MR w' lo hi u ws := by
  rcases h with h | ⟨g, c, cur, h0, h1, h2, h3, h4, h5, h6⟩
  · exact .inl h
  · exact .inr ⟨g, c, cur, h0, h1, h2, h3, h4, (hb g h3 h4).trans h5, h6⟩
theorem MR.lo {w : World} {lo lo' hi : Nat} {u : Value} {ws : List Int} (h : MR w lo hi u ws) (hl : lo' ≤ lo) : MR w lo' hi u ws := by
  rcases h with h | ⟨g, c, cur, h0, h1, h2, h3, h4, h5, h6⟩
  · exact .inl h
  · exact .inr ⟨g, c, cur, h0, h1, h2, Nat.le_trans hl h3, h4, h5, h6⟩
theorem MR.hi {w : World} {lo hi hi' : Nat} {u : Value} {ws : List Int} (h : MR w lo hi u ws) (hl : hi ≤ hi') : MR w lo hi' u ws := by
  rcases h with h | ⟨g, c, cur, h0, h1, h2, h3, h4, h5, h6⟩
  · exact .inl h
  · exact .inr ⟨g, c, cur, h0, h1, h2, h3, Nat.lt_of_lt_of_le h4 hl, h5, h6⟩
theorem MR.keep {w w' : World} {lo hi : Nat} {u : Value} {ws : List Int} (h : MR w lo hi u ws) (hb : Below w.heap.size w w') : MR w' lo hi u ws := by
  rcases h with h | ⟨g, c, cur, h0, h1, h2, h3, h4, h5, h6⟩
  · exact .inl h
  · exact .inr ⟨g, c, cur, h0, h1, h2, h3, h4, (hb.block g (Array.getElem?_eq_some_iff.1 h5).1).trans h5, h6⟩
theorem MR.set2 {w : World} {lo hi B : Nat} {u : Value} {ws : List Int} (h : MR w lo hi u ws) (hB : B < lo) (x0 x1 : Value) : MR ((w.setCell ⟨B, 0, none⟩ x0).setCell ⟨B, 1, none⟩ x1) lo hi u ws :=
  h.block fun q hq _ => by rw [Below.heap_setCell _ _ _ _ (by simp; omega), Below.heap_setCell _ _ _ _ (by simp; omega)]
theorem MR.take {w : World} {lo hi : Nat} {p : Option Addr} {n c m : Nat} {ws : List Int} (h : MR w lo hi (.slice p n c) ws) (hm : m ≤ n) (h0 : 0 < m) : MR w lo hi (.slice p m m) (ws.take m) := by
  rcases h with ⟨e, rfl⟩ | ⟨g, c', cur, e, h1, h2, h3, h4, h5, h6⟩
  · simp only [Value.slice.injEq] at e; omega
  · simp only [Value.slice.injEq] at e
    obtain ⟨rfl, rfl, rfl⟩ := e
    have hl : (ws.take m).length = m := by rw [List.length_take]; omega
    refine .inr ⟨g, m, cur, by rw [hl], by rw [hl]; exact Nat.le_refl _, by omega, h3, h4, h5, fun i hi => ?_⟩
    rw [hl] at hi
    rw [getD_take, if_pos hi]
    exact h6 i (by omega)
/-- What divSizes answers. -/
def DivPost (W : World) (xs ys : List Int) (e : Ending) (w' : World) : Prop :=
  ∃ uq qs gr rs, e = .returned (.tuple #[uq, .slice (some ⟨gr, 0, none⟩) rs.length rs.length]) ∧ MR w' W.heap.size gr uq qs ∧ LU w' gr rs ∧ W.heap.size ≤ gr ∧ Dig B18 qs ∧ Dig B18 rs ∧
    qs.length ≤ 1000 ∧ rs.length ≤ 1000 ∧ val B18 xs = val B18 qs * val B18 ys + val B18 rs ∧ val B18 rs < val B18 ys ∧ Below W.heap.size W w'
/-- 'made' of a row of one's own. -/
theorem made_mr {w : World} {lo hi k n c : Nat} {p : Option Addr} {ws : List Int} (neg : Bool) (hk : CutAt ws k) (hd : Dig B18 ws) (hM : MR w lo hi (.slice p n c) ws) :
    ∃ neg' p' ws', madeV neg p k = .agg #[.bool neg', .slice p' k k] ∧ MR w lo hi (.slice p' k k) ws' ∧ Sgn B18 neg' ws' (sg neg (val B18 ws)) ∧ ws'.length = k := by
  obtain ⟨h1, h2, h3⟩ := hk.canon (b := B18) (by decide) hd
  have hn : n = ws.length := by
    rcases hM with ⟨e, rfl⟩ | ⟨g, c', cur, e, _⟩
    · simp only [Value.slice.injEq] at e; simp [e.2.1]
    · simp only [Value.slice.injEq] at e; exact e.2.1
  by_cases h0 : k = 0
  · subst h0
    refine ⟨false, none, [], if_pos rfl, .inl ⟨rfl, rfl⟩, ⟨Canon.nil (by decide), fun h => (by cases h), ?_⟩, rfl⟩
    rw [List.take_zero] at h2
    rw [← h2]
    cases neg <;> rfl
  · exact ⟨neg, _, ws.take k, if_neg h0, MR.take hM (by rw [hn]; exact hk.1) (by omega), ⟨h1, fun _ => by omega, by rw [h2]⟩, h3⟩
structure Bx4 (w : World) (B : Nat) (n1 : Bool) (u1 : Value) (n2 : Bool) (u2 : Value) : Prop where
  x0 : w.cell? ⟨B, 0, none⟩ = some (.bool n1)
  x1 : w.cell? ⟨B, 1, none⟩ = some u1
  y0 : w.cell? ⟨B + 1, 0, none⟩ = some (.bool n2)
  y1 : w.cell? ⟨B + 1, 1, none⟩ = some u2
  r0 : w.cell? ⟨B + 1 + 1, 0, none⟩ = some (.bool false)
  r1 : w.cell? ⟨B + 1 + 1, 1, none⟩ = some (.slice none 0 0)
  f0 : w.frozen? ⟨B + 1 + 1, 0, none⟩ = false
  f1 : w.frozen? ⟨B + 1 + 1, 1, none⟩ = false
  s0 : w.cell? ⟨B + 1 + 1 + 1, 0, none⟩ = some (.bool false)
  s1 : w.cell? ⟨B + 1 + 1 + 1, 1, none⟩ = some (.slice none 0 0)
  g0 : w.frozen? ⟨B + 1 + 1 + 1, 0, none⟩ = false
  g1 : w.frozen? ⟨B + 1 + 1 + 1, 1, none⟩ = false
  lt : B + 1 + 1 + 1 < w.heap.size
theorem Bx4.keep {w w' : World} {B : Nat} {n1 n2 : Bool} {u1 u2 : Value} (h : Bx4 w B n1 u1 n2 u2) (hb : ∀ q, q < w.heap.size → w'.heap[q]? = w.heap[q]?) (hs : w.heap.size ≤ w'.heap.size) : Bx4 w' B n1 u1 n2 u2 := by
  have hl := h.lt
  have c : ∀ b o, b < w.heap.size → w'.cell? ⟨b, o, none⟩ = w.cell? ⟨b, o, none⟩ := fun b o h => World.cell?_of_block (a := ⟨b, o, none⟩) (hb b h)
  have f : ∀ b o, b < w.heap.size → w'.frozen? ⟨b, o, none⟩ = w.frozen? ⟨b, o, none⟩ := fun b o h => World.frozen?_of_block (a := ⟨b, o, none⟩) (hb b h)
  exact ⟨(c _ _ (by omega)).trans h.x0, (c _ _ (by omega)).trans h.x1, (c _ _ (by omega)).trans h.y0, (c _ _ (by omega)).trans h.y1, (c _ _ (by omega)).trans h.r0, (c _ _ (by omega)).trans h.r1,
    (f _ _ (by omega)).trans h.f0, (f _ _ (by omega)).trans h.f1, (c _ _ (by omega)).trans h.s0, (c _ _ (by omega)).trans h.s1, (f _ _ (by omega)).trans h.g0, (f _ _ (by omega)).trans h.g1, Nat.lt_of_lt_of_le hl hs⟩
theorem bx4_new (w : World) (n1 n2 : Bool) (u1 u2 : Value) (T : TypeId) : Bx4 ((((w.alloc (.cells #[.bool n1, u1] T)).alloc (.cells #[.bool n2, u2] T)).alloc (.cells #[.bool false, .slice none 0 0] T)).alloc (.cells #[.bool false, .slice none 0 0] T)) w.heap.size n1 u1 n2 u2 := by
  have e1 : w.heap.size + 1 = (w.alloc (.cells #[.bool n1, u1] T)).heap.size := by simp
  have e2 : w.heap.size + 1 + 1 = ((w.alloc (.cells #[.bool n1, u1] T)).alloc (.cells #[.bool n2, u2] T)).heap.size := by simp
  have e3 : w.heap.size + 1 + 1 + 1 = (((w.alloc (.cells #[.bool n1, u1] T)).alloc (.cells #[.bool n2, u2] T)).alloc (.cells #[.bool false, .slice none 0 0] T)).heap.size := by simp
  refine ⟨alloc_cell (alloc_cell (alloc_cell (by simp) _) _) _, alloc_cell (alloc_cell (alloc_cell (by simp) _) _) _, ?_, ?_, ?_, ?_, ?_, ?_, ?_, ?_, ?_, ?_, by simp⟩
  · rw [e1]; exact alloc_cell (alloc_cell (by generalize w.alloc _ = W; simp) _) _
  · rw [e1]; exact alloc_cell (alloc_cell (by generalize w.alloc _ = W; simp) _) _
  · rw [e2]; exact alloc_cell (by generalize World.alloc (World.alloc w _) _ = W; simp) _
  · rw [e2]; exact alloc_cell (by generalize World.alloc (World.alloc w _) _ = W; simp) _
  · rw [e2]; exact alloc_frozen (by simp) (by generalize World.alloc (World.alloc w _) _ = W; simp) _
  · rw [e2]; exact alloc_frozen (by simp) (by generalize World.alloc (World.alloc w _) _ = W; simp) _
  · rw [e3]; generalize World.alloc (World.alloc (World.alloc w _) _) _ = W; simp
  · rw [e3]; generalize World.alloc (World.alloc (World.alloc w _) _) _ = W; simp
  · rw [e3]; generalize World.alloc (World.alloc (World.alloc w _) _) _ = W; simp
  · rw [e3]; generalize World.alloc (World.alloc (World.alloc w _) _) _ = W; simp
theorem below4 (w : World) (o1 o2 o3 o4 : Obj) : Below w.heap.size w ((((w.alloc o1).alloc o2).alloc o3).alloc o4) :=
  ((((Below.refl _ _).alloc (Nat.le_refl _) _).alloc (by simp) _).alloc (by simp; omega) _).alloc (by simp; omega) _
/-- Behind the two calls of made: quotient and rest of sizes in boxes of their own. -/
structure QR (w wx : World) (n1 : Bool) (u1 : Value) (n2 : Bool) (u2 : Value) (L M H b9 b10 : Nat) (m9 : Bool) (p9 : Option Addr) (k9 : Nat) (q : List Int) (m10 : Bool) (p10 : Option Addr) (k10 : Nat) (r : List Int) (zq zr : Int) : Prop where
  box : Bx4 wx w.heap.size n1 u1 n2 u2
  below : Below w.heap.size w wx
  c9 : wx.cell? ⟨b9, 0, none⟩ = some (.bool m9)
  d9 : wx.cell? ⟨b9, 1, none⟩ = some (.slice p9 k9 k9)
  f9 : wx.frozen? ⟨b9, 0, none⟩ = false
  g9 : wx.frozen? ⟨b9, 1, none⟩ = false
  c10 : wx.cell? ⟨b10, 0, none⟩ = some (.bool m10)
  d10 : wx.cell? ⟨b10, 1, none⟩ = some (.slice p10 k10 k10)
  lo : w.heap.size + 1 + 1 + 1 < L
  h9 : H ≤ b9
  h10 : H ≤ b10
  ne : b9 ≠ b10
  lM : L ≤ M
  hM : M ≤ H
  q9 : MR wx L M (.slice p9 k9 k9) q
  q10 : MR wx M H (.slice p10 k10 k10) r
  s9 : Sgn B18 m9 q zq
  s10 : Sgn B18 m10 r zr
end Go.Proofs.YticebchmafipiaaDoor
