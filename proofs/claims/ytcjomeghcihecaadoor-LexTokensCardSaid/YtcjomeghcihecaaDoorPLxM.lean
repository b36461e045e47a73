/- Layer 4: the lexer in memory. -/
import Derived.Test.YtcjomeghcihecaaDoorPGLxA
import Derived.Maps.Own
import Derived.Maps.OwnOps
import Derived.Lib.OthersKept
namespace Go.Proofs.YtcjomeghcihecaaDoor
open Go Go.ChangeShapes Go.WideShapes Go.ChangeAt Go.RowKit Go.PlainAid Go.Maps
set_option linter.unusedVariables false
set_option linter.unusedSimpArgs false
def bsOf (l : Bs) : ByteArray := ⟨l.toArray⟩
def flatT : List Tk → List Value
  | [] => []
  | t :: r => .int .i64 t.kind :: .int .i64 t.line :: .string (bsOf t.text) :: flatT r
theorem flatT_len : ∀ (us : List Tk), (flatT us).length = us.length * 3
  | [] => rfl
  | q :: r => by simp [flatT, flatT_len r]; omega
theorem flatT_append : ∀ (a b : List Tk), flatT (a ++ b) = flatT a ++ flatT b
  | [], b => rfl
  | q :: r, b => by simp [flatT, flatT_append r b]
theorem flatT_at : ∀ (us : List Tk) (i : Nat), i < us.length → (flatT us)[i * 3]? = some (.int .i64 (us.getD i tkZ).kind) ∧ (flatT us)[i * 3 + 1]? = some (.int .i64 (us.getD i tkZ).line) ∧ (flatT us)[i * 3 + 2]? = some (.string (bsOf (us.getD i tkZ).text))
  | q :: r, 0, _ => by simp [flatT]
  | q :: r, i + 1, h => by
    have ih := flatT_at r i (by simpa using h)
    rw [show (i + 1) * 3 = i * 3 + 3 by omega, show i * 3 + 3 + 1 = i * 3 + 1 + 3 by omega, show i * 3 + 3 + 2 = i * 3 + 2 + 3 by omega]
    simpa [flatT] using ih
/-- A struct of eight cells. -/
structure C8 (w : World) (x : Nat) (v0 v1 v2 v3 v4 v5 v6 v7 : Value) : Prop where
  c0 : w.cell? ⟨x, 0, none⟩ = some v0
  c1 : w.cell? ⟨x, 1, none⟩ = some v1
  c2 : w.cell? ⟨x, 2, none⟩ = some v2
  c3 : w.cell? ⟨x, 3, none⟩ = some v3
  c4 : w.cell? ⟨x, 4, none⟩ = some v4
  c5 : w.cell? ⟨x, 5, none⟩ = some v5
  c6 : w.cell? ⟨x, 6, none⟩ = some v6
  c7 : w.cell? ⟨x, 7, none⟩ = some v7
  f : ∀ i, w.frozen? ⟨x, i, none⟩ = false
section
variable {w w' : World} {x : Nat} {v0 v1 v2 v3 v4 v5 v6 v7 : Value}
theorem C8.lt (h : C8 w x v0 v1 v2 v3 v4 v5 v6 v7) : x < w.heap.size := World.block_lt_of_cell? w _ h.c0
theorem C8.of (h : C8 w x v0 v1 v2 v3 v4 v5 v6 v7) (e : w'.heap[x]? = w.heap[x]?) : C8 w' x v0 v1 v2 v3 v4 v5 v6 v7 :=
  ⟨(World.cell?_of_block (a := ⟨x, 0, none⟩) e).trans h.c0, (World.cell?_of_block (a := ⟨x, 1, none⟩) e).trans h.c1, (World.cell?_of_block (a := ⟨x, 2, none⟩) e).trans h.c2, (World.cell?_of_block (a := ⟨x, 3, none⟩) e).trans h.c3, (World.cell?_of_block (a := ⟨x, 4, none⟩) e).trans h.c4, (World.cell?_of_block (a := ⟨x, 5, none⟩) e).trans h.c5, (World.cell?_of_block (a := ⟨x, 6, none⟩) e).trans h.c6, (World.cell?_of_block (a := ⟨x, 7, none⟩) e).trans h.c7, fun i => (World.frozen?_of_block (a := ⟨x, i, none⟩) e).trans (h.f i)⟩
theorem C8.new (w : World) (v0 v1 v2 v3 v4 v5 v6 v7 : Value) (T : TypeId) : C8 (w.alloc (.cells #[v0, v1, v2, v3, v4, v5, v6, v7] T)) w.heap.size v0 v1 v2 v3 v4 v5 v6 v7 :=
  ⟨by simp, by simp, by simp, by simp, by simp, by simp, by simp, by simp, fun i => by unfold World.frozen?; rw [heap_alloc_new]; simp⟩
theorem C8.set1 (h : C8 w x v0 v1 v2 v3 v4 v5 v6 v7) (u : Value) : C8 (w.setCell ⟨x, 1, none⟩ u) x v0 u v2 v3 v4 v5 v6 v7 := by
  obtain ⟨h0, h1, h2, h3, h4, h5, h6, h7, f⟩ := h
  exact ⟨(World.cell?_setCell_other _ _ _ _ (by simp)).trans h0, World.cell?_setCell_same _ _ _ h1, (World.cell?_setCell_other _ _ _ _ (by simp)).trans h2, (World.cell?_setCell_other _ _ _ _ (by simp)).trans h3, (World.cell?_setCell_other _ _ _ _ (by simp)).trans h4, (World.cell?_setCell_other _ _ _ _ (by simp)).trans h5, (World.cell?_setCell_other _ _ _ _ (by simp)).trans h6, (World.cell?_setCell_other _ _ _ _ (by simp)).trans h7, fun i => by rw [World.frozen?_setCell]; exact f i⟩
theorem C8.set2 (h : C8 w x v0 v1 v2 v3 v4 v5 v6 v7) (u : Value) : C8 (w.setCell ⟨x, 2, none⟩ u) x v0 v1 u v3 v4 v5 v6 v7 := by
  obtain ⟨h0, h1, h2, h3, h4, h5, h6, h7, f⟩ := h
  exact ⟨(World.cell?_setCell_other _ _ _ _ (by simp)).trans h0, (World.cell?_setCell_other _ _ _ _ (by simp)).trans h1, World.cell?_setCell_same _ _ _ h2, (World.cell?_setCell_other _ _ _ _ (by simp)).trans h3, (World.cell?_setCell_other _ _ _ _ (by simp)).trans h4, (World.cell?_setCell_other _ _ _ _ (by simp)).trans h5, (World.cell?_setCell_other _ _ _ _ (by simp)).trans h6, (World.cell?_setCell_other _ _ _ _ (by simp)).trans h7, fun i => by rw [World.frozen?_setCell]; exact f i⟩
theorem C8.set3 (h : C8 w x v0 v1 v2 v3 v4 v5 v6 v7) (u : Value) : C8 (w.setCell ⟨x, 3, none⟩ u) x v0 v1 v2 u v4 v5 v6 v7 := by
  obtain ⟨h0, h1, h2, h3, h4, h5, h6, h7, f⟩ := h
  exact ⟨(World.cell?_setCell_other _ _ _ _ (by simp)).trans h0, (World.cell?_setCell_other _ _ _ _ (by simp)).trans h1, (World.cell?_setCell_other _ _ _ _ (by simp)).trans h2, World.cell?_setCell_same _ _ _ h3, (World.cell?_setCell_other _ _ _ _ (by simp)).trans h4, (World.cell?_setCell_other _ _ _ _ (by simp)).trans h5, (World.cell?_setCell_other _ _ _ _ (by simp)).trans h6, (World.cell?_setCell_other _ _ _ _ (by simp)).trans h7, fun i => by rw [World.frozen?_setCell]; exact f i⟩
theorem C8.set4 (h : C8 w x v0 v1 v2 v3 v4 v5 v6 v7) (u : Value) : C8 (w.setCell ⟨x, 4, none⟩ u) x v0 v1 v2 v3 u v5 v6 v7 := by
  obtain ⟨h0, h1, h2, h3, h4, h5, h6, h7, f⟩ := h
  exact ⟨(World.cell?_setCell_other _ _ _ _ (by simp)).trans h0, (World.cell?_setCell_other _ _ _ _ (by simp)).trans h1, (World.cell?_setCell_other _ _ _ _ (by simp)).trans h2, (World.cell?_setCell_other _ _ _ _ (by simp)).trans h3, World.cell?_setCell_same _ _ _ h4, (World.cell?_setCell_other _ _ _ _ (by simp)).trans h5, (World.cell?_setCell_other _ _ _ _ (by simp)).trans h6, (World.cell?_setCell_other _ _ _ _ (by simp)).trans h7, fun i => by rw [World.frozen?_setCell]; exact f i⟩
theorem C8.set7 (h : C8 w x v0 v1 v2 v3 v4 v5 v6 v7) (u : Value) : C8 (w.setCell ⟨x, 7, none⟩ u) x v0 v1 v2 v3 v4 v5 v6 u := by
  obtain ⟨h0, h1, h2, h3, h4, h5, h6, h7, f⟩ := h
  exact ⟨(World.cell?_setCell_other _ _ _ _ (by simp)).trans h0, (World.cell?_setCell_other _ _ _ _ (by simp)).trans h1, (World.cell?_setCell_other _ _ _ _ (by simp)).trans h2, (World.cell?_setCell_other _ _ _ _ (by simp)).trans h3, (World.cell?_setCell_other _ _ _ _ (by simp)).trans h4, (World.cell?_setCell_other _ _ _ _ (by simp)).trans h5, (World.cell?_setCell_other _ _ _ _ (by simp)).trans h6, World.cell?_setCell_same _ _ _ h7, fun i => by rw [World.frozen?_setCell]; exact f i⟩
end
/-- What stands still while a source is gone through: the table of words, the row of symbols. -/
structure Fx (D : DataW Unit) (w : World) (mb kb : Nat) : Prop where
  m : w.ownsMap Tryd.prog 9 (plainElem Tryd.prog 3) mb 32 D
  k : w.heap[kb]? = some (.cells (symsB.map fun l => Value.string (bsOf l)).toArray 9)
theorem Fx.of {D : DataW Unit} {w w' : World} {mb kb : Nat} (h : Fx D w mb kb) (hm : w'.heap[mb]? = w.heap[mb]?) (hk : w'.heap[kb]? = w.heap[kb]?) : Fx D w' mb kb := by
  obtain ⟨⟨es, clock, h1, h2⟩, h3⟩ := h
  exact ⟨⟨es, clock, hm.trans h1, h2⟩, hk.trans h3⟩
/-- What the lexer knows, as plain data. -/
structure LxD where
  s : ByteArray
  a : Nat
  ln : Nat
  d : Int
  op : List Int
  out : List Tk
structure LxV (D : DataW Unit) (w : World) (B x mb kb : Nat) (σ : LxD) (ov tv : Value) : Prop where
  c : C8 w x (.string σ.s) (.int .i64 σ.a) (.int .i64 σ.ln) (.int .i64 σ.d) ov (.map (some mb)) (.slice (some ⟨kb, 0, none⟩) 30 30) tv
  bx : B ≤ x
  o : OW .i64 3 w B ov σ.op.reverse
  t : w.ownsRow B 33 3 tv σ.out.length (flatT σ.out)
  fx : Fx D w mb kb
  xm : mb ≠ x
  xk : kb ≠ x
  ox : ov.ownBlock ≠ some x
  om : ov.ownBlock ≠ some mb
  ok : ov.ownBlock ≠ some kb
  tx : tv.ownBlock ≠ some x
  tm : tv.ownBlock ≠ some mb
  tk : tv.ownBlock ≠ some kb
  ot : ∀ g, ov.ownBlock = some g → tv.ownBlock ≠ some g
def LX (D : DataW Unit) (w : World) (B x mb kb : Nat) (σ : LxD) : Prop := ∃ ov tv, LxV D w B x mb kb σ ov tv
theorem owns_of {w w' : World} {B : Nat} {e : TypeId} {sz n : Nat} {v : Value} {xs : List Value} (h : w.ownsRow B e sz v n xs) (hg : ∀ g, v.ownBlock = some g → w'.heap[g]? = w.heap[g]?) : w'.ownsRow B e sz v n xs := by
  obtain ⟨h1, h2⟩ := h
  refine ⟨h1, ?_⟩
  rcases h2 with h2 | ⟨g, cap, cur, rfl, hB, hh, r⟩
  · exact .inl h2
  · exact .inr ⟨g, cap, cur, rfl, hB, (hg g rfl).trans hh, r⟩
theorem alloc_szM (w : World) (o : Obj) : (w.alloc o).heap.size = w.heap.size + 1 := by simp
theorem owns_lt {w : World} {B : Nat} {e : TypeId} {sz n : Nat} {v : Value} {xs : List Value} (h : w.ownsRow B e sz v n xs) {g : Nat} (hg : v.ownBlock = some g) : B ≤ g ∧ g < w.heap.size := World.ownsRow.lt h g hg
section
variable {D : DataW Unit} {w w' : World} {B x mb kb : Nat} {σ : LxD} {ov tv : Value}
theorem Fx.lt (h : Fx D w mb kb) : mb < w.heap.size ∧ kb < w.heap.size := by
  obtain ⟨⟨es, clock, h1, _⟩, h3⟩ := h
  exact ⟨(Array.getElem?_eq_some_iff.1 h1).1, (Array.getElem?_eq_some_iff.1 h3).1⟩
/-- All that the lexer holds stays where no block of w turns. -/
theorem LxV.keep (h : LxV D w B x mb kb σ ov tv) (hb : Below w.heap.size w w') : LxV D w' B x mb kb σ ov tv :=
  { h with
    c := h.c.of (hb.block _ h.c.lt)
    o := owns_of h.o fun g hg => hb.block _ (owns_lt h.o hg).2
    t := owns_of h.t fun g hg => hb.block _ (owns_lt h.t hg).2
    fx := h.fx.of (hb.block _ h.fx.lt.1) (hb.block _ h.fx.lt.2) }
theorem LX.keep (h : LX D w B x mb kb σ) (hb : Below w.heap.size w w') : LX D w' B x mb kb σ := by
  obtain ⟨ov, tv, h⟩ := h
  exact ⟨ov, tv, h.keep hb⟩
theorem LxV.setAt (h : LxV D w B x mb kb σ ov tv) (a : Nat) : LxV D (w.setCell ⟨x, 1, none⟩ (.int .i64 a)) B x mb kb { σ with a := a } ov tv :=
  { h with
    c := h.c.set1 _
    o := owns_of h.o fun g hg => Below.heap_setCell _ _ _ _ (fun e => h.ox (by rw [hg]; exact congrArg some e))
    t := owns_of h.t fun g hg => Below.heap_setCell _ _ _ _ (fun e => h.tx (by rw [hg]; exact congrArg some e))
    fx := h.fx.of (Below.heap_setCell _ _ _ _ h.xm) (Below.heap_setCell _ _ _ _ h.xk) }
theorem LxV.setLn (h : LxV D w B x mb kb σ ov tv) (a : Nat) : LxV D (w.setCell ⟨x, 2, none⟩ (.int .i64 a)) B x mb kb { σ with ln := a } ov tv :=
  { h with
    c := h.c.set2 _
    o := owns_of h.o fun g hg => Below.heap_setCell _ _ _ _ (fun e => h.ox (by rw [hg]; exact congrArg some e))
    t := owns_of h.t fun g hg => Below.heap_setCell _ _ _ _ (fun e => h.tx (by rw [hg]; exact congrArg some e))
    fx := h.fx.of (Below.heap_setCell _ _ _ _ h.xm) (Below.heap_setCell _ _ _ _ h.xk) }
theorem LxV.setD (h : LxV D w B x mb kb σ ov tv) (a : Int) : LxV D (w.setCell ⟨x, 3, none⟩ (.int .i64 a)) B x mb kb { σ with d := a } ov tv :=
  { h with
    c := h.c.set3 _
    o := owns_of h.o fun g hg => Below.heap_setCell _ _ _ _ (fun e => h.ox (by rw [hg]; exact congrArg some e))
    t := owns_of h.t fun g hg => Below.heap_setCell _ _ _ _ (fun e => h.tx (by rw [hg]; exact congrArg some e))
    fx := h.fx.of (Below.heap_setCell _ _ _ _ h.xm) (Below.heap_setCell _ _ _ _ h.xk) }
/-- The row of tokens grown, its field set. -/
theorem LxV.putT (h : LxV D w B x mb kb σ ov tv) {o : Obj} {tv' : Value} {t : Tk} (hap : ApdS 3 (w.alloc o) w' B 33 tv tv' (σ.out.length + 1) (flatT σ.out ++ flatT [t])) :
    LxV D (w'.setCell ⟨x, 7, none⟩ tv') B x mb kb { σ with out := σ.out ++ [t] } ov tv' ∧ Below B w (w'.setCell ⟨x, 7, none⟩ tv') := by
  have hx := h.c.lt
  have hfx := h.fx.lt
  have hkb : ∀ b, b < w.heap.size → tv.ownBlock ≠ some b → w'.heap[b]? = w.heap[b]? := fun b hb hn => (hap.grown.block b (by simp; omega) (fun e => hn e.symm)).trans (Below.heap_alloc _ _ _ hb)
  have htv : ∀ b, b < w.heap.size → tv.ownBlock ≠ some b → tv'.ownBlock ≠ some b := fun b hb hn e => by
    rcases hap.at_ with e1 | e1
    · exact hn (e1 ▸ e)
    · rw [e1] at e
      simp only [Option.some.injEq, alloc_szM] at e
      omega
  have hset : ∀ b, b ≠ x → (w'.setCell ⟨x, 7, none⟩ tv').heap[b]? = w'.heap[b]? := fun b hb => Below.heap_setCell _ _ _ _ hb
  refine ⟨{ h with
    c := (h.c.of (hkb x hx h.tx)).set7 _
    o := owns_of h.o fun g hg => (hset g (fun e => h.ox (by rw [hg, e]))).trans (hkb g (owns_lt h.o hg).2 (h.ot g hg))
    t := ?_
    fx := h.fx.of ((hset mb h.xm).trans (hkb mb hfx.1 h.tm)) ((hset kb h.xk).trans (hkb kb hfx.2 h.tk))
    tx := htv x hx h.tx
    tm := htv mb hfx.1 h.tm
    tk := htv kb hfx.2 h.tk
    ot := fun g hg => htv g (owns_lt h.o hg).2 (h.ot g hg) }, ?_⟩
  · have hown := hap.own
    rw [← flatT_append] at hown
    refine owns_of ?_ fun g hg => hset g (fun e => htv x hx h.tx (by rw [hg, e]))
    simpa using hown
  · have hb0 : Below B w (w.alloc o) := (Below.refl _ _).alloc (by have := h.bx; omega) _
    have hb1 : Below B w w' := hb0.grown hap.grown (by simp; have := h.bx; omega) (fun k hk => (owns_lt h.t hk).1)
    exact hb1.setCell h.bx _
/-- The row of what is open grown, its field set. -/
theorem LxV.putO (h : LxV D w B x mb kb σ ov tv) {o : Obj} {ov' : Value} {n : Int} (hap : Apd (w.alloc o) w' B 3 ov ov' (σ.op.reverse.length + 1) (σ.op.reverse.map (Value.int .i64) ++ [.int .i64 n])) :
    LxV D (w'.setCell ⟨x, 4, none⟩ ov') B x mb kb { σ with op := n :: σ.op } ov' tv ∧ Below B w (w'.setCell ⟨x, 4, none⟩ ov') := by
  have hx := h.c.lt
  have hfx := h.fx.lt
  have hkb : ∀ b, b < w.heap.size → ov.ownBlock ≠ some b → w'.heap[b]? = w.heap[b]? := fun b hb hn => (hap.grown.block b (by simp; omega) (fun e => hn e.symm)).trans (Below.heap_alloc _ _ _ hb)
  have htv : ∀ b, b < w.heap.size → ov.ownBlock ≠ some b → ov'.ownBlock ≠ some b := fun b hb hn e => by
    rcases hap.at_ with e1 | e1
    · exact hn (e1 ▸ e)
    · rw [e1] at e
      simp only [Option.some.injEq, alloc_szM] at e
      omega
  have hset : ∀ b, b ≠ x → (w'.setCell ⟨x, 4, none⟩ ov').heap[b]? = w'.heap[b]? := fun b hb => Below.heap_setCell _ _ _ _ hb
  have hto : ∀ g, tv.ownBlock = some g → ov.ownBlock ≠ some g := fun g hg e => h.ot g e hg
  refine ⟨{ h with
    c := (h.c.of (hkb x hx h.ox)).set4 _
    t := owns_of h.t fun g hg => (hset g (fun e => h.tx (by rw [hg, e]))).trans (hkb g (owns_lt h.t hg).2 (hto g hg))
    o := ?_
    fx := h.fx.of ((hset mb h.xm).trans (hkb mb hfx.1 h.om)) ((hset kb h.xk).trans (hkb kb hfx.2 h.ok))
    ox := htv x hx h.ox
    om := htv mb hfx.1 h.om
    ok := htv kb hfx.2 h.ok
    ot := fun g hg e => htv g (owns_lt h.t e).2 (hto g e) hg }, ?_⟩
  · have hown := OW.snoc hap.own
    have hown2 : OW .i64 3 w' B ov' (n :: σ.op).reverse := by rw [List.reverse_cons]; exact hown
    exact owns_of hown2 fun g hg => hset g (fun e => htv x hx h.ox (by rw [hg, e]))
  · have hb0 : Below B w (w.alloc o) := (Below.refl _ _).alloc (by have := h.bx; omega) _
    have hb1 : Below B w w' := hb0.grown hap.grown (by simp; have := h.bx; omega) (fun k hk => (owns_lt h.o hk).1)
    exact hb1.setCell h.bx _
theorem owns_cut {w : World} {B : Nat} {e : TypeId} {p : Option Addr} {n c : Nat} {xs : List Value} {u : Value} (h : w.ownsRow B e 1 (.slice p (n + 1) c) (n + 1) (xs ++ [u])) : w.ownsRow B e 1 (.slice p n c) n xs := by
  obtain ⟨h1, h2⟩ := h
  have hl : xs.length = n := by simpa using h1
  refine ⟨by simpa using hl, ?_⟩
  rcases h2 with ⟨e1, e2⟩ | ⟨g, cap, cur, e1, hB, hh, r2, r3, r4, r5⟩
  · exact absurd e2 (by omega)
  · simp only [Value.slice.injEq, true_and] at e1
    obtain ⟨rfl, rfl⟩ := e1
    refine .inr ⟨g, c, cur, rfl, hB, hh, by omega, r3, r4, ?_⟩
    have h5 := congrArg (List.take n) r5
    rw [List.take_take, List.take_left' hl] at h5
    rw [show n * 1 = min n ((n + 1) * 1) by omega]
    exact h5
/-- The last one that is open is closed. -/
theorem LxV.popO {p : Option Addr} {c n : Nat} {t : Int} {r : List Int} (h : LxV D w B x mb kb σ (.slice p (n + 1) c) tv) (hop : σ.op = t :: r) (hn : r.length = n) :
    LxV D (w.setCell ⟨x, 4, none⟩ (.slice p n c)) B x mb kb { σ with op := r } (.slice p n c) tv ∧ Below B w (w.setCell ⟨x, 4, none⟩ (.slice p n c)) := by
  have hb : (Value.slice p n c).ownBlock = (Value.slice p (n + 1) c).ownBlock := by cases p <;> rfl
  have hset : ∀ b, b ≠ x → (w.setCell ⟨x, 4, none⟩ (.slice p n c)).heap[b]? = w.heap[b]? := fun b hb => Below.heap_setCell _ _ _ _ hb
  have ho := h.o
  rw [hop] at ho
  unfold OW at ho
  rw [List.reverse_cons, List.map_append, List.length_append, List.length_reverse, hn] at ho
  have hcut := owns_cut ho
  refine ⟨{ h with
    c := h.c.set4 _
    o := ?_
    t := owns_of h.t fun g hg => hset g (fun e => h.tx (by rw [hg, e]))
    fx := h.fx.of (hset mb h.xm) (hset kb h.xk)
    ox := by rw [hb]; exact h.ox
    om := by rw [hb]; exact h.om
    ok := by rw [hb]; exact h.ok
    ot := fun g hg => h.ot g (by rw [← hb]; exact hg) }, (Below.refl _ _).setCell h.bx _⟩
  unfold OW
  simp only [List.length_reverse, hn]
  exact owns_of hcut fun g hg => hset g (fun e => h.ox (by rw [← hb, hg, e]))
theorem LxV.top {t : Int} {r : List Int} (h : LxV D w B x mb kb σ ov tv) (hop : σ.op = t :: r) : ∃ g c, ov = .slice (some ⟨g, 0, none⟩) (r.length + 1) c ∧ w.cell? ⟨g, r.length, none⟩ = some (.int .i64 t) ∧ r.length + 1 ≤ c := by
  have ho := h.o.mine
  rw [hop] at ho
  rcases ho with ⟨_, e⟩ | ⟨g, c, cur, e1, h1, h2, h3, h4, h5⟩
  · simp at e
  · have hl : (t :: r).reverse.length = r.length + 1 := by simp
    rw [hl] at e1 h1 h5
    refine ⟨g, c, e1, ?_, h1⟩
    have h6 := h5 r.length (by omega)
    have h7 : (t :: r).reverse.getD r.length 0 = t := by simp [List.getD_eq_getElem?_getD]
    rw [h7] at h6
    simp [World.cell?, h4, h6]
end
end Go.Proofs.YtcjomeghcihecaaDoor
