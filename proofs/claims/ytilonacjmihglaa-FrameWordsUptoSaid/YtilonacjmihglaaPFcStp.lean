/- Layer 20: a row of steps (five cells each, among them a slice of words), and the law's memory. -/
import Derived.Test.YtilonacjmihglaaPGFcRS
import Derived.Test.YtilonacjmihglaaPFset
namespace Go.Proofs.Ytilonacjmihglaa
open Go Go.ChangeShapes Go.WideShapes Go.ChangeAt Go.RowKit
set_option linter.unusedVariables false
set_option linter.unusedSimpArgs false
structure StD where
  k : Int
  f : Int
  i : Int
  w : Int
  l : List Int
def stZ : StD := ⟨0, 0, 0, 0, []⟩
def At5 (w : World) (b o : Nat) (s : StD) (lv : Value) : Prop :=
  w.cell? ⟨b, o, none⟩ = some (.int .i64 s.k) ∧ w.cell? ⟨b, o + 1, none⟩ = some (.int .i64 s.f) ∧ w.cell? ⟨b, o + 2, none⟩ = some (.int .i64 s.i) ∧ w.cell? ⟨b, o + 3, none⟩ = some (.int .u64 s.w) ∧ w.cell? ⟨b, o + 4, none⟩ = some lv ∧
  Rd w lv s.l ∧ Fit s.l ∧ (Lit.int .i64 s.f).wf = true ∧ (Lit.int .i64 s.i).wf = true ∧ (Lit.int .u64 s.w).wf = true
theorem At5.keep {w w' : World} {b o : Nat} {s : StD} {lv : Value} (h : At5 w b o s lv) (hb : Below w.heap.size w w') : At5 w' b o s lv := by
  obtain ⟨h0, h1, h2, h3, h4, h5, h6, h7, h8, h9⟩ := h
  exact ⟨below_cell hb h0, below_cell hb h1, below_cell hb h2, below_cell hb h3, below_cell hb h4, h5.keep hb, h6, h7, h8, h9⟩
/-- The slice value v reads as these steps. -/
def Sts (w : World) (v : Value) (ss : List StD) : Prop :=
  (∃ p : Option Addr, v = .slice p 0 0 ∧ ss = []) ∨ ∃ b off c, v = .slice (some ⟨b, off, none⟩) ss.length c ∧ ss.length ≤ c ∧ ss.length ≤ 4398046511104 ∧
    ∀ i, i < ss.length → ∃ lv, At5 w b (off + i * 5) (ss.getD i stZ) lv
theorem Sts.keep {w w' : World} {v : Value} {ss : List StD} (h : Sts w v ss) (hb : Below w.heap.size w w') : Sts w' v ss := by
  rcases h with h | ⟨b, off, c, rfl, h1, h2, h3⟩
  · exact .inl h
  · refine .inr ⟨b, off, c, rfl, h1, h2, fun i hi => ?_⟩
    obtain ⟨lv, h⟩ := h3 i hi
    exact ⟨lv, h.keep hb⟩
theorem sts_form {w : World} {v : Value} {ss : List StD} (h : Sts w v ss) : ∃ p c, v = .slice p ss.length c ∧ ss.length ≤ c ∧ ss.length ≤ 4398046511104 ∧
    (0 < ss.length → ∃ b off, p = some ⟨b, off, none⟩ ∧ ∀ i, i < ss.length → ∃ lv, At5 w b (off + i * 5) (ss.getD i stZ) lv) := by
  rcases h with ⟨p, rfl, rfl⟩ | ⟨b, off, c, rfl, h1, h2, h3⟩
  · exact ⟨p, 0, rfl, by simp, by simp, fun h => by simp at h⟩
  · exact ⟨_, c, rfl, h1, h2, fun _ => ⟨b, off, rfl, h3⟩⟩
/-- A reading stays where its block stays. -/
theorem rd_blk {w w' : World} {v : Value} {ws : List Int} (h : Rd w v ws) (hb : ∀ b, v.ownBlock = some b → w'.heap[b]? = w.heap[b]?) : Rd w' v ws := by
  rcases h with h | ⟨b, off, c, rfl, h1, h2, h3⟩
  · exact .inl h
  · exact .inr ⟨b, off, c, rfl, h1, h2, fun i hi => (World.cell?_of_block (a := ⟨b, off + i, none⟩) (hb b rfl)).trans (h3 i hi)⟩
theorem rd_ltb {w : World} {v : Value} {ws : List Int} (h : Rd w v ws) (h0 : 0 < ws.length) : ∃ b off c, v = .slice (some ⟨b, off, none⟩) ws.length c ∧ b < w.heap.size := by
  obtain ⟨b, off, c, rfl, h1, h2, h3⟩ := h.some h0
  exact ⟨b, off, c, rfl, World.block_lt_of_cell? w _ (h3 0 h0)⟩
/-- What the rounds of FrameWords hold: a box X for the document's memory, the program's memory behind the box BC, the row of words. -/
structure LB (W : World) (X BC g c : Nat) (x0 x1 : Value) (wc : List Int) (tc : Nat) (wv : Value) (wl : List Int) (A : World) : Prop where
  c0 : A.cell? ⟨X, 0, none⟩ = some x0
  c1 : A.cell? ⟨X, 1, none⟩ = some x1
  f0 : A.frozen? ⟨X, 0, none⟩ = false
  f1 : A.frozen? ⟨X, 1, none⟩ = false
  pm : PM A BC g c tc wc
  row : OW .u64 29 A (X + 1) wv wl
  bel : Below W.heap.size W A
  sz : W.heap.size ≤ X ∧ X < BC ∧ X < g
  wo : ∀ b, wv.ownBlock = some b → b ≠ BC ∧ b ≠ g
/-- A memory of the document's: it lies apart from all that is written. -/
structure MO (X BC g : Nat) (mv : Value) (wm : List Int) (wv : Value) (A : World) : Prop where
  rd : Rd A mv wm
  mo : ∃ b off k, mv = .slice (some ⟨b, off, none⟩) wm.length k ∧ b < A.heap.size ∧ b ≠ X ∧ b ≠ BC ∧ b ≠ g ∧ wv.ownBlock ≠ some b
theorem LB.ltX {W : World} {X BC g c : Nat} {x0 x1 : Value} {wc : List Int} {tc : Nat} {wv : Value} {wl : List Int} {A : World} (h : LB W X BC g c x0 x1 wc tc wv wl A) : X < A.heap.size ∧ BC < A.heap.size ∧ g < A.heap.size :=
  ⟨World.block_lt_of_cell? A _ h.c0, h.pm.ltB, h.pm.ltg⟩
/-- The general step: which blocks stay. -/
theorem LB.of {W : World} {X BC g c : Nat} {x0 x1 : Value} {wc wc' : List Int} {tc tc' : Nat} {wv : Value} {wl : List Int} {A A' : World} (h : LB W X BC g c x0 x1 wc tc wv wl A)
    (hb : ∀ k, k < A.heap.size → k ≠ BC → k ≠ g → A'.heap[k]? = A.heap[k]?) (hs : A.heap.size ≤ A'.heap.size) (hp : PM A' BC g c tc' wc') (ho : A'.os = A.os) (ht : A'.tape = A.tape) (hu : A'.output = A.output) : LB W X BC g c x0 x1 wc' tc' wv wl A' := by
  obtain ⟨z1, z2, z3⟩ := h.sz
  have hX := hb X h.ltX.1 (by omega) (by omega)
  refine ⟨(World.cell?_of_block (a := ⟨X, 0, none⟩) hX).trans h.c0, (World.cell?_of_block (a := ⟨X, 1, none⟩) hX).trans h.c1, (World.frozen?_of_block (a := ⟨X, 0, none⟩) hX).trans h.f0, (World.frozen?_of_block (a := ⟨X, 1, none⟩) hX).trans h.f1, hp, ?_, ?_, h.sz, h.wo⟩
  · exact h.row.block fun q hq => hb q (h.row.lt hq).2 (h.wo q hq).1 (h.wo q hq).2
  · have hbl := h.bel
    exact ⟨ho.trans hbl.os, ht.trans hbl.tape, hu.trans hbl.output, Nat.le_trans hbl.size hs, fun q hq => (hb q (Nat.lt_of_lt_of_le hq hbl.size) (by omega) (by omega)).trans (hbl.block q hq)⟩
theorem LB.keep {W : World} {X BC g c : Nat} {x0 x1 : Value} {wc : List Int} {tc : Nat} {wv : Value} {wl : List Int} {A A' : World} (h : LB W X BC g c x0 x1 wc tc wv wl A) (hb : Below A.heap.size A A') : LB W X BC g c x0 x1 wc tc wv wl A' :=
  h.of (fun k hk _ _ => hb.block k hk) hb.size (h.pm.keep hb) hb.os hb.tape hb.output
theorem LB.setC {W : World} {X BC g c : Nat} {x0 x1 : Value} {wc wc' : List Int} {tc tc' : Nat} {wv : Value} {wl : List Int} {A A' : World} (h : LB W X BC g c x0 x1 wc tc wv wl A) (hb : But2 BC g A A') (hp : PM A' BC g c tc' wc') : LB W X BC g c x0 x1 wc' tc' wv wl A' :=
  h.of (fun k hk h1 h2 => hb.block k hk h1 h2) hb.size hp hb.os hb.tape hb.output
theorem MO.of {X BC g : Nat} {mv : Value} {wm : List Int} {wv : Value} {A A' : World} (h : MO X BC g mv wm wv A) (hb : ∀ k, k < A.heap.size → k ≠ X → k ≠ BC → k ≠ g → A'.heap[k]? = A.heap[k]?) (hs : A.heap.size ≤ A'.heap.size) : MO X BC g mv wm wv A' := by
  obtain ⟨b, off, k, e, m1, m2, m3, m4, m5⟩ := h.mo
  refine ⟨?_, ⟨b, off, k, e, by omega, m2, m3, m4, m5⟩⟩
  refine rd_blk h.rd fun q hq => ?_
  rw [e] at hq
  simp only [Value.ownBlock, Option.some.injEq] at hq
  subst hq
  exact hb _ m1 m2 m3 m4
theorem MO.keep {X BC g : Nat} {mv : Value} {wm : List Int} {wv : Value} {A A' : World} (h : MO X BC g mv wm wv A) (hb : Below A.heap.size A A') : MO X BC g mv wm wv A' := h.of (fun k hk _ _ _ => hb.block k hk) hb.size
theorem MO.setC {X BC g : Nat} {mv : Value} {wm : List Int} {wv : Value} {A A' : World} (h : MO X BC g mv wm wv A) (hb : But2 BC g A A') : MO X BC g mv wm wv A' := h.of (fun k hk _ h1 h2 => hb.block k hk h1 h2) hb.size
/-- The document's new memory. -/
theorem MO.new {W : World} {X BC g c : Nat} {x0 x1 mv mv' : Value} {wm wm' : List Int} {wc : List Int} {tc : Nat} {wv : Value} {wl : List Int} {A A1 : World} (h : LB W X BC g c x0 x1 wc tc wv wl A) (hm : MO X BC g mv wm wv A) (hr : Rd A1 mv' wm') (h0 : 0 < wm'.length) (hf : Frs A mv mv') : MO X BC g mv' wm' wv A1 := by
  obtain ⟨b', off', k', e', hlt'⟩ := rd_ltb hr h0
  refine ⟨hr, ⟨b', off', k', e', hlt', ?_⟩⟩
  rcases hf with hf | ⟨q, n, cc, hq, hlt⟩
  · obtain ⟨b, off, k, e, m1, m2, m3, m4, m5⟩ := hm.mo
    rw [hf, e] at e'
    injection e' with p1 p2 p3
    injection p1 with p1
    injection p1 with p1 p4 p5
    subst p1
    exact ⟨m2, m3, m4, m5⟩
  · rw [hq] at e'
    cases e'
    have := h.ltX
    refine ⟨by omega, by omega, by omega, fun e => ?_⟩
    have := (h.row.lt e).2
    omega
/-- Behind a store into the box. -/
theorem LB.box {W : World} {X BC g c : Nat} {x0 x1 : Value} {wc : List Int} {tc : Nat} {wv : Value} {wl : List Int} {A : World} (h : LB W X BC g c x0 x1 wc tc wv wl A) (y0 y1 : Value) :
    LB W X BC g c y0 y1 wc tc wv wl ((A.setCell ⟨X, 0, none⟩ y0).setCell ⟨X, 1, none⟩ y1) ∧ ∀ q, q ≠ X → ((A.setCell ⟨X, 0, none⟩ y0).setCell ⟨X, 1, none⟩ y1).heap[q]? = A.heap[q]? := by
  obtain ⟨z1, z2, z3⟩ := h.sz
  have z := two_set (x0 := y0) (x1 := y1) h.c0 h.c1
  have hne : ∀ q, q ≠ X → ((A.setCell ⟨X, 0, none⟩ y0).setCell ⟨X, 1, none⟩ y1).heap[q]? = A.heap[q]? := fun q hq =>
    (Below.heap_setCell _ _ _ _ (by simp; omega)).trans (Below.heap_setCell _ _ _ _ (by simp; omega))
  refine ⟨⟨z.1, z.2, ?_, ?_, h.pm.of (hne BC (by omega)) (hne g (by omega)), ?_, (h.bel.setCell z1 _).setCell z1 _, h.sz, h.wo⟩, hne⟩
  · simpa using h.f0
  · simpa using h.f1
  · exact h.row.block fun q hq => hne q (by have := (h.row.lt hq).1; omega)
theorem MO.box {W : World} {X BC g c : Nat} {x0 x1 mv : Value} {wm wc : List Int} {tc : Nat} {wv : Value} {wl : List Int} {A : World} (hm : MO X BC g mv wm wv A) (h : LB W X BC g c x0 x1 wc tc wv wl A) (y0 y1 : Value) : MO X BC g mv wm wv ((A.setCell ⟨X, 0, none⟩ y0).setCell ⟨X, 1, none⟩ y1) :=
  hm.of (fun k hk h1 _ _ => (h.box y0 y1).2 k h1) (by simp)
/-- Behind an append to the row of words. -/
theorem LB.push {W : World} {X BC g c : Nat} {x0 x1 : Value} {wc : List Int} {tc : Nat} {wv wv' : Value} {wl : List Int} {x : Int} {A A2 : World} {T : TypeId} (h : LB W X BC g c x0 x1 wc tc wv wl A)
    (ha : Apd (A.alloc (.cells #[.int .u64 x] T)) A2 (X + 1) 29 wv wv' (wl.length + 1) (wl.map (Value.int .u64) ++ [Value.int .u64 x])) : LB W X BC g c x0 x1 wc tc wv' (wl ++ [x]) A2 ∧ (∀ k, k < A.heap.size → wv.ownBlock ≠ some k → A2.heap[k]? = A.heap[k]?) ∧ A.heap.size ≤ A2.heap.size ∧ ∀ q, wv'.ownBlock = some q → wv.ownBlock = some q ∨ q = A.heap.size + 1 := by
  have h1 := h.keep (A' := A.alloc (.cells #[.int .u64 x] T)) ((Below.refl _ _).alloc (Nat.le_refl _) _)
  obtain ⟨z1, z2, z3⟩ := h.sz
  have hs := ha.grown.size
  rw [World.size_alloc] at hs
  have hlt := h.ltX
  have hst : ∀ k, k < A.heap.size → wv.ownBlock ≠ some k → A2.heap[k]? = A.heap[k]? := fun k hk hn =>
    (ha.grown.block k (by rw [World.size_alloc]; omega) (fun e => hn e.symm)).trans (Below.heap_alloc _ _ _ hk)
  have hX := hst X hlt.1 (fun e => by have := (h.row.lt e).1; omega)
  have hB := hst BC hlt.2.1 (fun e => (h.wo _ e).1 rfl)
  have hg := hst g hlt.2.2 (fun e => (h.wo _ e).2 rfl)
  have hwo : ∀ q, wv'.ownBlock = some q → wv.ownBlock = some q ∨ q = A.heap.size + 1 := fun q hq => by
    rcases ha.at_ with hh | hh
    · rw [hh] at hq; exact .inl hq
    · rw [hh, World.size_alloc] at hq
      injection hq with hq
      exact .inr hq.symm
  refine ⟨⟨(World.cell?_of_block (a := ⟨X, 0, none⟩) hX).trans h.c0, (World.cell?_of_block (a := ⟨X, 1, none⟩) hX).trans h.c1, (World.frozen?_of_block (a := ⟨X, 0, none⟩) hX).trans h.f0, (World.frozen?_of_block (a := ⟨X, 1, none⟩) hX).trans h.f1, h.pm.of hB hg, own_apd ha, ?_, h.sz, fun q hq => ?_⟩, hst, by omega, hwo⟩
  · exact h1.bel.grown ha.grown h1.bel.size (fun q hq => by have := (h1.row.lt hq).1; omega)
  · rcases hwo q hq with h2 | h2
    · exact h.wo q h2
    · omega
theorem MO.push {W : World} {X BC g c : Nat} {x0 x1 mv : Value} {wm wc : List Int} {tc : Nat} {wv wv' : Value} {wl : List Int} {x : Int} {A A2 : World} {T : TypeId} (hm : MO X BC g mv wm wv A) (h : LB W X BC g c x0 x1 wc tc wv wl A)
    (ha : Apd (A.alloc (.cells #[.int .u64 x] T)) A2 (X + 1) 29 wv wv' (wl.length + 1) (wl.map (Value.int .u64) ++ [Value.int .u64 x])) : MO X BC g mv wm wv' A2 := by
  obtain ⟨_, h2, h3, h4⟩ := h.push ha
  obtain ⟨b, off, k, e, m1, m2, m3, m4, m5⟩ := hm.mo
  refine ⟨rd_blk hm.rd fun q hq => ?_, ⟨b, off, k, e, by omega, m2, m3, m4, fun h5 => ?_⟩⟩
  · rw [e] at hq
    simp only [Value.ownBlock, Option.some.injEq] at hq
    subst hq
    exact h2 _ m1 m5
  · rcases h4 b h5 with h6 | h6
    · exact m5 h6
    · omega
structure LW (W : World) (X BC g c : Nat) (mv : Value) (wm : List Int) (tm : Nat) (wv : Value) (wl : List Int) (A : World) : Prop where
  lb : LB W X BC g c mv (.int .i64 tm) wm tm wv wl A
  mo : MO X BC g mv wm wv A
theorem LW.keep {W : World} {X BC g c : Nat} {mv : Value} {wm : List Int} {tm : Nat} {wv : Value} {wl : List Int} {A A' : World} (h : LW W X BC g c mv wm tm wv wl A) (hb : Below A.heap.size A A') : LW W X BC g c mv wm tm wv wl A' := ⟨h.lb.keep hb, h.mo.keep hb⟩
/-- The program's call behind the document's: the memories are alike again, once the document's is stored. -/
theorem LW.mk2 {W : World} {X BC g c : Nat} {x0 x1 mv : Value} {wm : List Int} {tm : Nat} {wv : Value} {wl : List Int} {A : World} (h : LB W X BC g c x0 x1 wm tm wv wl A) (hm : MO X BC g mv wm wv A) : LW W X BC g c mv wm tm wv wl ((A.setCell ⟨X, 0, none⟩ mv).setCell ⟨X, 1, none⟩ (.int .i64 tm)) :=
  ⟨(h.box mv (.int .i64 tm)).1, hm.box h mv (.int .i64 tm)⟩
/-- What a call that sets a word leaves, in one. -/
theorem SPost.same {w : World} {B g c tn : Nat} {ws : List Int} {f fr cnt k x : Int} {e : Ending} {w' : World} (h : SPost w B g c tn ws f fr cnt k x e w') (hp : PM w B g c tn ws) : e = .returned (.int .i64 (setE (ws.take tn) f cnt k x)) ∧ PM w' B g c tn (setM ws tn f fr cnt k x) ∧ But1 g w w' := by
  rcases h with ⟨h1, rfl, h2, h3⟩ | ⟨h1, rfl, h2⟩
  · obtain ⟨r1, r2⟩ := set_yes (ws := ws) (tn := tn) (f := f) (cnt := cnt) (k := k) (x := x) h1
    exact ⟨by rw [r1], by rw [r2]; exact h2, h3⟩
  · obtain ⟨r1, r2⟩ := set_no (ws := ws) (tn := tn) (f := f) (cnt := cnt) (k := k) (x := x) h1
    exact ⟨by rw [r1], by rw [r2]; exact hp.keep h2, But1.of h2⟩
theorem CPost.same {w : World} {B g c tn : Nat} {ws : List Int} {f : Int} {live : List Nat} {e : Ending} {w' : World} (h : CPost w B g c tn ws f live e w') (hp : PM w B g c tn ws) : e = .returned (.int .i64 (regE (ws.take tn) f)) ∧ PM w' B g c tn (clrM ws tn f live) ∧ But1 g w w' := by
  rcases h with ⟨h1, rfl, h2⟩ | ⟨h1, rfl, h2, h3⟩
  · exact ⟨by unfold regE; rw [h1]; rfl, by unfold clrM; rw [h1]; exact hp.keep h2, But1.of h2⟩
  · exact ⟨by unfold regE; rw [h1]; rfl, by unfold clrM; rw [h1]; exact h2, h3⟩
theorem LB.boxZ {W : World} {X BC g c : Nat} {x0 x1 : Value} {wc : List Int} {tc : Nat} {wv : Value} {wl : List Int} {A : World} (h : LB W X BC g c x0 x1 wc tc wv wl A) (y0 y1 : Value) {Z i : Nat} {v : Value} (hz : A.cell? ⟨Z, i, none⟩ = some v) (hne : Z ≠ X) :
    ((A.setCell ⟨X, 0, none⟩ y0).setCell ⟨X, 1, none⟩ y1).cell? ⟨Z, i, none⟩ = some v ∧ Z < ((A.setCell ⟨X, 0, none⟩ y0).setCell ⟨X, 1, none⟩ y1).heap.size :=
  have h1 := (World.cell?_of_block (a := ⟨Z, i, none⟩) ((h.box y0 y1).2 Z hne)).trans hz
  ⟨h1, World.block_lt_of_cell? _ _ h1⟩
theorem newM_len (ws : List Int) (tn : Nat) (n : Int) : (newM ws tn n).length = ws.length := by unfold newM; split <;> simp [newL_len]
theorem newT_one {len tn : Nat} {n : Int} (h : 1 ≤ tn) : 1 ≤ newT len tn n := by unfold newT; split <;> omega
theorem newW_wf {len tn : Nat} {n : Int} (h : tn ≤ 1048576) : 0 ≤ newW len tn n ∧ newW len tn n ≤ 18446744073709551615 := by unfold newW; split <;> omega
end Go.Proofs.Ytilonacjmihglaa
