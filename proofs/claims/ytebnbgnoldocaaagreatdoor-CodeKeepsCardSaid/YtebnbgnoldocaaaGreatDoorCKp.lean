/- Layer 8: lists of numbers that share no memory. -/
import Derived.Test.YtebnbgnoldocaaaGreatDoorFCodeZ
import Derived.Test.YtebnbgnoldocaaaGreatDoorAppS
namespace Go.Proofs.YtebnbgnoldocaaaGreatDoor
open Go Go.ChangeShapes Go.WideShapes Go.RowKit
set_option linter.unusedVariables false
set_option linter.unusedSimpArgs false
/-- No block of their own is one. -/
def Dj (u v : Value) : Prop := u.ownBlock = none ∨ v.ownBlock = none ∨ u.ownBlock ≠ v.ownBlock
theorem Dj.symm {u v : Value} (h : Dj u v) : Dj v u := by
  rcases h with h | h | h
  · exact .inr (.inl h)
  · exact .inl h
  · exact .inr (.inr (Ne.symm h))
structure T3 (H : Nat) (w : World) (a : Value) (la : List Int) (b : Value) (lb : List Int) (c : Value) (lc : List Int) : Prop where
  oa : OI w H a la
  ob : OI w H b lb
  oc : OI w H c lc
  ab : Dj a b
  ac : Dj a c
  bc : Dj b c
section
variable {H : Nat} {w w' w2 w3 : World} {a b c : Value} {la lb lc : List Int}
theorem oi_dj {B B' : Nat} (ha : OI w B a la) (hb : OI w' B' b lb) (h : w.heap.size ≤ B') : Dj a b := by
  cases e : a.ownBlock with
  | none => exact .inl e
  | some g =>
    cases e' : b.ownBlock with
    | none => exact .inr (.inl e')
    | some g' =>
      refine .inr (.inr ?_)
      rw [e, e']
      have := (World.ownsRow.lt ha g e).2
      have := (World.ownsRow.lt hb g' e').1
      simp only [ne_eq, Option.some.injEq]
      omega
theorem T3.mk3 {w0 : World} (hH : H ≤ w0.heap.size) (ha : OI w w0.heap.size a la) (h1 : Below w0.heap.size w0 w) (hb : OI w2 w.heap.size b lb) (h2 : Below w.heap.size w w2) (hc : OI w3 w2.heap.size c lc) (h3 : Below w2.heap.size w2 w3) : T3 H w3 a la b lb c lc := by
  have s1 := h1.size
  have s2 := h2.size
  exact ⟨((ha.keep h2).keep h3).low hH, (hb.keep h3).low (by omega), hc.low (by omega), oi_dj ha hb (Nat.le_refl _), oi_dj ha hc s2, oi_dj hb hc (Nat.le_refl _)⟩
theorem T3.s12 (h : T3 H w a la b lb c lc) : T3 H w b lb a la c lc := ⟨h.ob, h.oa, h.oc, h.ab.symm, h.bc, h.ac⟩
theorem T3.s23 (h : T3 H w a la b lb c lc) : T3 H w a la c lc b lb := ⟨h.oa, h.oc, h.ob, h.ac, h.ab, h.bc.symm⟩
theorem T3.keep (h : T3 H w a la b lb c lc) (hb : Below w.heap.size w w') : T3 H w' a la b lb c lc := ⟨h.oa.keep hb, h.ob.keep hb, h.oc.keep hb, h.ab, h.ac, h.bc⟩
end
/-- Six rows. -/
structure K6 (H T0 : Nat) (w : World) (U : Nat → Value) (D : Nat → List Int) : Prop where
  own : ∀ k, k < 6 → OI w H (U k) (D k)
  lt : ∀ k, k < 6 → ∀ g, (U k).ownBlock = some g → g < T0
  dj : ∀ i j, i < 6 → j < 6 → i ≠ j → Dj (U i) (U j)
def six {α : Type} (a b c d e f : α) : Nat → α
  | 0 => a
  | 1 => b
  | 2 => c
  | 3 => d
  | 4 => e
  | _ => f
theorem K6.of3 {H H2 : Nat} {w w2 : World} {a b c d e f : Value} {la lb lc ld le lf : List Int} (h : T3 H w a la b lb c lc) (hb : Below w.heap.size w w2) (hs : w.heap.size ≤ H2) (g : T3 H2 w2 d ld e le f lf) (hH : H ≤ H2) :
    K6 H w2.heap.size w2 (six a b c d e f) (six la lb lc ld le lf) := by
  have hk := h.keep hb
  have cr : ∀ {x y : Value} {lx ly : List Int}, OI w H x lx → OI w2 H2 y ly → Dj x y := fun hx hy => oi_dj hx hy hs
  refine ⟨fun k hk6 => ?_, fun k hk6 q hq => ?_, fun i j hi hj hij => ?_⟩
  · match k, hk6 with
    | 0, _ => exact hk.oa
    | 1, _ => exact hk.ob
    | 2, _ => exact hk.oc
    | 3, _ => exact g.oa.low hH
    | 4, _ => exact g.ob.low hH
    | 5, _ => exact g.oc.low hH
  · match k, hk6 with
    | 0, _ => exact (World.ownsRow.lt hk.oa q hq).2
    | 1, _ => exact (World.ownsRow.lt hk.ob q hq).2
    | 2, _ => exact (World.ownsRow.lt hk.oc q hq).2
    | 3, _ => exact (World.ownsRow.lt g.oa q hq).2
    | 4, _ => exact (World.ownsRow.lt g.ob q hq).2
    | 5, _ => exact (World.ownsRow.lt g.oc q hq).2
  · match i, j, hi, hj with
    | 0, 0, _, _ => exact absurd rfl hij
    | 0, 1, _, _ => exact h.ab
    | 0, 2, _, _ => exact h.ac
    | 0, 3, _, _ => exact cr h.oa g.oa
    | 0, 4, _, _ => exact cr h.oa g.ob
    | 0, 5, _, _ => exact cr h.oa g.oc
    | 1, 0, _, _ => exact h.ab.symm
    | 1, 1, _, _ => exact absurd rfl hij
    | 1, 2, _, _ => exact h.bc
    | 1, 3, _, _ => exact cr h.ob g.oa
    | 1, 4, _, _ => exact cr h.ob g.ob
    | 1, 5, _, _ => exact cr h.ob g.oc
    | 2, 0, _, _ => exact h.ac.symm
    | 2, 1, _, _ => exact h.bc.symm
    | 2, 2, _, _ => exact absurd rfl hij
    | 2, 3, _, _ => exact cr h.oc g.oa
    | 2, 4, _, _ => exact cr h.oc g.ob
    | 2, 5, _, _ => exact cr h.oc g.oc
    | 3, 0, _, _ => exact (cr h.oa g.oa).symm
    | 3, 1, _, _ => exact (cr h.ob g.oa).symm
    | 3, 2, _, _ => exact (cr h.oc g.oa).symm
    | 3, 3, _, _ => exact absurd rfl hij
    | 3, 4, _, _ => exact g.ab
    | 3, 5, _, _ => exact g.ac
    | 4, 0, _, _ => exact (cr h.oa g.ob).symm
    | 4, 1, _, _ => exact (cr h.ob g.ob).symm
    | 4, 2, _, _ => exact (cr h.oc g.ob).symm
    | 4, 3, _, _ => exact g.ab.symm
    | 4, 4, _, _ => exact absurd rfl hij
    | 4, 5, _, _ => exact g.bc
    | 5, 0, _, _ => exact (cr h.oa g.oc).symm
    | 5, 1, _, _ => exact (cr h.ob g.oc).symm
    | 5, 2, _, _ => exact (cr h.oc g.oc).symm
    | 5, 3, _, _ => exact g.ac.symm
    | 5, 4, _, _ => exact g.bc.symm
    | 5, 5, _, _ => exact absurd rfl hij
section
variable {H T0 : Nat} {w w' : World} {U : Nat → Value} {D : Nat → List Int}
theorem oi_blk {v : Value} {l : List Int} (h : OI w H v l) (hb : ∀ g, v.ownBlock = some g → w'.heap[g]? = w.heap[g]?) : OI w' H v l := by
  refine ⟨h.1, ?_⟩
  rcases h.2 with h2 | ⟨g, c, cur, rfl, h0, hg, r⟩
  · exact .inl h2
  · exact .inr ⟨g, c, cur, rfl, h0, (hb g rfl).trans hg, r⟩
theorem K6.keep (h : K6 H T0 w U D) (hb : ∀ g, g < T0 → w'.heap[g]? = w.heap[g]?) : K6 H T0 w' U D :=
  ⟨fun k hk => oi_blk (h.own k hk) fun g hg => hb g (h.lt k hk g hg), h.lt, h.dj⟩
/-- The row's form. -/
theorem oi_open {v : Value} {l : List Int} (h : OI w H v l) : ∃ p c, v = .slice p l.length c ∧ l.length ≤ c ∧ (0 < l.length → ∃ g, p = some ⟨g, 0, none⟩ ∧ H ≤ g ∧ g < w.heap.size ∧ (∀ i, i < l.length → w.cell? ⟨g, i, none⟩ = some (.int .i64 (l.getD i 0))) ∧ ∀ i, w.frozen? ⟨g, i, none⟩ = false) := by
  rcases h.2 with ⟨rfl, h2⟩ | ⟨g, c, cur, rfl, h0, hg, r1, r2, r3, r4⟩
  · exact ⟨none, 0, by rw [h2], by omega, fun h => by omega⟩
  · refine ⟨_, c, rfl, r1, fun _ => ⟨g, rfl, h0, (Array.getElem?_eq_some_iff.1 hg).1, fun i hi => ?_, fun i => by simp [World.frozen?, hg]⟩⟩
    have e := congrArg (fun l => l[i]?) r4
    simp only [List.getElem?_take, List.getElem?_map, List.getElem?_eq_getElem hi] at e
    rw [if_pos (by omega), Array.getElem?_toList] at e
    simp [World.cell?, hg, e, List.getD_eq_getElem?_getD, hi]
/-- One number of a row is written over. -/
theorem oi_set {p : Option Addr} {n c g i : Nat} {l : List Int} (h : OI w H (.slice (some ⟨g, 0, none⟩) n c) l) (hi : i < l.length) (x : Int) : OI (w.setCell ⟨g, i, none⟩ (.int .i64 x)) H (.slice (some ⟨g, 0, none⟩) n c) (l.set i x) := by
  obtain ⟨h1, h2⟩ := h
  refine ⟨by simp, ?_⟩
  rcases h2 with ⟨he, _⟩ | ⟨g', c', cur, he, h0, hg, r1, r2, r3, r4⟩
  · simp at he
  · simp only [Value.slice.injEq, Option.some.injEq, Addr.mk.injEq, and_true] at he
    obtain ⟨rfl, rfl, rfl⟩ := he
    refine .inr ⟨g, c, cur.setIfInBounds i (.int .i64 x), by rw [List.length_set], h0, ?_, by rw [List.length_set]; exact r1, r2, by simpa using r3, ?_⟩
    · simp [World.setCell, Array.getElem?_modify, hg]
    · rw [List.length_set, Array.toList_setIfInBounds, List.take_set, r4, List.map_set]
theorem K6.set {k g i n c : Nat} (h : K6 H T0 w U D) (hk : k < 6) (hu : U k = .slice (some ⟨g, 0, none⟩) n c) (hi : i < (D k).length) (x : Int) : K6 H T0 (w.setCell ⟨g, i, none⟩ (.int .i64 x)) U (fun j => if j = k then (D k).set i x else D j) := by
  refine ⟨fun j hj => ?_, h.lt, h.dj⟩
  by_cases e : j = k
  · subst e
    rw [if_pos rfl]
    have := h.own j hj
    rw [hu] at this ⊢
    exact oi_set (p := none) this hi x
  · rw [if_neg e]
    refine oi_blk (h.own j hj) fun q hq => Below.heap_setCell _ _ _ _ ?_
    rcases h.dj j k hj hk e with e1 | e1 | e1
    · rw [e1] at hq; cases hq
    · rw [hu] at e1; cases e1
    · rw [hq, hu] at e1
      simpa [Value.ownBlock] using e1
end
end Go.Proofs.YtebnbgnoldocaaaGreatDoor
