/- Layer 19: words for rows that MroKeeps makes. -/
import Derived.Test.YtfddcmapjnkhhaaMLawKO
import Derived.Test.YtfddcmapjnkhhaaApp
import Derived.Deep.AppendLies
import Derived.Deep.RegionHeld3
import Derived.Lib.JoinLaws
import Derived.Laws.OwnMore
import Derived.IntWalk
namespace Go.Proofs.Ytfddcmapjnkhhaa
open Go.ChangeShapes Go.WideShapes Go.RowKit
set_option linter.unusedVariables false
set_option linter.unusedSimpArgs false
/-- The blocks of ints are as they were. -/
def IntKept (w w' : World) : Prop := ∀ (g : Nat) (cur : Array Value), w.heap[g]? = some (.cells cur 3 (0, 0)) → w'.heap[g]? = some (.cells cur 3 (0, 0))
theorem IntKept.below {w w' : World} (h : Below w.heap.size w w') : IntKept w w' := fun g cur hg => (h.block g (Array.getElem?_eq_some_iff.1 hg).1).trans hg
theorem IntKept.trans {a b c : World} (h : IntKept a b) (k : IntKept b c) : IntKept a c := fun g cur hg => k g cur (h g cur hg)
theorem IntKept.grown {w w' : World} {B n : Nat} {v : Value} {xs : List Value} (h : w.ownsRow B TI 1 v n xs) (hg : w.grownBy w' v.ownBlock) : IntKept w w' := fun g cur hc => by
  refine (hg.block g (Array.getElem?_eq_some_iff.1 hc).1 ?_).trans hc
  intro e
  rcases h.2 with ⟨rfl, _⟩ | ⟨g2, cap, cur2, rfl, _, r1, _⟩
  · simp [Value.ownBlock] at e
  · have e3 : some g = some g2 := e
    simp only [Option.some.injEq] at e3
    subst e3
    rw [hc] at r1
    simp only [Option.some.injEq, Obj.cells.injEq] at r1
    exact absurd r1.2.1 (by decide)
theorem own_ints {w w' : World} {B n : Nat} {v : Value} {xs : List Value} (h : w.ownsRow B 3 1 v n xs) (hk : IntKept w w') : w'.ownsRow B 3 1 v n xs := by
  refine ⟨h.1, ?_⟩
  rcases h.2 with h2 | ⟨g2, cap, cur2, h3, h4, r1, r2⟩
  · exact .inl h2
  · exact .inr ⟨g2, cap, cur2, h3, h4, hk _ _ r1, r2⟩
theorem own_belowT {w w' : World} {B n : Nat} {T : TypeId} {v : Value} {xs : List Value} (h : w.ownsRow B T 1 v n xs) (hk : Below w.heap.size w w') : w'.ownsRow B T 1 v n xs := by
  refine ⟨h.1, ?_⟩
  rcases h.2 with h2 | ⟨g2, cap, cur2, h3, h4, r1, r2⟩
  · exact .inl h2
  · exact .inr ⟨g2, cap, cur2, h3, h4, (hk.block _ (Array.getElem?_eq_some_iff.1 r1).1).trans r1, r2⟩
/-- A row of ints with two more behind its end. -/
def Ent2 (w : World) (B : Nat) (u : Value) (l : List Int) : Prop :=
  ∃ g c, u = .slice (some ⟨g, 0, none⟩) l.length c ∧ l.length + 2 ≤ c ∧ w.ownsRow B 3 1 (.slice (some ⟨g, 0, none⟩) (l.length + 2) c) (l.length + 2) (l.map (Value.int .i64) ++ [.int .i64 (-7), .int .i64 (-7)])
structure TabE (E : World → Value → List Int → Prop) (w : World) (B : Nat) (ov : Value) (ls : List (List Int)) (vs : List Value) : Prop where
  own : w.ownsRow B TI 1 ov ls.length vs
  ent : ∀ i, i < ls.length → E w (vs.getD i nilS) (ls.getD i [])
def Apart2 (a b : Value) : Prop := ∀ g, a.ownBlock = some g → b.ownBlock ≠ some g
theorem Ri.src {w : World} {u : Value} {l : List Int} (h : Ri w u l) : Src w u l.length (l.map (Value.int .i64)) := by
  refine ⟨by simp, ?_⟩
  rcases h with ⟨p, rfl, rfl⟩ | ⟨b, off, c, rfl, h1, h2, h3⟩
  · cases p with
    | none => exact .inl ⟨rfl, rfl⟩
    | some a => exact .inr ⟨a, 0, rfl, fun j u hu => by simp at hu⟩
  · refine .inr ⟨⟨b, off, none⟩, c, rfl, fun j u hu => ?_⟩
    have hj : j < l.length := by have := (List.getElem?_eq_some_iff.1 hu).1; simpa using this
    rw [List.getElem?_map, List.getElem?_eq_getElem hj] at hu
    simp only [Option.map_some, Option.some.injEq] at hu
    rw [addO, ← hu]
    have := h3 j hj
    rwa [List.getD_eq_getElem?_getD, List.getElem?_eq_getElem hj] at this
theorem ones_int (l : List Int) : ∀ u ∈ l.map (Value.int .i64), u.oneCell' = true := fun u hu => by
  obtain ⟨x, _, rfl⟩ := List.mem_map.1 hu
  rfl
theorem lit_B {wr W w3 : World} {lits made : Obj} {row : Option Nat} (hg : W.grownBy w3 row) (hW : W.heap = ((wr.alloc lits).alloc made).heap) (hr : row = some (wr.heap.size + 1)) : w3.heap[wr.heap.size]? = some lits := by
  have h1 : W.heap[wr.heap.size]? = some lits := by
    rw [hW]
    exact (heap_alloc_old _ _ (by simp)).trans (heap_alloc_new wr _)
  refine (hg.block _ (Array.getElem?_eq_some_iff.1 h1).1 ?_).trans h1
  rw [hr]; intro e; simp only [Option.some.injEq] at e; omega
theorem lit_C {wr W w3 : World} {lits made : Obj} {row : Option Nat} (hg : W.grownBy w3 row) (hW : W.heap = ((wr.alloc made).alloc lits).heap) (hr : row = some wr.heap.size) : w3.heap[wr.heap.size + 1]? = some lits := by
  have h1 : W.heap[wr.heap.size + 1]? = some lits := by
    rw [hW]
    have := heap_alloc_new (wr.alloc made) lits
    simpa using this
  refine (hg.block _ (Array.getElem?_eq_some_iff.1 h1).1 ?_).trans h1
  rw [hr]; intro e; simp only [Option.some.injEq] at e; omega
theorem own_capM {w : World} {B g n c : Nat} {T : TypeId} {xs : List Value} (h : w.ownsRow B T 1 (.slice (some ⟨g, 0, none⟩) n c) n xs) : n ≤ c := by
  rcases h.2 with ⟨e, _⟩ | ⟨g', cap, cur, e, _, _, h1, _⟩
  · cases e
  · simp only [Value.slice.injEq] at e
    obtain ⟨_, _, rfl⟩ := e
    exact h1
theorem sl_to {P : Program} (t : TypeId) (ht : P.underlying t = some (.slice (P.elem t))) (hsz : ∀ wx, (sizeOf (P.elem t)).run P wx = .ok 1 wx) (b off n c hi : Nat) (h : hi ≤ c) :
    ∀ wx, (Instr.slice t (.slice (some ⟨b, off, none⟩) n c) none (some (.int .i64 (hi : Int))) none).run P wx = .ok (.slice (some ⟨b, off, none⟩) hi c) wx := fun wx => by
  rw [run_slice_h wx t _ n c ht .i64 (hi : Int) (by omega) (by omega), hsz]
  simp [Result.andThen, sliced, Addr.add]
theorem ones_two (a b : Int) : ∀ u ∈ (#[Value.int .i64 a, Value.int .i64 b]).toList, u.oneCell' = true := fun u hu => by
  simp at hu
  rcases hu with rfl | rfl <;> rfl
theorem ones_slice (p : Option Addr) (n c : Nat) : ∀ u ∈ (#[Value.slice p n c]).toList, u.oneCell' = true := fun u hu => by
  simp at hu
  subst hu
  rfl
theorem own_base {w : World} {B B' n : Nat} {T : TypeId} {v : Value} {xs : List Value} (h : w.ownsRow B T 1 v n xs) (hB : B' ≤ B) : w.ownsRow B' T 1 v n xs := by
  refine ⟨h.1, ?_⟩
  rcases h.2 with h2 | ⟨g2, cap, cur2, h3, h4, r1, r2⟩
  · exact .inl h2
  · exact .inr ⟨g2, cap, cur2, h3, by omega, r1, r2⟩
theorem ent2_kept (B : Nat) (w w' : World) (u : Value) (l : List Int) (hk : IntKept w w') (h : Ent2 w B u l) : Ent2 w' B u l := by
  obtain ⟨g, c, h1, h2, h3⟩ := h
  exact ⟨g, c, h1, h2, own_ints h3 hk⟩
theorem oi_kept (B : Nat) (w w' : World) (u : Value) (l : List Int) (hk : IntKept w w') (h : OI w B u l) : OI w' B u l := own_ints h hk
theorem TabE.len {E : World → Value → List Int → Prop} {w : World} {B : Nat} {ov : Value} {ls : List (List Int)} {vs : List Value} (h : TabE E w B ov ls vs) : vs.length = ls.length := by have := h.own.1; omega
theorem TabE.snoc {E : World → Value → List Int → Prop} (hE : ∀ w w' u l, IntKept w w' → E w u l → E w' u l) {wr W w5 : World} {B : Nat} {ov v5 : Value} {ls : List (List Int)} {vs : List Value} {u : Value} {l : List Int}
    (hT : TabE E wr B ov ls vs) (hb : Below wr.heap.size wr W) (hA : Apd W w5 B TI ov v5 (ls.length + 1) (vs ++ [u])) (hu : E W u l) : TabE E w5 B v5 (ls ++ [l]) (vs ++ [u]) := by
  have hl := hT.len
  have k2 : IntKept W w5 := IntKept.grown (own_belowT hT.own hb) hA.grown
  refine ⟨by rw [List.length_append, List.length_singleton]; exact hA.own, fun i hi => ?_⟩
  by_cases e : i < ls.length
  · rw [getD_snoc_l (by omega), getD_snoc_l e]
    exact hE _ _ _ _ ((IntKept.below hb).trans k2) (hT.ent i e)
  · obtain rfl : i = ls.length := by rw [List.length_append, List.length_singleton] at hi; omega
    rw [getD_snoc_r, ← hl, getD_snoc_r]
    exact hE _ _ _ _ k2 hu
theorem TabE.far {E : World → Value → List Int → Prop} (hE : ∀ w w' u l, IntKept w w' → E w u l → E w' u l) {wr W w5 : World} {B B2 n n2 : Nat} {ov v5 wv : Value} {ls : List (List Int)} {vs xs ys : List Value}
    (hU : TabE E wr B wv ls vs) (hb : Below wr.heap.size wr W) (ho : wr.ownsRow B2 TI 1 ov n xs) (hA : Apd W w5 B2 TI ov v5 n2 ys) (hne : ∀ g, wv.ownBlock = some g → ov.ownBlock ≠ some g) : TabE E w5 B wv ls vs := by
  have k2 : IntKept W w5 := IntKept.grown (own_belowT ho hb) hA.grown
  refine ⟨?_, fun i hi => hE _ _ _ _ ((IntKept.below hb).trans k2) (hU.ent i hi)⟩
  have h := own_belowT hU.own hb
  refine ⟨h.1, ?_⟩
  rcases h.2 with h2 | ⟨g2, cap, cur2, h3, h4, r1, r2⟩
  · exact .inl h2
  · exact .inr ⟨g2, cap, cur2, h3, h4, (hA.grown.block g2 (Array.getElem?_eq_some_iff.1 r1).1 (fun e => hne g2 (by rw [h3]; rfl) e.symm)).trans r1, r2⟩
theorem Apart2.left {w W w5 : World} {B B2 n n2 : Nat} {T : TypeId} {a v5 b : Value} {xs ys : List Value} (h : Apart2 a b) (hb : Below w.heap.size w W) (hob : w.ownsRow B T 1 b n xs) (hA : Apd W w5 B2 T a v5 n2 ys) : Apart2 v5 b := by
  intro g hg
  rcases hA.at_ with e | e
  · exact h g (by rw [← e]; exact hg)
  · rw [e] at hg
    simp only [Option.some.injEq] at hg
    intro hx
    have := (hob.lt g hx).2
    have := hb.size
    omega
theorem Apart2.symm {a b : Value} (h : Apart2 a b) : Apart2 b a := fun g hb ha => h g ha hb
theorem own_formS {w : World} {B n : Nat} {T : TypeId} {v : Value} {xs : List Value} (h : w.ownsRow B T 1 v n xs) : ∃ p c, v = .slice p n c := by
  rcases h.2 with ⟨rfl, rfl⟩ | ⟨g2, cap, cur2, rfl, _⟩
  · exact ⟨none, 0, rfl⟩
  · exact ⟨_, cap, rfl⟩
theorem own_one6 {w : World} {B n : Nat} {T : TypeId} {v : Value} {xs : List Value} (h : w.ownsRow B T 1 v n xs) : v.oneCell' = true := by
  rcases h.2 with ⟨rfl, _⟩ | ⟨g2, cap, cur2, rfl, _⟩ <;> rfl
theorem own_lenI {w : World} {B : Nat} {v : Value} {l : List Int} (h : w.ownsRow B 3 1 v l.length (l.map (Value.int .i64))) : OI w B v l := h
theorem take_snocL {ls : List (List Int)} {i : Nat} (hi : i < ls.length) : ls.take (i + 1) = ls.take i ++ [ls.getD i []] := by
  rw [List.take_succ_eq_append_getElem hi, List.getD_eq_getElem?_getD, List.getElem?_eq_getElem hi]; rfl
end Go.Proofs.Ytfddcmapjnkhhaa
