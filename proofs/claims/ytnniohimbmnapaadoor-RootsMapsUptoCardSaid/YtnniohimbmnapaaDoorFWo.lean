/- Layer 10: rows of ways (a number and a list of numbers each): how they lie in memory. -/
import Derived.Test.YtnniohimbmnapaaDoorKa
import Derived.Test.YtnniohimbmnapaaDoorAppS
namespace Go.Proofs.YtnniohimbmnapaaDoor
open Go Go.ChangeShapes Go.WideShapes Go.RowKit
set_option linter.unusedVariables false
set_option linter.unusedSimpArgs false
theorem infoWay : (Tryd.prog.info? 36).map (fun i => (i.zero, i.size, i.bytes)) = some (some (.agg #[.int .i64 0, .slice none 0 0]), 2, 32) := by kernel_rfl
def usZ : Int × Value := (0, .bool false)
/-- The slice value v owns these ways, in rows not below B. -/
def WO (w : World) (B : Nat) (v : Value) (ls : List (Int × List Int)) : Prop :=
  ∃ us : List (Int × Value), us.length = ls.length ∧ w.ownsRow B 36 2 v ls.length (flat us) ∧
    ∀ i, i < ls.length → (us.getD i usZ).1 = (ls.getD i wayZ).1 ∧ OI w B (us.getD i usZ).2 (ls.getD i wayZ).2
theorem own_ne {w : World} {B B' sz n : Nat} {T T' : TypeId} {k : IntKind} {v v' : Value} {ws : List Int} {xs : List Value} (h : OW k T w B v ws) (h' : w.ownsRow B' T' sz v' n xs) (hne : T ≠ T') : v.ownBlock = none ∨ v.ownBlock ≠ v'.ownBlock := by
  rcases h.2 with ⟨rfl, _⟩ | ⟨g, c, cur, rfl, _, hg, _⟩
  · exact .inl rfl
  · right
    rcases h'.2 with ⟨rfl, _⟩ | ⟨g', c', cur', rfl, _, hg', _⟩
    · simp [Value.ownBlock]
    · intro e
      simp only [Value.ownBlock, Option.some.injEq] at e
      subst e
      rw [hg] at hg'
      simp at hg'
      exact hne hg'.2
theorem WO.nil (w : World) (B : Nat) : WO w B (.slice none 0 0) [] := ⟨[], rfl, World.ownsRow_nil w B _ 2, fun i h => by simp at h⟩
theorem ownsRow_keep {w w' : World} {B sz n : Nat} {T : TypeId} {v : Value} {xs : List Value} (h : w.ownsRow B T sz v n xs) (hb : Below w.heap.size w w') : w'.ownsRow B T sz v n xs := by
  refine ⟨h.1, ?_⟩
  rcases h.2 with h2 | ⟨g, c, cur, rfl, h0, hg, r⟩
  · exact .inl h2
  · exact .inr ⟨g, c, cur, rfl, h0, (hb.block _ (Array.getElem?_eq_some_iff.1 hg).1).trans hg, r⟩
theorem WO.keep {w w' : World} {B : Nat} {v : Value} {ls : List (Int × List Int)} (h : WO w B v ls) (hb : Below w.heap.size w w') : WO w' B v ls := by
  obtain ⟨us, h1, h2, h3⟩ := h
  exact ⟨us, h1, ownsRow_keep h2 hb, fun i hi => ⟨(h3 i hi).1, (h3 i hi).2.keep hb⟩⟩
theorem ownsRow_low {w : World} {B B' n sz : Nat} {T : TypeId} {v : Value} {xs : List Value} (h : w.ownsRow B T sz v n xs) (hB : B' ≤ B) : w.ownsRow B' T sz v n xs := by
  refine ⟨h.1, ?_⟩
  rcases h.2 with h2 | ⟨g2, cap, cur2, h3, h4, r1, r2⟩
  · exact .inl h2
  · exact .inr ⟨g2, cap, cur2, h3, by omega, r1, r2⟩
theorem WO.low {w : World} {B B' : Nat} {v : Value} {ls : List (Int × List Int)} (h : WO w B v ls) (hB : B' ≤ B) : WO w B' v ls := by
  obtain ⟨us, h1, h2, h3⟩ := h
  exact ⟨us, h1, ownsRow_low h2 hB, fun i hi => ⟨(h3 i hi).1, (h3 i hi).2.low hB⟩⟩
theorem WO.off {w w' : World} {B : Nat} {v : Value} {ls : List (Int × List Int)} (h : WO w B v ls) (hb : ∀ g, B ≤ g → g < w.heap.size → w'.heap[g]? = w.heap[g]?) : WO w' B v ls := by
  obtain ⟨us, h1, h2, h3⟩ := h
  refine ⟨us, h1, ⟨h2.1, ?_⟩, fun i hi => ⟨(h3 i hi).1, OW.block (h3 i hi).2 fun g hg => hb g ((h3 i hi).2.lt hg).1 ((h3 i hi).2.lt hg).2⟩⟩
  rcases h2.2 with h2 | ⟨g, c, cur, rfl, h0, hg, r⟩
  · exact .inl h2
  · exact .inr ⟨g, c, cur, rfl, h0, (hb _ h0 (Array.getElem?_eq_some_iff.1 hg).1).trans hg, r⟩
theorem way_form {w : World} {B : Nat} {v : Value} {ls : List (Int × List Int)} (h : WO w B v ls) : ∃ p c, v = .slice p ls.length c ∧
    ∀ i, i < ls.length → ∃ b u, p = some ⟨b, 0, none⟩ ∧ w.cell? ⟨b, i * 2, none⟩ = some (.int .i64 (ls.getD i wayZ).1) ∧ w.cell? ⟨b, i * 2 + 1, none⟩ = some u ∧ OI w B u (ls.getD i wayZ).2 := by
  obtain ⟨us, h1, h2, h3⟩ := h
  rcases h2.2 with ⟨rfl, h4⟩ | ⟨g, c, cur, rfl, h0, hg, r⟩
  · exact ⟨none, 0, by rw [h4], fun i hi => by omega⟩
  · refine ⟨_, c, rfl, fun i hi => ⟨g, (us.getD i usZ).2, rfl, ?_, ?_, (h3 i hi).2⟩⟩
    · have := h2.cells (g := g) rfl (i * 2) _ (flat_at us i (by omega)).1
      rw [← (h3 i hi).1]
      have e : (⟨g, 0, none⟩ : Addr).add (i * 2) = ⟨g, i * 2, none⟩ := by unfold Addr.add; split <;> simp_all
      rw [e] at this
      rw [this, List.getD_eq_getElem?_getD, List.getElem?_eq_getElem (by omega)]; rfl
    · have := h2.cells (g := g) rfl (i * 2 + 1) _ (flat_at us i (by omega)).2
      have e : (⟨g, 0, none⟩ : Addr).add (i * 2 + 1) = ⟨g, i * 2 + 1, none⟩ := by unfold Addr.add; split <;> simp_all
      rw [e] at this
      rw [this, List.getD_eq_getElem?_getD, List.getElem?_eq_getElem (by omega)]; rfl
theorem getD_snoc {α : Type} (l : List α) (x d : α) (i : Nat) : (l ++ [x]).getD i d = if i = l.length then x else l.getD i d := by
  rw [List.getD_eq_getElem?_getD, List.getD_eq_getElem?_getD]
  by_cases h : i < l.length
  · rw [List.getElem?_append_left h, if_neg (by omega)]
  · by_cases e : i = l.length
    · subst e; simp
    · rw [List.getElem?_eq_none (by simp; omega), List.getElem?_eq_none (by omega), if_neg e]
/-- A way more. -/
theorem WO.snoc {w w' : World} {B : Nat} {v v' u : Value} {ls : List (Int × List Int)} {us : List (Int × Value)} {to : Int} {ws : List Int} (h1 : us.length = ls.length) (h2 : w.ownsRow B 36 2 v ls.length (flat us))
    (h3 : ∀ i, i < ls.length → (us.getD i usZ).1 = (ls.getD i wayZ).1 ∧ OI w B (us.getD i usZ).2 (ls.getD i wayZ).2) (hu : OI w B u ws)
    (ha : ApdS 2 w w' B 36 v v' (ls.length + 1) (flat us ++ [.int .i64 to, u])) : WO w' B v' (ls ++ [(to, ws)]) := by
  have hk : ∀ {x : Value} {xs : List Int}, OI w B x xs → OI w' B x xs := fun h => World.ownsRow.kept h ha.grown (own_ne h h2 (by decide))
  refine ⟨us ++ [(to, u)], by simp [h1], ?_, fun i hi => ?_⟩
  · rw [List.length_append, List.length_singleton, flat_append]; exact ha.own
  · rw [getD_snoc, getD_snoc, h1]
    by_cases e : i = ls.length
    · rw [if_pos e, if_pos e]; exact ⟨rfl, hk hu⟩
    · rw [if_neg e, if_neg e]
      have := h3 i (by simp at hi; omega)
      exact ⟨this.1, hk this.2⟩
def WPost (W : World) (ls : List (Int × List Int)) (e : Ending) (w' : World) : Prop := ∃ u, e = .returned u ∧ WO w' W.heap.size u ls ∧ Below W.heap.size W w'
theorem ways_take {F : FuncD} {x k : Nat} (hk : k < (goeL F x).length) : (waysD F x).take (k + 1) = (waysD F x).take k ++ [((goeL F x).getD k 0, wrL F x k)] := by
  have hl : k < (waysD F x).length := by rw [ways_len]; omega
  rw [List.take_succ_eq_append_getElem hl]
  have := ways_go hk
  rw [List.getD_eq_getElem?_getD, List.getElem?_eq_getElem hl] at this
  simp only [Option.getD_some] at this
  rw [this]
end Go.Proofs.YtnniohimbmnapaaDoor
