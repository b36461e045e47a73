/- Layer 10: an instruction of a function of one's own is written over by one that does nothing. -/
import Derived.Test.YtnniohimbmnapaaDoorCopyB
namespace Go.Proofs.YtnniohimbmnapaaDoor
open Go Go.ChangeShapes Go.WideShapes Go.RowKit
set_option linter.unusedVariables false
set_option linter.unusedSimpArgs false
theorem ownS_block {w w' : World} {B sz n : Nat} {T : TypeId} {v : Value} {xs : List Value} (h : w.ownsRow B T sz v n xs) (hb : ∀ g, v.ownBlock = some g → w'.heap[g]? = w.heap[g]?) : w'.ownsRow B T sz v n xs := by
  refine ⟨h.1, ?_⟩
  rcases h.2 with h2 | ⟨g, c, cur, rfl, h0, hg, r⟩
  · exact .inl h2
  · exact .inr ⟨g, c, cur, rfl, h0, (hb g rfl).trans hg, r⟩
/-- The world behind the store. -/
def putW (w : World) (g o : Nat) : World := ((((((w.setCell ⟨g, o, none⟩ (.int .i64 0)).setCell ⟨g, o + 1, none⟩ (.int .i64 0)).setCell ⟨g, o + 2, none⟩ (.int .i64 0)).setCell ⟨g, o + 3, none⟩ (.int .i64 0)).setCell ⟨g, o + 4, none⟩ (.int .i64 0)).setCell ⟨g, o + 5, none⟩ (.int .i64 0)).setCell ⟨g, o + 6, none⟩ (.slice none 0 0)
theorem put_size (w : World) (g o : Nat) : (putW w g o).heap.size = w.heap.size := by simp [putW]
theorem put_block {w : World} {g o b : Nat} (h : b ≠ g) : (putW w g o).heap[b]? = w.heap[b]? := by
  unfold putW
  iterate 7 rw [Below.heap_setCell _ _ _ _ h]
theorem put_below {w : World} {g o B : Nat} (h : B ≤ g) : Below B w (putW w g o) := by
  unfold putW
  exact (((((((Below.refl B w).setCell (by exact h) _).setCell (by exact h) _).setCell (by exact h) _).setCell (by exact h) _).setCell (by exact h) _).setCell (by exact h) _).setCell (by exact h) _
theorem put_out {w : World} {g o q : Nat} (h : q < o ∨ o + 7 ≤ q) : (putW w g o).cell? ⟨g, q, none⟩ = w.cell? ⟨g, q, none⟩ := by
  have hn : ∀ j, j < 7 → (⟨g, o + j, none⟩ : Addr) ≠ ⟨g, q, none⟩ := fun j hj e => by
    simp only [Addr.mk.injEq, and_true, true_and] at e
    omega
  unfold putW
  rw [World.cell?_setCell_other _ _ _ _ (hn 6 (by omega)), World.cell?_setCell_other _ _ _ _ (hn 5 (by omega)), World.cell?_setCell_other _ _ _ _ (hn 4 (by omega)), World.cell?_setCell_other _ _ _ _ (hn 3 (by omega)), World.cell?_setCell_other _ _ _ _ (hn 2 (by omega)), World.cell?_setCell_other _ _ _ _ (hn 1 (by omega)), World.cell?_setCell_other _ _ _ _ (by simp; first | done | omega)]
theorem cell_put {w : World} {a b : Addr} {v : Value} (h : (w.cell? b).isSome = true) : ((w.setCell a v).cell? b).isSome = true := by
  by_cases e : a = b
  · subst e
    obtain ⟨u, hu⟩ := Option.isSome_iff_exists.1 h
    rw [World.cell?_setCell_same _ _ _ hu]; rfl
  · rw [World.cell?_setCell_other _ _ _ _ e]; exact h
theorem set_same {w : World} {a : Addr} {v : Value} (h : (w.cell? a).isSome = true) : (w.setCell a v).cell? a = some v := by
  obtain ⟨u, hu⟩ := Option.isSome_iff_exists.1 h
  exact World.cell?_setCell_same _ _ _ hu
theorem put_in {w : World} {g o : Nat} (h : ∀ j, j < 7 → (w.cell? ⟨g, o + j, none⟩).isSome = true) : (∀ j, j < 6 → (putW w g o).cell? ⟨g, o + j, none⟩ = some (.int .i64 0)) ∧ (putW w g o).cell? ⟨g, o + 6, none⟩ = some (.slice none 0 0) := by
  have hn : ∀ i j, i ≠ j → (⟨g, o + i, none⟩ : Addr) ≠ ⟨g, o + j, none⟩ := fun i j hij e => by
    simp only [Addr.mk.injEq, and_true, true_and] at e
    omega
  have s0 := h 0 (by omega)
  have s1 := h 1 (by omega)
  have s2 := h 2 (by omega)
  have s3 := h 3 (by omega)
  have s4 := h 4 (by omega)
  have s5 := h 5 (by omega)
  have s6 := h 6 (by omega)
  unfold putW
  refine ⟨fun j hj => ?_, set_same (cell_put (cell_put (cell_put (cell_put (cell_put (cell_put s6))))))⟩
  rw [World.cell?_setCell_other _ _ _ _ (hn 6 j (by omega))]
  by_cases e5 : j = 5
  · subst e5; exact set_same (cell_put (cell_put (cell_put (cell_put (cell_put s5)))))
  rw [World.cell?_setCell_other _ _ _ _ (hn 5 j (by omega))]
  by_cases e4 : j = 4
  · subst e4; exact set_same (cell_put (cell_put (cell_put (cell_put s4))))
  rw [World.cell?_setCell_other _ _ _ _ (hn 4 j (by omega))]
  by_cases e3 : j = 3
  · subst e3; exact set_same (cell_put (cell_put (cell_put s3)))
  rw [World.cell?_setCell_other _ _ _ _ (hn 3 j (by omega))]
  by_cases e2 : j = 2
  · subst e2; exact set_same (cell_put (cell_put s2))
  rw [World.cell?_setCell_other _ _ _ _ (hn 2 j (by omega))]
  by_cases e1 : j = 1
  · subst e1; exact set_same (cell_put s1)
  rw [World.cell?_setCell_other _ _ _ _ (hn 1 j (by omega))]
  obtain rfl : j = 0 := by omega
  exact set_same s0
theorem io_cells {w : World} {B g c : Nat} {is : List InsD} {us : List (InsD × Value)} (h : w.ownsRow B 50 7 (.slice (some ⟨g, 0, none⟩) is.length c) is.length (flatI us)) {j : Nat} {u : Value} (hj : (flatI us)[j]? = some u) : w.cell? ⟨g, j, none⟩ = some u := by
  have := h.cells (g := g) rfl j u hj
  rwa [show (⟨g, 0, none⟩ : Addr).add j = ⟨g, j, none⟩ by unfold Addr.add; split <;> simp_all] at this
/-- What is written over is there. -/
theorem io_there {w : World} {B g c x : Nat} {is : List InsD} (h : IO w B (.slice (some ⟨g, 0, none⟩) is.length c) is) (hx : x < is.length) : ∀ j, j < 7 → (w.cell? ⟨g, x * 7 + j, none⟩).isSome = true := by
  obtain ⟨us, h1, h2, h3⟩ := h
  intro j hj
  have hl : x * 7 + j < (flatI us).length := by rw [flatI_len]; omega
  rw [io_cells h2 (List.getElem?_eq_getElem hl)]; rfl
theorem io_put {w : World} {B g c x : Nat} {is : List InsD} (h : IO w B (.slice (some ⟨g, 0, none⟩) is.length c) is) (hx : x < is.length) (hl : is.length ≤ 2199023255552) (hll : ∀ i, i < is.length → (is.getD i insZ).l.length ≤ 17592186043904) :
    Ii (putW w g (x * 7)) (.slice (some ⟨g, 0, none⟩) is.length c) (is.set x insZ) := by
  have hth := io_there h hx
  obtain ⟨us, h1, h2, h3⟩ := h
  have hgt : ∃ cur, w.heap[g]? = some (.cells cur 50 (0, 0)) ∧ is.length ≤ c := by
    rcases h2.2 with ⟨he, h4⟩ | ⟨g', c', cur, he, hg, r1, r2, _⟩
    · omega
    · simp only [Value.slice.injEq, Option.some.injEq, Addr.mk.injEq, and_true, true_and] at he
      obtain ⟨rfl, rfl⟩ := he
      exact ⟨cur, r1, r2⟩
  obtain ⟨cur, hgc, hlc⟩ := hgt
  refine .inr ⟨g, 0, c, by rw [List.length_set], by rw [List.length_set]; exact hlc, by rw [List.length_set]; exact hl, fun i hi => ?_⟩
  rw [List.length_set] at hi
  rw [Nat.zero_add]
  by_cases e : i = x
  · subst e
    rw [show (is.set i insZ).getD i insZ = insZ by simp [List.getD_eq_getElem?_getD, hi]]
    obtain ⟨p1, p2⟩ := put_in hth
    exact ⟨_, p1 0 (by omega), p1 1 (by omega), p1 2 (by omega), p1 3 (by omega), p1 4 (by omega), p1 5 (by omega), p2, Ri.nil _, by simp [insZ]⟩
  · rw [show (is.set x insZ).getD i insZ = is.getD i insZ by simp [List.getD_eq_getElem?_getD, List.getElem?_set, Ne.symm e]]
    obtain ⟨f0, f1, f2, f3, f4, f5, f6⟩ := flatI_at us i (by omega)
    rw [(h3 i hi).1] at f0 f1 f2 f3 f4 f5
    have hc : ∀ j u, j < 7 → (flatI us)[i * 7 + j]? = some u → (putW w g (x * 7)).cell? ⟨g, i * 7 + j, none⟩ = some u := fun j u hj hu => by
      rw [put_out (by omega)]; exact io_cells h2 hu
    have ho : OI (putW w g (x * 7)) B (us.getD i iZ).2 (is.getD i insZ).l := ownS_block (h3 i hi).2 fun b hb => put_block fun eb => by
      rcases (h3 i hi).2.2 with ⟨he, _⟩ | ⟨g', c', cur', he, _, hg', _⟩
      · rw [he] at hb; cases hb
      · rw [he] at hb
        simp only [Value.ownBlock, Option.some.injEq] at hb
        rw [hb, eb, hgc] at hg'
        simp at hg'
    exact ⟨_, hc 0 _ (by omega) f0, hc 1 _ (by omega) f1, hc 2 _ (by omega) f2, hc 3 _ (by omega) f3, hc 4 _ (by omega) f4, hc 5 _ (by omega) f5, hc 6 _ (by omega) f6, (OW.mine ho).ri (Nat.le_trans (hll i hi) (by omega)), hll i hi⟩
theorem rg_put {w : World} {B B' g c o : Nat} {is : List InsD} {rs : List RegD} {v : Value} (h : IO w B (.slice (some ⟨g, 0, none⟩) is.length c) is) (hr : w.ownsRow B' 64 4 v rs.length (flatR rs)) (hl : rs.length ≤ 4398046511104) : Rg (putW w g o) v rs := by
  obtain ⟨us, h1, h2, h3⟩ := h
  refine Cr.rg (Cr.of_owns (ownS_block hr fun b hb => put_block fun e => ?_)) hl
  rcases ownS_ne hr h2 (by decide) with h0 | h0
  · rw [h0] at hb; cases hb
  · rw [hb, e] at h0; exact h0 rfl
end Go.Proofs.YtnniohimbmnapaaDoor
