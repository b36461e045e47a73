/- Rows that a call appends to: 'OW': the slice value v owns just these integers, in a row not below B. And reading a slice of bytes. Nothing of the program is imported. -/
import Derived.Test.YtapeomcnjjfihaaDoorRow
import Derived.Maps.AppendAt
namespace Go.Proofs.YtapeomcnjjfihaaDoor
open Go.RowKit
set_option linter.unusedSimpArgs false
set_option linter.unusedVariables false
def Rb (w : World) (v : Value) (ds : List Int) : Prop :=
  (∃ p : Option Addr, v = .slice p 0 0 ∧ ds = []) ∨ ∃ b off c, v = .slice (Option.some ⟨b, off, Option.none⟩) ds.length c ∧ ds.length ≤ c ∧ ds.length ≤ 140737488355328 ∧
    ∀ i, i < ds.length → w.cell? ⟨b, off + i, Option.none⟩ = Option.some (.int .u8 (ds.getD i 0))
theorem Rb.keep {w w' : World} {v : Value} {ws : List Int} (h : Rb w v ws) (hb : Below w.heap.size w w') : Rb w' v ws := by
  rcases h with h | ⟨b, off, c, rfl, h1, h2, h3⟩
  · exact .inl h
  · exact .inr ⟨b, off, c, rfl, h1, h2, fun i hi => below_cell hb (h3 i hi)⟩
theorem rb_form {w : World} {u : Value} {ws : List Int} (h : Rb w u ws) : ∃ p c, u = .slice p ws.length c ∧ ws.length ≤ c ∧ ws.length ≤ 140737488355328 ∧
    (0 < ws.length → ∃ b off, p = Option.some ⟨b, off, Option.none⟩ ∧ ∀ i, i < ws.length → w.cell? ⟨b, off + i, Option.none⟩ = Option.some (.int .u8 (ws.getD i 0))) := by
  rcases h with ⟨p, rfl, rfl⟩ | ⟨b, off, c, rfl, h1, h2, h3⟩
  · exact ⟨p, 0, rfl, by simp, by simp, fun h => by simp at h⟩
  · exact ⟨_, c, rfl, h1, h2, fun _ => ⟨b, off, rfl, h3⟩⟩
theorem Rb.take {w : World} {p : Option Addr} {n c : Nat} {ws : List Int} (h : Rb w (.slice p n c) ws) (k : Nat) (hk : k ≤ n) : Rb w (.slice p k c) (ws.take k) := by
  rcases h with ⟨p0, h, rfl⟩ | ⟨b, off, c', h0, h1, h2, h3⟩
  · simp only [Value.slice.injEq] at h
    obtain ⟨rfl, rfl, rfl⟩ := h
    obtain rfl : k = 0 := by omega
    exact .inl ⟨p, rfl, rfl⟩
  · simp only [Value.slice.injEq] at h0
    obtain ⟨rfl, rfl, rfl⟩ := h0
    refine .inr ⟨b, off, c, by rw [List.length_take, Nat.min_eq_left hk], by rw [List.length_take]; omega, by rw [List.length_take]; omega, fun i hi => ?_⟩
    rw [List.length_take] at hi
    rw [getD_take, if_pos (by omega)]
    exact h3 i (by omega)
theorem Mine.cut {k : IntKind} {T : TypeId} {w : World} {ws : List Int} {B0 : Nat} {p : Option Addr} {n c m : Nat} (h : Mine k T w B0 (.slice p n c) ws) (hm : m ≤ n) : Mine k T w B0 (.slice p m c) (ws.take m) := by
  rcases h with ⟨e, rfl⟩ | ⟨g, c', cur, e, h1, h2, h3, h4, h5⟩
  · simp only [Value.slice.injEq] at e
    obtain ⟨rfl, rfl, rfl⟩ := e
    obtain rfl : m = 0 := by omega
    exact .inl ⟨rfl, rfl⟩
  · simp only [Value.slice.injEq] at e
    obtain ⟨rfl, rfl, rfl⟩ := e
    have hl : (ws.take m).length = m := by rw [List.length_take]; omega
    refine .inr ⟨g, c, cur, by rw [hl], by omega, h2, h3, h4, fun i hi => ?_⟩
    rw [hl] at hi
    rw [getD_take, if_pos hi]
    exact h5 i (by omega)
theorem Mine.set2 {k : IntKind} {T : TypeId} {w : World} {B0 B : Nat} {u : Value} {ws : List Int} (h : Mine k T w B0 u ws) (hB : B < B0) (x0 x1 : Value) : Mine k T ((w.setCell ⟨B, 0, Option.none⟩ x0).setCell ⟨B, 1, Option.none⟩ x1) B0 u ws := by
  rcases h with h | ⟨g, c, cur, h0, h1, h2, h3, h4, h5⟩
  · exact .inl h
  · refine .inr ⟨g, c, cur, h0, h1, h2, h3, ?_, h5⟩
    rw [Below.heap_setCell _ _ _ _ (by simp; omega), Below.heap_setCell _ _ _ _ (by simp; omega)]
    exact h4
theorem Mine.rb {T : TypeId} {w : World} {ws : List Int} {B0 : Nat} {u : Value} (h : Mine .u8 T w B0 u ws) (hl : ws.length ≤ 140737488355328) : Rb w u ws := by
  rcases h with ⟨rfl, rfl⟩ | ⟨g, c, cur, h0, h1, h2, h3, h4, h5⟩
  · exact .inl ⟨_, rfl, rfl⟩
  · refine .inr ⟨g, 0, c, h0, h1, hl, fun i hi => ?_⟩
    rw [Nat.zero_add]
    simp [World.cell?, h4, h5 i hi]
variable {k : IntKind} {T : TypeId} {w w' : World} {ws : List Int} {B : Nat} {v : Value}
def OW (k : IntKind) (T : TypeId) (w : World) (B : Nat) (v : Value) (ws : List Int) : Prop := w.ownsRow B T 1 v ws.length (ws.map (Value.int k))
theorem OW.nil (w : World) (B : Nat) : OW k T w B (.slice Option.none 0 0) [] := World.ownsRow_nil w B T 1
theorem OW.snoc {v' : Value} {x : Int} (h : w.ownsRow B T 1 v' (ws.length + 1) (ws.map (Value.int k) ++ [Value.int k x])) : OW k T w B v' (ws ++ [x]) := by
  unfold OW; simpa using h
theorem OW.keep (h : OW k T w B v ws) (hb : Below w.heap.size w w') : OW k T w' B v ws :=
  World.ownsRow.kept (row := Option.none) h ⟨hb.os, hb.tape, hb.output, hb.size, fun k hk _ => hb.block k hk⟩ (by cases v.ownBlock <;> simp)
theorem OW.grown {W : World} {o : Obj} {w1 : World} (h : OW k T w B v ws) (hB : Below W.heap.size W w) (hg : (w.alloc o).grownBy w1 v.ownBlock) (h0 : W.heap.size ≤ B) : Below W.heap.size W w1 := by
  have hl := World.ownsRow.lt h
  exact (hB.alloc hB.size _).grown hg (hB.alloc hB.size _).size (fun x hx => by have := hl x hx; omega)
/-- What an append to it leaves as it was: whatever lies below the row's bound. -/
theorem OW.stays {o : Obj} {w1 : World} (h : OW k T w B v ws) (hg : (w.alloc o).grownBy w1 v.ownBlock) (hB : B ≤ w.heap.size) : Below B w w1 := by
  have hl := World.ownsRow.lt h
  exact ((Below.refl B w).alloc hB _).grown hg (by simp; omega) (fun x hx => by have := hl x hx; omega)
theorem OW.mine (h : OW k T w B v ws) : Mine k T w B v ws := owns_mine h
theorem OW.low {B' : Nat} (h : OW k T w B v ws) (hB : B' ≤ B) : OW k T w B' v ws := by
  obtain ⟨h1, h2⟩ := h
  refine ⟨h1, ?_⟩
  rcases h2 with h2 | ⟨g, cap, cur, hv, hg, r⟩
  · exact .inl h2
  · exact .inr ⟨g, cap, cur, hv, Nat.le_trans hB hg, r⟩
theorem OW.rb (h : OW .u8 T w B v ws) (hl : ws.length ≤ 140737488355328) : Rb w v ws := by
  rcases h.mine with ⟨rfl, rfl⟩ | ⟨g, c, cur, h0, h1, h2, h3, h4, h5⟩
  · exact .inl ⟨_, rfl, rfl⟩
  · refine .inr ⟨g, 0, c, h0, h1, hl, fun i hi => ?_⟩
    rw [Nat.zero_add]
    simp [World.cell?, h4, h5 i hi]
theorem OW.rd (h : OW .u64 T w B v ws) (hl : ws.length ≤ 17592186043904) : Rd w v ws := h.mine.rd hl
theorem one_newO (w : World) (x : Value) (T : TypeId) : ∀ j u, [x][j]? = Option.some u → (w.alloc (.cells #[x] T)).cell? ((⟨w.heap.size, 0, Option.none⟩ : Addr).add j) = Option.some u := by
  intro j u hj
  obtain rfl : j = 0 := by
    rw [List.getElem?_eq_some_iff] at hj
    obtain ⟨h, _⟩ := hj
    simpa using h
  simp at hj
  subst hj
  simp [Addr.add]
end Go.Proofs.YtapeomcnjjfihaaDoor
