/- Rows of integers in blocks of their own: 'LR': block g holds just these integers; 'Mine': a slice over the beginning of such a block, not below B0. Nothing of the program is imported. Rows that a call appends to: 'OW': the slice value v owns just these integers, in a row not below B. And reading a slice of bytes. Nothing of the program is imported. -/
import Derived.Test.YtbhommcpgejbfaaGreatDoorPRd
import Derived.OwnWalk
import Derived.Laws.CopyOwn
import Derived.Maps.AppendAt
namespace Go.Proofs.YtbhommcpgejbfaaGreatDoor
section
open Go.RowKit
set_option linter.unusedSimpArgs false
set_option linter.unusedVariables false
def LR (k : IntKind) (T : TypeId) (w : World) (g : Nat) (ws : List Int) : Prop := w.heap[g]? = Option.some (.cells (ws.map (Value.int k)).toArray T (0, 0))
variable {k : IntKind} {T : TypeId} {w w' : World} {g : Nat} {ws : List Int}
theorem LR.cell (h : LR k T w g ws) {i : Nat} (hi : i < ws.length) : w.cell? ⟨g, i, Option.none⟩ = Option.some (.int k (ws.getD i 0)) := by
  unfold LR at h
  simp [World.cell?, h, hi, List.getD_eq_getElem?_getD]
theorem LR.frozen (h : LR k T w g ws) (i : Nat) : w.frozen? ⟨g, i, Option.none⟩ = false := by
  unfold LR at h
  simp [World.frozen?, h]
theorem LR.lt (h : LR k T w g ws) : g < w.heap.size := (Array.getElem?_eq_some_iff.1 h).1
theorem LR.block (h : LR k T w g ws) (e : w'.heap[g]? = w.heap[g]?) : LR k T w' g ws := e.trans h
theorem LR.keep (h : LR k T w g ws) (hb : Below w.heap.size w w') : LR k T w' g ws := h.block (hb.block _ h.lt)
theorem LR.set (h : LR k T w g ws) (i : Nat) (x : Int) : LR k T (w.setCell ⟨g, i, Option.none⟩ (.int k x)) g (ws.set i x) := by
  unfold LR at *
  simp [World.setCell, Array.getElem?_modify, h, List.map_set]
theorem LR.made (w : World) (n : Nat) : LR k T (w.alloc (.cells (madeCells #[.int k 0] n) T)) w.heap.size (List.replicate n 0) := by
  unfold LR
  have e : madeCells #[Value.int k 0] n = ((List.replicate n (0 : Int)).map (Value.int k)).toArray := by
    apply Array.ext
    · simp [madeCells]
    · intro i h1 h2; simp [madeCells, Nat.mod_one]
  rw [← e]
  exact heap_alloc_new w _
def Mine (k : IntKind) (T : TypeId) (w : World) (B0 : Nat) (u : Value) (ws : List Int) : Prop :=
  (u = .slice Option.none 0 0 ∧ ws = []) ∨ ∃ g c cur, u = .slice (Option.some ⟨g, 0, Option.none⟩) ws.length c ∧ ws.length ≤ c ∧ c ≤ Array.size cur ∧ B0 ≤ g ∧
    w.heap[g]? = Option.some (.cells cur T (0, 0)) ∧ ∀ i, i < ws.length → cur[i]? = Option.some (.int k (ws.getD i 0))
theorem Mine.nil (w : World) (B0 : Nat) : Mine k T w B0 (.slice Option.none 0 0) [] := .inl ⟨rfl, rfl⟩
theorem LR.mine (h : LR k T w g ws) {B0 : Nat} (hB : B0 ≤ g) : Mine k T w B0 (.slice (Option.some ⟨g, 0, Option.none⟩) ws.length ws.length) ws := by
  refine .inr ⟨g, ws.length, (ws.map (Value.int k)).toArray, rfl, Nat.le_refl _, by simp, hB, h, fun i hi => ?_⟩
  simp [hi, List.getD_eq_getElem?_getD]
theorem LR.mine_take (h : LR k T w g ws) {B0 : Nat} (hB : B0 ≤ g) {n : Nat} (hn : n ≤ ws.length) : Mine k T w B0 (.slice (Option.some ⟨g, 0, Option.none⟩) n n) (ws.take n) := by
  have hl : (ws.take n).length = n := by rw [List.length_take]; omega
  refine .inr ⟨g, n, (ws.map (Value.int k)).toArray, by rw [hl], by rw [hl]; exact Nat.le_refl _, by simpa using hn, hB, h, fun i hi => ?_⟩
  rw [hl] at hi
  rw [getD_take, if_pos hi]
  simp [List.getD_eq_getElem?_getD, show i < ws.length by omega]
theorem Mine.keep {B0 : Nat} {u : Value} (h : Mine k T w B0 u ws) (hb : Below w.heap.size w w') : Mine k T w' B0 u ws := by
  rcases h with h | ⟨g, c, cur, h0, h1, h2, h3, h4, h5⟩
  · exact .inl h
  · exact .inr ⟨g, c, cur, h0, h1, h2, h3, (hb.block _ (Array.getElem?_eq_some_iff.1 h4).1).trans h4, h5⟩
theorem Mine.low {B0 B1 : Nat} {u : Value} (h : Mine k T w B0 u ws) (hB : B1 ≤ B0) : Mine k T w B1 u ws := by
  rcases h with h | ⟨g, c, cur, h0, h1, h2, h3, h4, h5⟩
  · exact .inl h
  · exact .inr ⟨g, c, cur, h0, h1, h2, Nat.le_trans hB h3, h4, h5⟩
theorem Mine.rd {B0 : Nat} {u : Value} (h : Mine .u64 T w B0 u ws) (hl : ws.length ≤ 17592186043904) : Rd w u ws := by
  rcases h with ⟨rfl, rfl⟩ | ⟨g, c, cur, h0, h1, h2, h3, h4, h5⟩
  · exact .inl ⟨_, rfl, rfl⟩
  · refine .inr ⟨g, 0, c, h0, h1, hl, fun i hi => ?_⟩
    rw [Nat.zero_add]
    simp [World.cell?, h4, h5 i hi]
theorem Mine.take {B0 : Nat} {p : Option Addr} {n c m : Nat} (h : Mine k T w B0 (.slice p n c) ws) (hm : m ≤ n) (h0 : 0 < m) : Mine k T w B0 (.slice p m m) (ws.take m) := by
  rcases h with ⟨e, rfl⟩ | ⟨g, c', cur, e, h1, h2, h3, h4, h5⟩
  · simp only [Value.slice.injEq] at e; omega
  · simp only [Value.slice.injEq] at e
    obtain ⟨rfl, rfl, rfl⟩ := e
    have hl : (ws.take m).length = m := by rw [List.length_take]; omega
    refine .inr ⟨g, m, cur, by rw [hl], by rw [hl]; exact Nat.le_refl _, by omega, h3, h4, fun i hi => ?_⟩
    rw [hl] at hi
    rw [getD_take, if_pos hi]
    exact h5 i (by omega)
theorem owns_mine {B0 : Nat} {u : Value} (h : w.ownsRow B0 T 1 u ws.length (ws.map (Value.int k))) : Mine k T w B0 u ws := by
  rcases h.2 with ⟨rfl, h2⟩ | ⟨g, c, cur, rfl, hg, r1, r2, r3, r4, r5⟩
  · exact .inl ⟨rfl, List.length_eq_zero_iff.1 h2⟩
  · refine .inr ⟨g, c, cur, rfl, r2, by omega, hg, r1, fun i hi => ?_⟩
    have e := congrArg (fun l => l[i]?) r5
    simp only [List.getElem?_take, List.getElem?_map, List.getElem?_eq_getElem hi] at e
    rw [if_pos (by omega)] at e
    rw [← Array.getElem?_toList, e]
    simp [List.getD_eq_getElem?_getD, hi]
end
section
open Go.RowKit
set_option linter.unusedSimpArgs false
set_option linter.unusedVariables false
def Rb (w : World) (v : Value) (ds : List Int) : Prop :=
  (∃ p : Option Addr, v = .slice p 0 0 ∧ ds = []) ∨ ∃ b off c, v = .slice (Option.some ⟨b, off, Option.none⟩) ds.length c ∧ ds.length ≤ c ∧ ds.length ≤ 140737488355328 ∧
    ∀ i, i < ds.length → w.cell? ⟨b, off + i, Option.none⟩ = Option.some (.int .u8 (ds.getD i 0))
theorem Rb.keep {w w' : World} {v : Value} {ws : List Int} (h : Rb w v ws) (hb : Below w.heap.size w w') : Rb w' v ws := by
  rcases h with h | ⟨b, off, c, rfl, h1, h2, h3⟩
  · exact .inl h
  · exact .inr ⟨b, off, c, rfl, h1, h2, fun i hi => below_cell hb (h3 i hi)⟩
theorem rb_form {w : World} {u : Value} {ws : List Int} (h : Rb w u ws) : ∃ p c, u = .slice p ws.length c ∧ ws.length ≤ c ∧ ws.length ≤ 140737488355328 ∧
    (0 < ws.length → ∃ b off, p = Option.some ⟨b, off, Option.none⟩ ∧ ∀ i, i < ws.length → w.cell? ⟨b, off + i, Option.none⟩ = Option.some (.int .u8 (ws.getD i 0))) := by
  rcases h with ⟨p, rfl, rfl⟩ | ⟨b, off, c, rfl, h1, h2, h3⟩
  · exact ⟨p, 0, rfl, by simp, by simp, fun h => by simp at h⟩
  · exact ⟨_, c, rfl, h1, h2, fun _ => ⟨b, off, rfl, h3⟩⟩
theorem Rb.take {w : World} {p : Option Addr} {n c : Nat} {ws : List Int} (h : Rb w (.slice p n c) ws) (k : Nat) (hk : k ≤ n) : Rb w (.slice p k c) (ws.take k) := by
  rcases h with ⟨p0, h, rfl⟩ | ⟨b, off, c', h0, h1, h2, h3⟩
  · simp only [Value.slice.injEq] at h
    obtain ⟨rfl, rfl, rfl⟩ := h
    obtain rfl : k = 0 := by omega
    exact .inl ⟨p, rfl, rfl⟩
  · simp only [Value.slice.injEq] at h0
    obtain ⟨rfl, rfl, rfl⟩ := h0
    refine .inr ⟨b, off, c, by rw [List.length_take, Nat.min_eq_left hk], by rw [List.length_take]; omega, by rw [List.length_take]; omega, fun i hi => ?_⟩
    rw [List.length_take] at hi
    rw [getD_take, if_pos (by omega)]
    exact h3 i (by omega)
theorem Mine.cut {k : IntKind} {T : TypeId} {w : World} {ws : List Int} {B0 : Nat} {p : Option Addr} {n c m : Nat} (h : Mine k T w B0 (.slice p n c) ws) (hm : m ≤ n) : Mine k T w B0 (.slice p m c) (ws.take m) := by
  rcases h with ⟨e, rfl⟩ | ⟨g, c', cur, e, h1, h2, h3, h4, h5⟩
  · simp only [Value.slice.injEq] at e
    obtain ⟨rfl, rfl, rfl⟩ := e
    obtain rfl : m = 0 := by omega
    exact .inl ⟨rfl, rfl⟩
  · simp only [Value.slice.injEq] at e
    obtain ⟨rfl, rfl, rfl⟩ := e
    have hl : (ws.take m).length = m := by rw [List.length_take]; omega
    refine .inr ⟨g, c, cur, by rw [hl], by omega, h2, h3, h4, fun i hi => ?_⟩
    rw [hl] at hi
    rw [getD_take, if_pos hi]
    exact h5 i (by omega)
theorem Mine.set2 {k : IntKind} {T : TypeId} {w : World} {B0 B : Nat} {u : Value} {ws : List Int} (h : Mine k T w B0 u ws) (hB : B < B0) (x0 x1 : Value) : Mine k T ((w.setCell ⟨B, 0, Option.none⟩ x0).setCell ⟨B, 1, Option.none⟩ x1) B0 u ws := by
  rcases h with h | ⟨g, c, cur, h0, h1, h2, h3, h4, h5⟩
  · exact .inl h
  · refine .inr ⟨g, c, cur, h0, h1, h2, h3, ?_, h5⟩
    rw [Below.heap_setCell _ _ _ _ (by simp; omega), Below.heap_setCell _ _ _ _ (by simp; omega)]
    exact h4
theorem Mine.rb {T : TypeId} {w : World} {ws : List Int} {B0 : Nat} {u : Value} (h : Mine .u8 T w B0 u ws) (hl : ws.length ≤ 140737488355328) : Rb w u ws := by
  rcases h with ⟨rfl, rfl⟩ | ⟨g, c, cur, h0, h1, h2, h3, h4, h5⟩
  · exact .inl ⟨_, rfl, rfl⟩
  · refine .inr ⟨g, 0, c, h0, h1, hl, fun i hi => ?_⟩
    rw [Nat.zero_add]
    simp [World.cell?, h4, h5 i hi]
variable {k : IntKind} {T : TypeId} {w w' : World} {ws : List Int} {B : Nat} {v : Value}
def OW (k : IntKind) (T : TypeId) (w : World) (B : Nat) (v : Value) (ws : List Int) : Prop := w.ownsRow B T 1 v ws.length (ws.map (Value.int k))
theorem OW.nil (w : World) (B : Nat) : OW k T w B (.slice Option.none 0 0) [] := World.ownsRow_nil w B T 1
theorem OW.snoc {v' : Value} {x : Int} (h : w.ownsRow B T 1 v' (ws.length + 1) (ws.map (Value.int k) ++ [Value.int k x])) : OW k T w B v' (ws ++ [x]) := by
  unfold OW; simpa using h
theorem OW.keep (h : OW k T w B v ws) (hb : Below w.heap.size w w') : OW k T w' B v ws :=
  World.ownsRow.kept (row := Option.none) h ⟨hb.os, hb.tape, hb.output, hb.size, fun k hk _ => hb.block k hk⟩ (by cases v.ownBlock <;> simp)
theorem OW.grown {W : World} {o : Obj} {w1 : World} (h : OW k T w B v ws) (hB : Below W.heap.size W w) (hg : (w.alloc o).grownBy w1 v.ownBlock) (h0 : W.heap.size ≤ B) : Below W.heap.size W w1 := by
  have hl := World.ownsRow.lt h
  exact (hB.alloc hB.size _).grown hg (hB.alloc hB.size _).size (fun x hx => by have := hl x hx; omega)
/-- What an append to it leaves as it was: whatever lies below the row's bound. -/
theorem OW.stays {o : Obj} {w1 : World} (h : OW k T w B v ws) (hg : (w.alloc o).grownBy w1 v.ownBlock) (hB : B ≤ w.heap.size) : Below B w w1 := by
  have hl := World.ownsRow.lt h
  exact ((Below.refl B w).alloc hB _).grown hg (by simp; omega) (fun x hx => by have := hl x hx; omega)
theorem OW.mine (h : OW k T w B v ws) : Mine k T w B v ws := owns_mine h
theorem OW.low {B' : Nat} (h : OW k T w B v ws) (hB : B' ≤ B) : OW k T w B' v ws := by
  obtain ⟨h1, h2⟩ := h
  refine ⟨h1, ?_⟩
  rcases h2 with h2 | ⟨g, cap, cur, hv, hg, r⟩
  · exact .inl h2
  · exact .inr ⟨g, cap, cur, hv, Nat.le_trans hB hg, r⟩
theorem OW.rb (h : OW .u8 T w B v ws) (hl : ws.length ≤ 140737488355328) : Rb w v ws := by
  rcases h.mine with ⟨rfl, rfl⟩ | ⟨g, c, cur, h0, h1, h2, h3, h4, h5⟩
  · exact .inl ⟨_, rfl, rfl⟩
  · refine .inr ⟨g, 0, c, h0, h1, hl, fun i hi => ?_⟩
    rw [Nat.zero_add]
    simp [World.cell?, h4, h5 i hi]
theorem OW.rd (h : OW .u64 T w B v ws) (hl : ws.length ≤ 17592186043904) : Rd w v ws := h.mine.rd hl
theorem one_newO (w : World) (x : Value) (T : TypeId) : ∀ j u, [x][j]? = Option.some u → (w.alloc (.cells #[x] T)).cell? ((⟨w.heap.size, 0, Option.none⟩ : Addr).add j) = Option.some u := by
  intro j u hj
  obtain rfl : j = 0 := by
    rw [List.getElem?_eq_some_iff] at hj
    obtain ⟨h, _⟩ := hj
    simpa using h
  simp at hj
  subst hj
  simp [Addr.add]
end
end Go.Proofs.YtbhommcpgejbfaaGreatDoor
