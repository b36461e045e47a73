/- Reading a slice of ints ('Ri'; two more than what comes in at most). Nothing of the program is imported. -/
import Derived.Test.YtebnbgnoldocaaaGreatDoorOwn
namespace Go.Proofs.YtebnbgnoldocaaaGreatDoor
open Go.RowKit
set_option linter.unusedSimpArgs false
set_option linter.unusedVariables false
def Ri (w : World) (v : Value) (ds : List Int) : Prop :=
  (∃ p : Option Addr, v = .slice p 0 0 ∧ ds = []) ∨ ∃ b off c, v = .slice (some ⟨b, off, none⟩) ds.length c ∧ ds.length ≤ c ∧ ds.length ≤ 17592186044416 ∧
    ∀ i, i < ds.length → w.cell? ⟨b, off + i, none⟩ = some (.int .i64 (ds.getD i 0))
theorem Ri.keep {w w' : World} {v : Value} {ws : List Int} (h : Ri w v ws) (hb : Below w.heap.size w w') : Ri w' v ws := by
  rcases h with h | ⟨b, off, c, rfl, h1, h2, h3⟩
  · exact .inl h
  · exact .inr ⟨b, off, c, rfl, h1, h2, fun i hi => below_cell hb (h3 i hi)⟩
theorem ri_form {w : World} {u : Value} {ws : List Int} (h : Ri w u ws) : ∃ p c, u = .slice p ws.length c ∧ ws.length ≤ c ∧ ws.length ≤ 17592186044416 ∧
    (0 < ws.length → ∃ b off, p = some ⟨b, off, none⟩ ∧ ∀ i, i < ws.length → w.cell? ⟨b, off + i, none⟩ = some (.int .i64 (ws.getD i 0))) := by
  rcases h with ⟨p, rfl, rfl⟩ | ⟨b, off, c, rfl, h1, h2, h3⟩
  · exact ⟨p, 0, rfl, by simp, by simp, fun h => by simp at h⟩
  · exact ⟨_, c, rfl, h1, h2, fun _ => ⟨b, off, rfl, h3⟩⟩
theorem Ri.nil (w : World) : Ri w (.slice none 0 0) [] := .inl ⟨none, rfl, rfl⟩
theorem Ri.len {w : World} {v : Value} {ws : List Int} (h : Ri w v ws) : ws.length ≤ 17592186044416 := by
  obtain ⟨_, _, _, _, h, _⟩ := ri_form h
  exact h
theorem Mine.ri {T : TypeId} {w : World} {ws : List Int} {B0 : Nat} {u : Value} (h : Mine .i64 T w B0 u ws) (hl : ws.length ≤ 17592186044416) : Ri w u ws := by
  rcases h with ⟨rfl, rfl⟩ | ⟨g, c, cur, h0, h1, h2, h3, h4, h5⟩
  · exact .inl ⟨_, rfl, rfl⟩
  · refine .inr ⟨g, 0, c, h0, h1, hl, fun i hi => ?_⟩
    rw [Nat.zero_add]
    simp [World.cell?, h4, h5 i hi]
/-- What is read of it stays where its block stays. -/
theorem Ri.block {w w' : World} {v : Value} {ws : List Int} (h : Ri w v ws) (hb : ∀ b off c n, v = .slice (some ⟨b, off, none⟩) n c → w'.heap[b]? = w.heap[b]?) : Ri w' v ws := by
  rcases h with h | ⟨b, off, c, rfl, h1, h2, h3⟩
  · exact .inl h
  · exact .inr ⟨b, off, c, rfl, h1, h2, fun i hi => (World.cell?_of_block (a := ⟨b, off + i, none⟩) (hb _ _ _ _ rfl)).trans (h3 i hi)⟩
theorem tail_getD (ws : List Int) (i : Nat) : ws.tail.getD i 0 = ws.getD (i + 1) 0 := by cases ws <;> simp
/-- What is left behind the first one. -/
theorem Ri.tail {w : World} {p : Option Addr} {n c : Nat} {ws : List Int} (h : Ri w (.slice p n c) ws) (hn : 0 < n) (o' : Nat) {b off : Nat} (hp : p = some ⟨b, off, none⟩) (ho : 1 < c → o' = off + 1) :
    Ri w (.slice (some ⟨b, o', none⟩) (n - 1) (c - 1)) ws.tail := by
  rcases h with ⟨p0, h, rfl⟩ | ⟨b', off', c', h0, h1, h2, h3⟩
  · simp only [Value.slice.injEq] at h; omega
  · simp only [Value.slice.injEq] at h0
    obtain ⟨h0, rfl, rfl⟩ := h0
    rw [hp] at h0
    simp only [Option.some.injEq, Addr.mk.injEq, and_true] at h0
    obtain ⟨rfl, rfl⟩ := h0
    refine .inr ⟨b, o', c - 1, by rw [List.length_tail], by rw [List.length_tail]; omega, by rw [List.length_tail]; omega, fun i hi => ?_⟩
    rw [List.length_tail] at hi
    rw [tail_getD, ho (by omega), Nat.add_assoc, Nat.add_comm 1 i]
    exact h3 (i + 1) (by omega)
end Go.Proofs.YtebnbgnoldocaaaGreatDoor
