/- Layer 19: a row of one's own of slices of ints ('Rows'): block g holds them; the ints themselves lie in other blocks, below B. -/
import Derived.Test.YtfddcmapjnkhhaaMRd
import Derived.Laws.Rows
import Derived.Deep.Quiet
namespace Go.Proofs.Ytfddcmapjnkhhaa
open Go.RowKit
set_option linter.unusedSimpArgs false
set_option linter.unusedVariables false
/-- Block g alone of what was there may have changed. -/
structure Only (g : Nat) (w w' : World) : Prop where
  os : w'.os = w.os
  tape : w'.tape = w.tape
  output : w'.output = w.output
  size : w.heap.size ≤ w'.heap.size
  other : ∀ k, k < w.heap.size → k ≠ g → w'.heap[k]? = w.heap[k]?
theorem Only.refl (g : Nat) (w : World) : Only g w w := ⟨rfl, rfl, rfl, Nat.le_refl _, fun _ _ _ => rfl⟩
theorem Only.trans {g : Nat} {a b c : World} (h : Only g a b) (k : Only g b c) : Only g a c :=
  ⟨k.os.trans h.os, k.tape.trans h.tape, k.output.trans h.output, Nat.le_trans h.size k.size, fun i hi hn => (k.other i (Nat.lt_of_lt_of_le hi h.size) hn).trans (h.other i hi hn)⟩
theorem Only.of {g : Nat} {w w' : World} (h : Below w.heap.size w w') : Only g w w' := ⟨h.os, h.tape, h.output, h.size, fun k hk _ => h.block k hk⟩
theorem Only.setCell {g i : Nat} {w w' : World} (h : Only g w w') (v : Value) : Only g w (w'.setCell ⟨g, i, none⟩ v) :=
  ⟨h.os, h.tape, h.output, by simpa [World.setCell] using h.size, fun k hk hn => by rw [Below.heap_setCell _ _ _ _ (by simpa using hn)]; exact h.other k hk hn⟩
theorem Only.drewN {g : Nat} {w w' : World} (h : Only g w w') (n : Nat) : Only g w (w'.drewN n) := ⟨h.os, h.tape, h.output, h.size, h.other⟩
theorem Only.below {g B : Nat} {w w' : World} (h : Only g w w') (hg : B ≤ g) (hB : B ≤ w.heap.size) : Below B w w' := ⟨h.os, h.tape, h.output, h.size, fun k hk => h.other k (by omega) (by omega)⟩
/-- The block of a slice that holds something lies below B, and is not g. -/
def Near (B g : Nat) (u : Value) (l : List Int) : Prop := ∀ b off s n c, l ≠ [] → u = .slice (some ⟨b, off, s⟩) n c → b < B ∧ b ≠ g
theorem Ri.near {w w' : World} {B g : Nat} {u : Value} {l : List Int} (h : Ri w u l) (hn : Near B g u l) (hk : ∀ k, k < B → k ≠ g → w'.heap[k]? = w.heap[k]?) : Ri w' u l := by
  rcases h with h | ⟨b, off, c, rfl, h1, h2, h3⟩
  · exact .inl h
  · refine .inr ⟨b, off, c, rfl, h1, h2, fun i hi => ?_⟩
    have hb := hn b off none _ c (by intro e; subst e; simp at hi) rfl
    exact (World.cell?_of_block (a := ⟨b, off + i, none⟩) (hk b hb.1 hb.2)).trans (h3 i hi)
theorem Ri.nearOf {w : World} {g : Nat} {u : Value} {l : List Int} (h : Ri w u l) (hg : w.heap.size ≤ g) : Near w.heap.size g u l := by
  intro b off s n c hl e
  rcases h with ⟨p, rfl, rfl⟩ | ⟨b', off', c', rfl, h1, h2, h3⟩
  · exact absurd rfl hl
  · simp only [Value.slice.injEq, Option.some.injEq, Addr.mk.injEq] at e
    obtain ⟨⟨rfl, rfl, rfl⟩, _, _⟩ := e
    have hp : 0 < l.length := by cases l with | nil => exact absurd rfl hl | cons a r => simp
    have := World.block_lt_of_cell? w _ (h3 0 hp)
    simp only at this
    omega
theorem Near.mono {B B' g : Nat} {u : Value} {l : List Int} (h : Near B g u l) (hB : B ≤ B') : Near B' g u l := fun b off s n c hl e => ⟨Nat.lt_of_lt_of_le (h b off s n c hl e).1 hB, (h b off s n c hl e).2⟩
def Rows (T : TypeId) (w : World) (B g : Nat) (ls : List (List Int)) : Prop :=
  ∃ cur, w.heap[g]? = some (.cells cur T (0, 0)) ∧ ls.length ≤ Array.size cur ∧ ∀ i, i < ls.length → ∃ u, cur[i]? = some u ∧ Ri w u (ls.getD i []) ∧ Near B g u (ls.getD i [])
theorem Rows.lt {T : TypeId} {w : World} {B g : Nat} {ls : List (List Int)} (h : Rows T w B g ls) : g < w.heap.size := by
  obtain ⟨cur, h1, _⟩ := h
  exact (Array.getElem?_eq_some_iff.1 h1).1
theorem Rows.frozen {T : TypeId} {w : World} {B g : Nat} {ls : List (List Int)} (h : Rows T w B g ls) (i : Nat) : w.frozen? ⟨g, i, none⟩ = false := by
  obtain ⟨cur, h1, _⟩ := h
  simp [World.frozen?, h1]
theorem Rows.cell {T : TypeId} {w : World} {B g : Nat} {ls : List (List Int)} (h : Rows T w B g ls) {i : Nat} (hi : i < ls.length) : ∃ u, w.cell? ⟨g, i, none⟩ = some u ∧ Ri w u (ls.getD i []) ∧ Near B g u (ls.getD i []) := by
  obtain ⟨cur, h1, h2, h3⟩ := h
  obtain ⟨u, hu, hr, hn⟩ := h3 i hi
  exact ⟨u, by simp [World.cell?, h1, hu], hr, hn⟩
/-- Carried on where neither its block nor those below B turn. -/
theorem Rows.keep {T : TypeId} {w w' : World} {B g : Nat} {ls : List (List Int)} (h : Rows T w B g ls) (hg : w'.heap[g]? = w.heap[g]?) (hk : ∀ k, k < B → k ≠ g → w'.heap[k]? = w.heap[k]?) : Rows T w' B g ls := by
  obtain ⟨cur, h1, h2, h3⟩ := h
  refine ⟨cur, hg.trans h1, h2, fun i hi => ?_⟩
  obtain ⟨u, hu, hr, hn⟩ := h3 i hi
  exact ⟨u, hu, hr.near hn hk, hn⟩
theorem getD_set_l (ls : List (List Int)) (q : Nat) (x : List Int) (i : Nat) (hq : q < ls.length) : (ls.set q x).getD i [] = if i = q then x else ls.getD i [] := by
  simp only [List.getD_eq_getElem?_getD, List.getElem?_set]
  by_cases h : q = i
  · subst h; simp [hq]
  · rw [if_neg h, if_neg (fun e => h e.symm)]
theorem Rows.set {T : TypeId} {w : World} {B g : Nat} {ls : List (List Int)} (h : Rows T w B g ls) {i : Nat} (hi : i < ls.length) {u : Value} {l : List Int} (hr : Ri w u l) (hn : Near B g u l) : Rows T (w.setCell ⟨g, i, none⟩ u) B g (ls.set i l) := by
  obtain ⟨cur, h1, h2, h3⟩ := h
  have hk : ∀ k, k < B → k ≠ g → (w.setCell ⟨g, i, none⟩ u).heap[k]? = w.heap[k]? := fun k _ hn => Below.heap_setCell _ _ _ _ (by simpa using hn)
  refine ⟨cur.setIfInBounds i u, by simp [World.setCell, Array.getElem?_modify, h1], by simpa using h2, fun j hj => ?_⟩
  rw [List.length_set] at hj
  rw [getD_set_l _ _ _ _ hi]
  by_cases e : j = i
  · subst e
    rw [if_pos rfl]
    exact ⟨u, by rw [Array.getElem?_setIfInBounds]; simp; omega, hr.near hn hk, hn⟩
  · rw [if_neg e]
    obtain ⟨v, hv, hrv, hnv⟩ := h3 j hj
    exact ⟨v, by rw [Array.getElem?_setIfInBounds, if_neg (fun h => e h.symm)]; exact hv, hrv.near hnv hk, hnv⟩
theorem Rows.rm {T : TypeId} {w : World} {B g : Nat} {ls : List (List Int)} (h : Rows T w B g ls) {c : Nat} (hc : ls.length ≤ c) (hm : ls.length ≤ 17592186043904) : Rm w (.slice (some ⟨g, 0, none⟩) ls.length c) ls := by
  refine .inr ⟨g, 0, c, rfl, hc, hm, fun i hi => ?_⟩
  obtain ⟨u, hu, hr, _⟩ := h.cell hi
  exact ⟨u, by rw [Nat.zero_add]; exact hu, hr⟩
/-- A row of slices that the call made by appending: its values. -/
theorem Rows.of_owns {T : TypeId} {w : World} {B0 B : Nat} {v : Value} {vs : List Value} {ls : List (List Int)} (h : w.ownsRow B0 T 1 v vs.length vs) (hl : vs.length = ls.length) (h0 : 0 < vs.length) :
    ∃ g c, v = .slice (some ⟨g, 0, none⟩) ls.length c ∧ ls.length ≤ c ∧ B0 ≤ g ∧ ((∀ i, i < ls.length → ∃ u, vs[i]? = some u ∧ Ri w u (ls.getD i []) ∧ Near B g u (ls.getD i [])) → Rows T w B g ls) := by
  rcases h.2 with ⟨rfl, h2⟩ | ⟨g, c, cur, rfl, hg, r1, r2, r3, r4, r5⟩
  · omega
  · refine ⟨g, c, by rw [hl], by omega, hg, fun hr => ⟨cur, r1, by omega, fun i hi => ?_⟩⟩
    obtain ⟨u, hu, a, b⟩ := hr i hi
    refine ⟨u, ?_, a, b⟩
    have e := congrArg (fun l => l[i]?) r5
    simp only [List.getElem?_take] at e
    rw [if_pos (by omega)] at e
    rw [← Array.getElem?_toList, e]
    exact hu
end Go.Proofs.Ytfddcmapjnkhhaa
