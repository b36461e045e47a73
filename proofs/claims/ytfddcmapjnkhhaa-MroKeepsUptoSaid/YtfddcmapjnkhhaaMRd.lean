/- Reading a slice of ints ('Ri') and a slice of such slices ('Rm'); maps from ints to any values ('MapF'). Nothing of the program is imported. -/
import Derived.Test.YtfddcmapjnkhhaaOwn
import Derived.Maps.Own
import Derived.Maps.OwnSet
import Derived.Maps.Views
import Derived.Maps.Keyed
namespace Go.Proofs.Ytfddcmapjnkhhaa
open Go.RowKit
set_option linter.unusedSimpArgs false
set_option linter.unusedVariables false
def Ri (w : World) (v : Value) (ds : List Int) : Prop :=
  (∃ p : Option Addr, v = .slice p 0 0 ∧ ds = []) ∨ ∃ b off c, v = .slice (some ⟨b, off, none⟩) ds.length c ∧ ds.length ≤ c ∧ ds.length ≤ 17592186043904 ∧
    ∀ i, i < ds.length → w.cell? ⟨b, off + i, none⟩ = some (.int .i64 (ds.getD i 0))
theorem Ri.keep {w w' : World} {v : Value} {ws : List Int} (h : Ri w v ws) (hb : Below w.heap.size w w') : Ri w' v ws := by
  rcases h with h | ⟨b, off, c, rfl, h1, h2, h3⟩
  · exact .inl h
  · exact .inr ⟨b, off, c, rfl, h1, h2, fun i hi => below_cell hb (h3 i hi)⟩
theorem ri_form {w : World} {u : Value} {ws : List Int} (h : Ri w u ws) : ∃ p c, u = .slice p ws.length c ∧ ws.length ≤ c ∧ ws.length ≤ 17592186043904 ∧
    (0 < ws.length → ∃ b off, p = some ⟨b, off, none⟩ ∧ ∀ i, i < ws.length → w.cell? ⟨b, off + i, none⟩ = some (.int .i64 (ws.getD i 0))) := by
  rcases h with ⟨p, rfl, rfl⟩ | ⟨b, off, c, rfl, h1, h2, h3⟩
  · exact ⟨p, 0, rfl, by simp, by simp, fun h => by simp at h⟩
  · exact ⟨_, c, rfl, h1, h2, fun _ => ⟨b, off, rfl, h3⟩⟩
theorem Ri.nil (w : World) : Ri w (.slice none 0 0) [] := .inl ⟨none, rfl, rfl⟩
theorem Ri.len {w : World} {v : Value} {ws : List Int} (h : Ri w v ws) : ws.length ≤ 17592186043904 := by
  obtain ⟨_, _, _, _, h, _⟩ := ri_form h
  exact h
theorem Mine.ri {T : TypeId} {w : World} {ws : List Int} {B0 : Nat} {u : Value} (h : Mine .i64 T w B0 u ws) (hl : ws.length ≤ 17592186043904) : Ri w u ws := by
  rcases h with ⟨rfl, rfl⟩ | ⟨g, c, cur, h0, h1, h2, h3, h4, h5⟩
  · exact .inl ⟨_, rfl, rfl⟩
  · refine .inr ⟨g, 0, c, h0, h1, hl, fun i hi => ?_⟩
    rw [Nat.zero_add]
    simp [World.cell?, h4, h5 i hi]
/-- What is read of it stays where its block stays. -/
theorem Ri.block {w w' : World} {v : Value} {ws : List Int} (h : Ri w v ws) (hb : ∀ b off c n, v = .slice (some ⟨b, off, none⟩) n c → w'.heap[b]? = w.heap[b]?) : Ri w' v ws := by
  rcases h with h | ⟨b, off, c, rfl, h1, h2, h3⟩
  · exact .inl h
  · exact .inr ⟨b, off, c, rfl, h1, h2, fun i hi => (World.cell?_of_block (a := ⟨b, off + i, none⟩) (hb _ _ _ _ rfl)).trans (h3 i hi)⟩
theorem tail_getD (ws : List Int) (i : Nat) : ws.tail.getD i 0 = ws.getD (i + 1) 0 := by cases ws <;> simp
/-- What is left behind the first one. -/
theorem Ri.tail {w : World} {p : Option Addr} {n c : Nat} {ws : List Int} (h : Ri w (.slice p n c) ws) (hn : 0 < n) (o' : Nat) {b off : Nat} (hp : p = some ⟨b, off, none⟩) (ho : 1 < c → o' = off + 1) :
    Ri w (.slice (some ⟨b, o', none⟩) (n - 1) (c - 1)) ws.tail := by
  rcases h with ⟨p0, h, rfl⟩ | ⟨b', off', c', h0, h1, h2, h3⟩
  · simp only [Value.slice.injEq] at h; omega
  · simp only [Value.slice.injEq] at h0
    obtain ⟨h0, rfl, rfl⟩ := h0
    rw [hp] at h0
    simp only [Option.some.injEq, Addr.mk.injEq, and_true] at h0
    obtain ⟨rfl, rfl⟩ := h0
    refine .inr ⟨b, o', c - 1, by rw [List.length_tail], by rw [List.length_tail]; omega, by rw [List.length_tail]; omega, fun i hi => ?_⟩
    rw [List.length_tail] at hi
    rw [tail_getD, ho (by omega), Nat.add_assoc, Nat.add_comm 1 i]
    exact h3 (i + 1) (by omega)
def Rm (w : World) (v : Value) (ls : List (List Int)) : Prop :=
  (∃ p : Option Addr, v = .slice p 0 0 ∧ ls = []) ∨ ∃ b off c, v = .slice (some ⟨b, off, none⟩) ls.length c ∧ ls.length ≤ c ∧ ls.length ≤ 17592186043904 ∧
    ∀ i, i < ls.length → ∃ u, w.cell? ⟨b, off + i, none⟩ = some u ∧ Ri w u (ls.getD i [])
theorem Rm.keep {w w' : World} {v : Value} {ls : List (List Int)} (h : Rm w v ls) (hb : Below w.heap.size w w') : Rm w' v ls := by
  rcases h with h | ⟨b, off, c, rfl, h1, h2, h3⟩
  · exact .inl h
  · refine .inr ⟨b, off, c, rfl, h1, h2, fun i hi => ?_⟩
    obtain ⟨u, hu, hr⟩ := h3 i hi
    exact ⟨u, below_cell hb hu, hr.keep hb⟩
theorem rm_form {w : World} {u : Value} {ls : List (List Int)} (h : Rm w u ls) : ∃ p c, u = .slice p ls.length c ∧ ls.length ≤ c ∧ ls.length ≤ 17592186043904 ∧
    (0 < ls.length → ∃ b off, p = some ⟨b, off, none⟩ ∧ ∀ i, i < ls.length → ∃ u, w.cell? ⟨b, off + i, none⟩ = some u ∧ Ri w u (ls.getD i [])) := by
  rcases h with ⟨p, rfl, rfl⟩ | ⟨b, off, c, rfl, h1, h2, h3⟩
  · exact ⟨p, 0, rfl, by simp, by simp, fun h => by simp at h⟩
  · exact ⟨_, c, rfl, h1, h2, fun _ => ⟨b, off, rfl, h3⟩⟩
theorem Rm.nil (w : World) : Rm w (.slice none 0 0) [] := .inl ⟨none, rfl, rfl⟩

/-! ### Maps from ints to any values -/
def Rv (v : Value) : Option (DataW Value × List MemPlace) := some (.held v, [])
def wfI (k : Int) : Prop := (Lit.int .i64 k).wf = true
theorem wfI_of {k : Int} (h : -9223372036854775808 ≤ k ∧ k ≤ 9223372036854775807) : wfI k := by
  unfold wfI Lit.wf
  simp only [Bool.and_eq_true, decide_eq_true_eq]
  exact ⟨by show (-9223372036854775808 : Int) ≤ k; omega, by show k ≤ (9223372036854775807 : Int); omega⟩
/-- Block b alone may have turned. -/
structure Turn (b : Nat) (w w' : World) : Prop where
  os : w'.os = w.os
  tape : w'.tape = w.tape
  output : w'.output = w.output
  size : w'.heap.size = w.heap.size
  other : ∀ k, k ≠ b → w'.heap[k]? = w.heap[k]?
theorem Turn.below {b B : Nat} {w w' : World} (h : Turn b w w') (hb : B ≤ b) : Below B w w' :=
  ⟨h.os, h.tape, h.output, by rw [h.size]; exact Nat.le_refl _, fun k hk => h.other k (by omega)⟩
theorem Turn.of {b : Nat} {w w' : World} (h : w.mapTurned w' b) : Turn b w w' := by
  obtain ⟨es, clock, es', clock', hb, rfl⟩ := h
  refine ⟨rfl, rfl, rfl, by simp [ChangeMaps.setBlock], fun k hk => ?_⟩
  simp only [ChangeMaps.setBlock]
  rw [Array.getElem?_setIfInBounds]
  rw [if_neg (Ne.symm hk)]
def IsMapAt (w : World) (b : Nat) : Prop := ∃ es clock, w.heap[b]? = some (.map es clock)
theorem cell_turn {b : Nat} {w w' : World} {a : Addr} {v : Value} (h : Turn b w w') (hm : IsMapAt w b) (hc : w.cell? a = some v) : w'.cell? a = some v := by
  have hn : a.block ≠ b := by
    intro e
    obtain ⟨es, cl, hm⟩ := hm
    subst e
    simp [World.cell?, hm] at hc
  rw [World.cell?_of_block (a := a) (h.other a.block hn)]
  exact hc
theorem Ri.turn {b : Nat} {w w' : World} {v : Value} {ws : List Int} (h : Turn b w w') (hm : IsMapAt w b) (hr : Ri w v ws) : Ri w' v ws := by
  rcases hr with h0 | ⟨b', off, c, rfl, h1, h2, h3⟩
  · exact .inl h0
  · exact .inr ⟨b', off, c, rfl, h1, h2, fun i hi => cell_turn h hm (h3 i hi)⟩
theorem Rm.turn {b : Nat} {w w' : World} {v : Value} {ls : List (List Int)} (h : Turn b w w') (hm : IsMapAt w b) (hr : Rm w v ls) : Rm w' v ls := by
  rcases hr with h0 | ⟨b', off, c, rfl, h1, h2, h3⟩
  · exact .inl h0
  · refine .inr ⟨b', off, c, rfl, h1, h2, fun i hi => ?_⟩
    obtain ⟨u, hu, hr⟩ := h3 i hi
    exact ⟨u, cell_turn h hm hu, hr.turn h hm⟩
def MapF (P : Program) (k : TypeId) (w : World) (b n : Nat) (f : Int → Option Value) : Prop :=
  ∃ D : DataW Value, w.ownsMap P k Rv b n D ∧ ∀ x, wfI x → Maps.has D (.int .i64 x) = (f x).isSome ∧ ∀ z, D.atKey (.int .i64 x) (.held z) = .held ((f x).getD z)
section
variable {P : Program} {k e t : TypeId} {w : World} {b n : Nat} {f : Int → Option Value}
theorem MapF.isMap (h : MapF P k w b n f) : IsMapAt w b := by
  obtain ⟨D, ⟨es, clock, hb, _⟩, _⟩ := h
  exact ⟨es, clock, hb⟩
theorem MapF.made (w : World) : MapF P k (w.alloc (.map #[] 0)) w.heap.size 0 (fun _ => none) :=
  ⟨.map [], World.ownsMap_made w P k Rv, fun x _ => ⟨rfl, fun z => rfl⟩⟩
theorem MapF.mono (h : MapF P k w b n f) {m : Nat} (hm : n ≤ m) : MapF P k w b m f := by
  obtain ⟨D, h1, h2⟩ := h
  exact ⟨D, h1.mono hm, h2⟩
theorem MapF.lt (h : MapF P k w b n f) : b < w.heap.size := by
  obtain ⟨D, h1, _⟩ := h
  exact h1.lt
theorem MapF.keep {w' : World} (h : MapF P k w b n f) (hb : w'.heap[b]? = w.heap[b]?) : MapF P k w' b n f := by
  obtain ⟨D, ⟨es, clock, hb', r⟩, h2⟩ := h
  exact ⟨D, ⟨es, clock, hb.trans hb', r⟩, h2⟩
theorem MapF.below {w' : World} (h : MapF P k w b n f) (hb : Below w.heap.size w w') : MapF P k w' b n f := h.keep (hb.block b h.lt)
theorem MapF.congr {g : Int → Option Value} (h : MapF P k w b n f) (hg : ∀ x, wfI x → g x = f x) : MapF P k w b n g := by
  obtain ⟨D, h1, h2⟩ := h
  exact ⟨D, h1, fun x hx => by rw [hg x hx]; exact h2 x hx⟩
variable (hk : P.underlying k = some (.int .i64)) (ht : P.underlying t = some (.map k e))
include hk ht
theorem MapF.get (h : MapF P k w b n f) {z : Value} (hz : (zeroValue e).run P w = .ok z w) {x : Int} (hx : wfI x) :
    (Instr.lookup t (.map (some b)) (.int .i64 x) false).run P w = .ok ((f x).getD z) w := by
  obtain ⟨D, h1, h2⟩ := h
  obtain ⟨v, ps, hrun, hv⟩ := h1.lookup (Maps.int_keyed hk) ht hz (zd := .held z) (zp := []) rfl (Maps.keyOf_int_mk hk hx)
  rw [(h2 x hx).2 z] at hv
  simp only [Rv, Option.some.injEq, Prod.mk.injEq, DataW.held.injEq] at hv
  rw [hrun, hv.1]
theorem MapF.getok (h : MapF P k w b n f) {z : Value} (hz : (zeroValue e).run P w = .ok z w) {x : Int} (hx : wfI x) :
    (Instr.lookup t (.map (some b)) (.int .i64 x) true).run P w = .ok (.tuple #[(f x).getD z, .bool (f x).isSome]) w := by
  obtain ⟨D, h1, h2⟩ := h
  obtain ⟨v, ps, hrun, hv⟩ := h1.look_ok (Maps.int_keyed hk) ht hz (zd := .held z) (zp := []) rfl (Maps.keyOf_int_mk hk hx)
  rw [(h2 x hx).2 z] at hv
  simp only [Rv, Option.some.injEq, Prod.mk.injEq, DataW.held.injEq] at hv
  rw [hrun, hv.1, (h2 x hx).1]
theorem MapF.put (h : MapF P k w b n f) (hn : n < maxLen) {x : Int} (hx : wfI x) (v : Value) :
    ∃ w', (Instr.mapUpdate t (.map (some b)) (.int .i64 x) v).run P w = .ok () w' ∧ MapF P k w' b (n + 1) (fun y => if y = x then some v else f y) ∧ Turn b w w' := by
  obtain ⟨D, h1, h2⟩ := h
  have hm := h1.isMap
  obtain ⟨w', hrun, h3, h4⟩ := h1.store (Maps.int_keyed hk) ht hn (Maps.keyOf_int_mk hk hx) (val := v) (d := .held v) (ps := []) rfl
  refine ⟨w', hrun, ⟨_, h3, fun y hy => ?_⟩, Turn.of h4⟩
  by_cases e : y = x
  · subst e
    simp only [if_true]
    exact ⟨Maps.has_put_same (k := .int .i64 y) hm trivial _, fun z => Maps.atKey_put_same (k := .int .i64 y) hm trivial _ _⟩
  · simp only [if_neg e]
    have hne : (Lit.int .i64 y) ≠ (Lit.int .i64 x) := fun h => e (by cases h; rfl)
    rw [Maps.has_put_other hne]
    exact ⟨(h2 y hy).1, fun z => by rw [Maps.atKey_put_other hne]; exact (h2 y hy).2 z⟩
end
end Go.Proofs.Ytfddcmapjnkhhaa
