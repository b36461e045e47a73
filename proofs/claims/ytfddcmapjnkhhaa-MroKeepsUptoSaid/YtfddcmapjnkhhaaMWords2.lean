/- Layer 19: words for what MroKeeps does behind its copies. -/
import Derived.Test.YtfddcmapjnkhhaaMWords
namespace Go.Proofs.Ytfddcmapjnkhhaa
open Go.ChangeShapes Go.WideShapes Go.RowKit
set_option linter.unusedVariables false
set_option linter.unusedSimpArgs false
theorem rm_of_own {w : World} {B : Nat} {ov : Value} {ls : List (List Int)} {vs : List Value} (h : w.ownsRow B TI 1 ov ls.length vs) (hr : ∀ i, i < ls.length → Ri w (vs.getD i nilS) (ls.getD i [])) (hm : ls.length ≤ 17592186043904) : Rm w ov ls := by
  have hl : vs.length = ls.length := by have := h.1; omega
  rcases h.2 with ⟨rfl, h2⟩ | ⟨g, c, cur, rfl, hg, r1, r2, r3, r4, r5⟩
  · exact .inl ⟨none, by simp, by cases ls with | nil => rfl | cons a r => simp at h2⟩
  · refine .inr ⟨g, 0, c, rfl, by omega, by omega, fun i hi => ?_⟩
    refine ⟨vs.getD i nilS, ?_, hr i hi⟩
    have e := congrArg (fun l => l[i]?) r5
    simp only [List.getElem?_take] at e
    rw [if_pos (by omega)] at e
    rw [Array.getElem?_toList] at e
    simp [World.cell?, r1, e, List.getD_eq_getElem?_getD, List.getElem?_eq_getElem (show i < vs.length by omega)]
theorem own_cell {w : World} {B g n c : Nat} {T : TypeId} {xs : List Value} (h : w.ownsRow B T 1 (.slice (some ⟨g, 0, none⟩) n c) n xs) {i : Nat} {u : Value} (hi : xs[i]? = some u) : w.cell? ⟨g, i, none⟩ = some u := by
  rcases h.2 with ⟨e, _⟩ | ⟨g', cap, cur, e, _, r1, r2, r3, r4, r5⟩
  · cases e
  · simp only [Value.slice.injEq, Option.some.injEq, Addr.mk.injEq] at e
    obtain ⟨⟨rfl, _⟩, _, rfl⟩ := e
    have hl := h.1
    have hin := (List.getElem?_eq_some_iff.1 hi).1
    have e2 := congrArg (fun l => l[i]?) r5
    simp only [List.getElem?_take] at e2
    rw [if_pos (by omega), Array.getElem?_toList, hi] at e2
    simp [World.cell?, r1, e2]
theorem own_frozen {w : World} {B g n c : Nat} {T : TypeId} {xs : List Value} (h : w.ownsRow B T 1 (.slice (some ⟨g, 0, none⟩) n c) n xs) (i : Nat) : w.frozen? ⟨g, i, none⟩ = false := by
  rcases h.2 with ⟨e, _⟩ | ⟨g', cap, cur, e, _, r1, r2, r3, r4, r5⟩
  · cases e
  · simp only [Value.slice.injEq, Option.some.injEq, Addr.mk.injEq] at e
    obtain ⟨⟨rfl, _⟩, _, rfl⟩ := e
    simp [World.frozen?, r1]
theorem own_set {w : World} {B g n c : Nat} {T : TypeId} {xs : List Value} (h : w.ownsRow B T 1 (.slice (some ⟨g, 0, none⟩) n c) n xs) (i : Nat) (u : Value) (hi : i < n) : (w.setCell ⟨g, i, none⟩ u).ownsRow B T 1 (.slice (some ⟨g, 0, none⟩) n c) n (xs.set i u) := by
  refine ⟨by rw [List.length_set]; exact h.1, ?_⟩
  rcases h.2 with ⟨e, _⟩ | ⟨g', cap, cur, e, hB, r1, r2, r3, r4, r5⟩
  · cases e
  · simp only [Value.slice.injEq, Option.some.injEq, Addr.mk.injEq] at e
    obtain ⟨⟨rfl, _⟩, _, rfl⟩ := e
    refine .inr ⟨g, c, cur.setIfInBounds i u, rfl, hB, by simp [World.setCell, Array.getElem?_modify, r1], r2, r3, by simpa using r4, ?_⟩
    rw [Array.toList_setIfInBounds, ← r5, List.take_set]
theorem own_only {w w' : World} {B n g : Nat} {T : TypeId} {v : Value} {xs : List Value} (h : w.ownsRow B T 1 v n xs) (ho : Only g w w') (hg : g < B) : w'.ownsRow B T 1 v n xs := by
  refine ⟨h.1, ?_⟩
  rcases h.2 with h2 | ⟨g2, cap, cur2, h3, h4, r1, r2⟩
  · exact .inl h2
  · exact .inr ⟨g2, cap, cur2, h3, h4, (ho.other g2 (Array.getElem?_eq_some_iff.1 r1).1 (by omega)).trans r1, r2⟩
theorem own_grownM {w w' : World} {B n : Nat} {T : TypeId} {v : Value} {xs : List Value} {row : Option Nat} (h : w.ownsRow B T 1 v n xs) (ho : w.grownBy w' row) (hg : ∀ g, row = some g → g < B) : w'.ownsRow B T 1 v n xs := by
  refine ⟨h.1, ?_⟩
  rcases h.2 with h2 | ⟨g2, cap, cur2, h3, h4, r1, r2⟩
  · exact .inl h2
  · exact .inr ⟨g2, cap, cur2, h3, h4, (ho.block g2 (Array.getElem?_eq_some_iff.1 r1).1 (fun e => by have := hg g2 e.symm; omega)).trans r1, r2⟩
theorem TabE.keep {E : World → Value → List Int → Prop} (hE : ∀ w w' u l, IntKept w w' → E w u l → E w' u l) {w w' : World} {B : Nat} {ov : Value} {ls : List (List Int)} {vs : List Value} (h : TabE E w B ov ls vs) (hb : Below w.heap.size w w') : TabE E w' B ov ls vs :=
  ⟨own_belowT h.own hb, fun i hi => hE _ _ _ _ (IntKept.below hb) (h.ent i hi)⟩
theorem Ent2.ri {w : World} {B : Nat} {u : Value} {l : List Int} (h : Ent2 w B u l) (hl : l.length ≤ 17592186043904) : Ri w u l := by
  obtain ⟨g, c, rfl, hc, ho⟩ := h
  refine .inr ⟨g, 0, c, rfl, by omega, hl, fun i hi => ?_⟩
  rw [Nat.zero_add]
  refine own_cell ho ?_
  rw [List.getElem?_append_left (by simpa using hi), List.getElem?_map, List.getElem?_eq_getElem hi, List.getD_eq_getElem?_getD, List.getElem?_eq_getElem hi]
  rfl
/-- What lies below A, and from B on, is as it was. -/
structure Mid (A B : Nat) (w w' : World) : Prop where
  os : w'.os = w.os
  tape : w'.tape = w.tape
  output : w'.output = w.output
  size : w.heap.size ≤ w'.heap.size
  other : ∀ k, k < w.heap.size → (k < A ∨ B ≤ k) → w'.heap[k]? = w.heap[k]?
theorem Mid.refl (A B : Nat) (w : World) : Mid A B w w := ⟨rfl, rfl, rfl, Nat.le_refl _, fun _ _ _ => rfl⟩
theorem Mid.setCell {A B g i : Nat} {w w' : World} (h : Mid A B w w') (hA : A ≤ g) (hB : g < B) (v : Value) : Mid A B w (w'.setCell ⟨g, i, none⟩ v) :=
  ⟨h.os, h.tape, h.output, by simpa [World.setCell] using h.size, fun k hk hn => by rw [Below.heap_setCell _ _ _ _ (by simp; omega)]; exact h.other k hk hn⟩
theorem Mid.below {A B : Nat} {w w' : World} (h : Mid A B w w') (hA : A ≤ w.heap.size) : Below A w w' := ⟨h.os, h.tape, h.output, h.size, fun k hk => h.other k (by omega) (.inl hk)⟩
theorem Mid.own {A B n : Nat} {w w' : World} {T : TypeId} {v : Value} {xs : List Value} (ho : Mid A B w w') (h : w.ownsRow B T 1 v n xs) : w'.ownsRow B T 1 v n xs := by
  refine ⟨h.1, ?_⟩
  rcases h.2 with h2 | ⟨g2, cap, cur2, h3, h4, r1, r2⟩
  · exact .inl h2
  · exact .inr ⟨g2, cap, cur2, h3, h4, (ho.other g2 (Array.getElem?_eq_some_iff.1 r1).1 (.inr h4)).trans r1, r2⟩
/-- The first k of a row of n numbers are -3. -/
def dones (k : Nat) (l : List Int) : List Value := List.replicate k (.int .i64 (-3)) ++ (l.drop k).map (Value.int .i64)
theorem dones_zero (l : List Int) : dones 0 l = l.map (Value.int .i64) := by simp [dones]
theorem dones_set {k : Nat} {l : List Int} (hk : k < l.length) : (dones k l).set k (.int .i64 (-3)) = dones (k + 1) l := by
  unfold dones
  rw [List.set_append_right _ _ (by simp), List.length_replicate, Nat.sub_self, List.drop_eq_getElem_cons hk, List.map_cons, List.set_cons_zero, List.replicate_succ', List.append_assoc]
  rfl
theorem dones_full {l : List Int} : dones l.length l = List.replicate l.length (.int .i64 (-3)) := by simp [dones]
theorem dones_get {k : Nat} {l : List Int} (hk : k < l.length) : (dones k l)[k]? = some (.int .i64 (l.getD k 0)) := by
  unfold dones
  rw [List.getElem?_append_right (by simp), List.length_replicate, Nat.sub_self, List.getElem?_map, List.getElem?_drop, Nat.add_zero, List.getElem?_eq_getElem hk, List.getD_eq_getElem?_getD, List.getElem?_eq_getElem hk]
  rfl
theorem quiet_at {P : Program} {f : FuncId} {args : Array Value} {w : World} {a b : Nat} {v : Value}
    (h : Calls P f args (w.drewN (a + b)) fun e w' => e = .returned v ∧ ∃ m, w' = (w.drewN (a + b)).drewN m) : Calls P f args (w.drewN (a + b)) fun e w'' => e = .returned v ∧ ∃ m, w'' = w.drewN (a + m) :=
  h.mono fun _ _ ⟨he, m, hm⟩ => ⟨he, b + m, by rw [hm, World.drewN_drewN, Nat.add_assoc]⟩
theorem ones_three (a b c : Int) : ∀ u ∈ (#[Value.int .i64 a, Value.int .i64 b, Value.int .i64 c]).toList, u.oneCell' = true := fun u hu => by
  simp at hu
  rcases hu with rfl | rfl | rfl <;> rfl
theorem ord_pos {bs : List (List Int)} {c : Int} : ∀ x ∈ ordL bs c, 0 ≤ x := fun x hx => by
  by_cases h : ordE bs c = 0
  · obtain ⟨h0, _, _, hf, ho⟩ := orde_parts h
    exact ((ord_ok hf _ _ _ h0 rfl ho).lo x hx).1
  · rw [ordL_bad h] at hx
    simp at hx
set_option maxRecDepth 100000 in
set_option maxHeartbeats 1000000 in
theorem sameints_q (v1 v2 : Value) (l : List Int) (w : World) (h1 : Ri w v1 l) (h2 : Ri w v2 l) :
    Calls Try.prog 9 #[v1, v2] w fun e w' => e = .returned (.bool true) ∧ ∃ q, w' = w.drewN q := by
  obtain ⟨p1, c1, rfl, _, hm, hp1⟩ := ri_form h1
  obtain ⟨p2, c2, rfl, _, _, hp2⟩ := ri_form h2
  have HP1 := Lib.hid hp1
  have HP2 := Lib.hid hp2
  clear h1 h2 hp1 hp2
  go_enter Try.func9, Try.ntmps9
  go_wp2_with fail
  go_loopw [5] (fun s wr => ∃ k q : Nat, s = .int .i64 k ∧ k ≤ l.length ∧ wr = w.drewN q) (fun s _ => l.length - (intOf s).toNat)
  case atStart => exact ⟨0, 0, by go_num, Nat.zero_le _, rfl⟩
  case round =>
    obtain ⟨k, q, rfl, hk, rfl⟩ := hrel
    by_cases hlt : k < l.length
    · obtain ⟨b1, o1, rfl, e1⟩ := HP1.out (by omega)
      obtain ⟨b2, o2, rfl, e2⟩ := HP2.out (by omega)
      have f1 := e1 k hlt
      have f2 := e2 k hlt
      generalize l.getD k 0 = x at f1 f2
      have hlz : (k : Int) < (l.length : Int) := by omega
      clear e1 e2
      go_wp2_with fail
      go_quiet (fail)
      go_wp2_with fail
      go_roundw
      case rel => exact ⟨k + 1, _, by go_num, by omega, rfl⟩
      case measure => simp [intOf]; omega
    · go_wp2_with fail
      go_ret
      exact ⟨rfl, q, rfl⟩
end Go.Proofs.Ytfddcmapjnkhhaa
