/- Layer 19: what is known of the orders ('Kn'), the lists that are put together ('LTab'). -/
import Derived.Test.YtfddcmapjnkhhaaMMerge
namespace Go.Proofs.Ytfddcmapjnkhhaa
open Go.ChangeShapes Go.WideShapes Go.RowKit
set_option linter.unusedVariables false
set_option linter.unusedSimpArgs false
theorem cell_only {m : Nat} {w w' : World} {a : Addr} {v : Value} (h : Only m w w') (hm : IsMapAt w m) (hc : w.cell? a = some v) : w'.cell? a = some v := by
  have hn : a.block ≠ m := by
    intro e
    obtain ⟨es, cl, hm⟩ := hm
    subst e
    simp [World.cell?, hm] at hc
  rw [World.cell?_of_block (a := a) (h.other a.block (World.block_lt_of_cell? w _ hc) hn)]
  exact hc
theorem Ri.only {m : Nat} {w w' : World} {v : Value} {ws : List Int} (h : Only m w w') (hm : IsMapAt w m) (hr : Ri w v ws) : Ri w' v ws := by
  rcases hr with h0 | ⟨b', off, c, rfl, h1, h2, h3⟩
  · exact .inl h0
  · exact .inr ⟨b', off, c, rfl, h1, h2, fun i hi => cell_only h hm (h3 i hi)⟩
theorem Rm.only {m : Nat} {w w' : World} {v : Value} {ls : List (List Int)} (h : Only m w w') (hm : IsMapAt w m) (hr : Rm w v ls) : Rm w' v ls := by
  rcases hr with h0 | ⟨b', off, c, rfl, h1, h2, h3⟩
  · exact .inl h0
  · refine .inr ⟨b', off, c, rfl, h1, h2, fun i hi => ?_⟩
    obtain ⟨u, hu, hr⟩ := h3 i hi
    exact ⟨u, cell_only h hm hu, hr.only h hm⟩
theorem Only.turn {m : Nat} {w w' w2 : World} (h : Only m w w') (ht : Turn m w' w2) : Only m w w2 :=
  ⟨ht.os.trans h.os, ht.tape.trans h.tape, ht.output.trans h.output, Nat.le_trans h.size (Nat.le_of_eq ht.size.symm), fun k hk hn => (ht.other k hn).trans (h.other k hk hn)⟩
theorem Only.grown {m : Nat} {w w' : World} (h : Only m w w') : w.grownBy w' (some m) := ⟨h.os, h.tape, h.output, h.size, fun k hk hn => h.other k hk (fun e => hn (by rw [e]))⟩
/-- How many of the first n are there. -/
def cntK (n : Nat) (f : Int → Option Value) : Nat := (List.range n).countP fun i : Nat => (f (i : Int)).isSome
theorem cntK_le (n : Nat) (f : Int → Option Value) : cntK n f ≤ n := by
  have := List.countP_le_length (p := fun i : Nat => (f (i : Int)).isSome) (l := List.range n)
  simpa [cntK] using this
theorem cntK_succ (n : Nat) (f : Int → Option Value) : cntK (n + 1) f = cntK n f + (if (f (n : Int)).isSome then 1 else 0) := by
  unfold cntK
  rw [List.range_succ, List.countP_append, List.countP_singleton]
theorem cntK_congr {f g : Int → Option Value} : ∀ (n : Nat), (∀ i : Nat, i < n → (f (i : Int)).isSome = (g (i : Int)).isSome) → cntK n f = cntK n g
  | 0, _ => rfl
  | n + 1, h => by rw [cntK_succ, cntK_succ, cntK_congr n fun i hi => h i (by omega), h n (by omega)]
theorem cntK_put {f : Int → Option Value} {x : Nat} {v : Value} (hf : f (x : Int) = none) : ∀ (n : Nat), x < n → cntK n (fun y => if y = (x : Int) then some v else f y) = cntK n f + 1
  | 0, h => by omega
  | n + 1, h => by
    rw [cntK_succ, cntK_succ]
    by_cases e : x = n
    · subst e
      rw [cntK_congr (f := fun y => if y = (x : Int) then some v else f y) (g := f) x (fun i hi => by rw [if_neg (by omega)])]
      simp [hf]
    · rw [cntK_put hf n (by omega), if_neg (show ¬ (n : Int) = (x : Int) by omega)]
      omega
/-- It reads as l, and its block holds ints. -/
def Rt (w : World) (u : Value) (l : List Int) : Prop := Ri w u l ∧ ∀ b off s n c, u = .slice (some ⟨b, off, s⟩) n c → ∃ cur, w.heap[b]? = some (.cells cur 3 (0, 0))
theorem Rt.keep {w w' : World} {u : Value} {l : List Int} (h : Rt w u l) (hb : Below w.heap.size w w') : Rt w' u l :=
  ⟨h.1.keep hb, fun b off s n c e => by obtain ⟨cur, hc⟩ := h.2 b off s n c e; exact ⟨cur, (hb.block b (Array.getElem?_eq_some_iff.1 hc).1).trans hc⟩⟩
theorem Rt.only {m : Nat} {w w' : World} {v : Value} {ws : List Int} (h : Only m w w') (hm : IsMapAt w m) (hr : Rt w v ws) : Rt w' v ws :=
  ⟨hr.1.only h hm, fun b off s n c e => by
    obtain ⟨cur, hc⟩ := hr.2 b off s n c e
    refine ⟨cur, (h.other b (Array.getElem?_eq_some_iff.1 hc).1 ?_).trans hc⟩
    rintro rfl
    obtain ⟨es, cl, hm⟩ := hm
    rw [hm] at hc
    simp at hc⟩
theorem Only.ofTurn {m : Nat} {w w' : World} (ht : Turn m w w') : Only m w w' := (Only.refl m w).turn ht
structure Kn (P : Program) (k : TypeId) (w : World) (m : Nat) (bs : List (List Int)) (f : Int → Option Value) : Prop where
  map : MapF P k w m (cntK bs.length f) f
  ent : ∀ x u, f x = some u → ∃ l, ord bs x = some l ∧ 0 ≤ x ∧ Rt w u l
theorem Kn.below {P : Program} {k : TypeId} {w w' : World} {m : Nat} {bs : List (List Int)} {f : Int → Option Value} (h : Kn P k w m bs f) (hb : Below w.heap.size w w') : Kn P k w' m bs f :=
  ⟨h.map.below hb, fun x u hx => by obtain ⟨l, h1, h2, h3⟩ := h.ent x u hx; exact ⟨l, h1, h2, h3.keep hb⟩⟩
/-- One more order is known. -/
theorem Kn.put {P : Program} {k : TypeId} {w w' : World} {m : Nat} {bs : List (List Int)} {f : Int → Option Value} (h : Kn P k w m bs f) {c : Nat} {l : List Int} {u : Value} (hf : f (c : Int) = none) (hc : c < bs.length) (ho : ord bs (c : Int) = some l) (hr : Rt w u l)
    (hM : MapF P k w' m (cntK bs.length f + 1) (fun y => if y = (c : Int) then some u else f y)) (ht : Turn m w w') : Kn P k w' m bs (fun y => if y = (c : Int) then some u else f y) := by
  refine ⟨by rw [cntK_put hf _ hc]; exact hM, fun x v hx => ?_⟩
  by_cases e : x = (c : Int)
  · subst e
    simp only [if_true, Option.some.injEq] at hx
    subst hx
    exact ⟨l, ho, by omega, hr.only (Only.ofTurn ht) h.map.isMap⟩
  · simp only [if_neg e] at hx
    obtain ⟨l, h1, h2, h3⟩ := h.ent x v hx
    exact ⟨l, h1, h2, h3.only (Only.ofTurn ht) h.map.isMap⟩
def AwayL (u : Value) (g : Option Nat) (l : List Int) : Prop := l ≠ [] → ∀ b off s n c, u = .slice (some ⟨b, off, s⟩) n c → some b ≠ g
theorem Ri.blk {w w' : World} {v : Value} {ws : List Int} (h : Ri w v ws) (hb : ws ≠ [] → ∀ b off n c, v = .slice (some ⟨b, off, none⟩) n c → b < w.heap.size → w'.heap[b]? = w.heap[b]?) : Ri w' v ws := by
  rcases h with h | ⟨b, off, c, rfl, h1, h2, h3⟩
  · exact .inl h
  · refine .inr ⟨b, off, c, rfl, h1, h2, fun i hi => ?_⟩
    exact (World.cell?_of_block (a := ⟨b, off + i, none⟩) (hb (by intro e; subst e; simp at hi) _ _ _ _ rfl (World.block_lt_of_cell? w _ (h3 i hi)))).trans (h3 i hi)
/-- The lists so far, as the row holds them. -/
structure LTab (w : World) (B0 : Nat) (ov : Value) (ls : List (List Int)) (vs : List Value) : Prop where
  own : w.ownsRow B0 TI 1 ov ls.length vs
  ent : ∀ i, i < ls.length → Ri w (vs.getD i nilS) (ls.getD i []) ∧ AwayL (vs.getD i nilS) ov.ownBlock (ls.getD i [])
theorem LTab.len {w : World} {B0 : Nat} {ov : Value} {ls : List (List Int)} {vs : List Value} (h : LTab w B0 ov ls vs) : vs.length = ls.length := by have := h.own.1; omega
theorem LTab.nil (w : World) (B0 : Nat) : LTab w B0 (.slice none 0 0) [] [] := ⟨World.ownsRow_nil w B0 TI 1, fun i hi => by simp at hi⟩
theorem LTab.notmap {w : World} {B0 m : Nat} {ov : Value} {ls : List (List Int)} {vs : List Value} (h : LTab w B0 ov ls vs) (hm : IsMapAt w m) : ov.ownBlock ≠ some m := by
  obtain ⟨es, cl, hm⟩ := hm
  rcases h.own.2 with ⟨rfl, _⟩ | ⟨g, cap, cur, rfl, _, r1, _⟩
  · intro e; simp [Value.ownBlock] at e
  · intro e
    have e2 : some g = some m := e
    simp only [Option.some.injEq] at e2
    subst e2
    rw [hm] at r1
    simp at r1
theorem LTab.only {w w' : World} {B0 m : Nat} {ov : Value} {ls : List (List Int)} {vs : List Value} (h : LTab w B0 ov ls vs) (ho : Only m w w') (hm : IsMapAt w m) : LTab w' B0 ov ls vs :=
  ⟨World.ownsRow.kept h.own ho.grown (Or.inr (h.notmap hm)), fun i hi => ⟨(h.ent i hi).1.only ho hm, (h.ent i hi).2⟩⟩
theorem ri_blk_lt {w : World} {v : Value} {ws : List Int} (h : Ri w v ws) (hl : ws ≠ []) {b off n c : Nat} {s : Option _} (e : v = .slice (some ⟨b, off, s⟩) n c) : b < w.heap.size := by
  rcases h with ⟨p, rfl, rfl⟩ | ⟨b', off', c', rfl, h1, h2, h3⟩
  · exact absurd rfl hl
  · simp only [Value.slice.injEq, Option.some.injEq, Addr.mk.injEq] at e
    obtain ⟨⟨rfl, rfl, rfl⟩, _, _⟩ := e
    have hp : 0 < ws.length := by cases ws with | nil => exact absurd rfl hl | cons a r => simp
    exact World.block_lt_of_cell? w _ (h3 0 hp)
theorem getD_snoc_l {α : Type} {vs : List α} {u d : α} {i : Nat} (hi : i < vs.length) : (vs ++ [u]).getD i d = vs.getD i d := by
  simp only [List.getD_eq_getElem?_getD]; rw [List.getElem?_append_left hi]
theorem getD_snoc_r {α : Type} {vs : List α} {u d : α} : (vs ++ [u]).getD vs.length d = u := by simp [List.getD_eq_getElem?_getD]
/-- An order lies in no row of lists. -/
theorem LTab.away {w : World} {B0 : Nat} {ov : Value} {ls : List (List Int)} {vs : List Value} {u : Value} {l : List Int} (h : LTab w B0 ov ls vs) (hr : Rt w u l) : AwayL u ov.ownBlock l := by
  intro _ b off s n c e
  obtain ⟨cur, hc⟩ := hr.2 b off s n c e
  rcases h.own.2 with ⟨rfl, _⟩ | ⟨g, cap, cur2, rfl, _, r1, _⟩
  · intro e2; simp [Value.ownBlock] at e2
  · intro e2
    have e3 : some b = some g := e2
    simp only [Option.some.injEq] at e3
    subst e3
    rw [hc] at r1
    simp only [Option.some.injEq, Obj.cells.injEq] at r1
    exact absurd r1.2.1 (by decide)
/-- One more list behind an append. -/
theorem LTab.snoc {w w1 w2 : World} {B0 : Nat} {ov ov' : Value} {ls : List (List Int)} {vs : List Value} {u : Value} {l : List Int} (h : LTab w B0 ov ls vs) (hown : w2.ownsRow B0 TI 1 ov' (ls.length + 1) (vs ++ [u]))
    (hb : Below w.heap.size w w1) (hg : w1.grownBy w2 ov.ownBlock) (hat : ov'.ownBlock = ov.ownBlock ∨ ov'.ownBlock = some w1.heap.size) (hu : Ri w1 u l) (hua : AwayL u ov.ownBlock l) : LTab w2 B0 ov' (ls ++ [l]) (vs ++ [u]) := by
  have hl := h.len
  have step : ∀ {v : Value} {o : List Int}, Ri w1 v o → AwayL v ov.ownBlock o → Ri w2 v o ∧ AwayL v ov'.ownBlock o := fun {v o} hr ha => by
    refine ⟨hr.blk fun hne b off n c e hlt => hg.block b hlt (ha hne b off none n c e), fun hne b off s n c e => ?_⟩
    rcases hat with hat | hat
    · rw [hat]; exact ha hne b off s n c e
    · rw [hat]; have := ri_blk_lt hr hne e; simp; omega
  refine ⟨by rw [List.length_append, List.length_singleton]; exact hown, fun i hi => ?_⟩
  by_cases e : i < ls.length
  · rw [getD_snoc_l (by omega), getD_snoc_l e]
    exact step ((h.ent i e).1.keep hb) (h.ent i e).2
  · obtain rfl : i = ls.length := by rw [List.length_append, List.length_singleton] at hi; omega
    rw [getD_snoc_r, ← hl, getD_snoc_r]
    exact step hu hua
theorem LTab.notint {w : World} {B0 b : Nat} {ov : Value} {ls : List (List Int)} {vs : List Value} {cur : Array Value} (h : LTab w B0 ov ls vs) (hc : w.heap[b]? = some (.cells cur 3 (0, 0))) : some b ≠ ov.ownBlock := by
  rcases h.own.2 with ⟨rfl, _⟩ | ⟨g, cap, cur2, rfl, _, r1, _⟩
  · intro e2; simp [Value.ownBlock] at e2
  · intro e2
    have e3 : some b = some g := e2
    simp only [Option.some.injEq] at e3
    subst e3
    rw [hc] at r1
    simp only [Option.some.injEq, Obj.cells.injEq] at r1
    exact absurd r1.2.1 (by decide)
theorem Rt.lrow {w w' : World} {B0 : Nat} {ov : Value} {ls : List (List Int)} {vs : List Value} {u : Value} {l : List Int} (hr : Rt w u l) (hT : LTab w B0 ov ls vs) (hk : ∀ k, k < w.heap.size → some k ≠ ov.ownBlock → w'.heap[k]? = w.heap[k]?) : Rt w' u l :=
  ⟨hr.1.blk fun _ b off n c e hlt => by obtain ⟨cur, hc⟩ := hr.2 b off none n c e; exact hk b hlt (hT.notint hc), fun b off s n c e => by
    obtain ⟨cur, hc⟩ := hr.2 b off s n c e
    exact ⟨cur, (hk b (Array.getElem?_eq_some_iff.1 hc).1 (hT.notint hc)).trans hc⟩⟩
theorem Kn.lrow {P : Program} {k : TypeId} {w w' : World} {m B0 : Nat} {bs : List (List Int)} {f : Int → Option Value} {ov : Value} {ls : List (List Int)} {vs : List Value} (h : Kn P k w m bs f) (hT : LTab w B0 ov ls vs) (hk : ∀ k, k < w.heap.size → some k ≠ ov.ownBlock → w'.heap[k]? = w.heap[k]?) : Kn P k w' m bs f :=
  ⟨h.map.keep (hk m h.map.lt (fun e => hT.notmap h.map.isMap e.symm)), fun x u hx => by obtain ⟨l, h1, h2, h3⟩ := h.ent x u hx; exact ⟨l, h1, h2, h3.lrow hT hk⟩⟩
theorem own_low {w w1 : World} {o : Obj} {B B0 : Nat} {T : TypeId} {v : Value} {n : Nat} {xs : List Value} (h : w.ownsRow B T 1 v n xs) (hg : (w.alloc o).grownBy w1 v.ownBlock) (hB : B0 ≤ B) (hw : B0 ≤ w.heap.size) : Below B0 w w1 := by
  have hl := World.ownsRow.lt h
  have hb : ∀ x, v.ownBlock = some x → B0 ≤ x := fun x hx => by
    rcases h.2 with ⟨rfl, _⟩ | ⟨g, cap, cur2, rfl, hgB, r1, _⟩
    · simp [Value.ownBlock] at hx
    · have e3 : some g = some x := hx
      simp only [Option.some.injEq] at e3
      omega
  exact ((Below.refl B0 w).alloc hw o).grown hg (Nat.le_trans hw ((Below.refl B0 w).alloc hw o).size) (fun x hx => by first | exact hb x hx | exact hb x hx.symm)
theorem grown_old {w w1 : World} {o : Obj} {row : Option Nat} (hg : (w.alloc o).grownBy w1 row) : ∀ k, k < w.heap.size → some k ≠ row → w1.heap[k]? = w.heap[k]? := fun k hk hne =>
  (hg.block k (by simp; omega) hne).trans (heap_alloc_old w o hk)
theorem LTab.rm {w : World} {B0 : Nat} {ov : Value} {ls : List (List Int)} {vs : List Value} (h : LTab w B0 ov ls vs) (hm : ls.length ≤ 1000) : Rm w ov ls := by
  have hl := h.len
  rcases h.own.2 with ⟨rfl, h2⟩ | ⟨g, c, cur, rfl, hg, r1, r2, r3, r4, r5⟩
  · exact .inl ⟨none, by simp, by cases ls with | nil => rfl | cons a r => simp at h2⟩
  · refine .inr ⟨g, 0, c, rfl, by omega, by omega, fun i hi => ?_⟩
    refine ⟨vs.getD i nilS, ?_, (h.ent i hi).1⟩
    have e := congrArg (fun l => l[i]?) r5
    simp only [List.getElem?_take] at e
    rw [if_pos (by omega)] at e
    rw [Array.getElem?_toList] at e
    simp [World.cell?, r1, e, List.getD_eq_getElem?_getD, List.getElem?_eq_getElem (show i < vs.length by omega)]
end Go.Proofs.Ytfddcmapjnkhhaa
