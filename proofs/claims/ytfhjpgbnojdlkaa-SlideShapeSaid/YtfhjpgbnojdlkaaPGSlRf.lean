/- A queue of words: a window of a row of the call's own; what is taken off its front, what is appended. And a row of bools, one for each number. Layer 14, the document's Reach: looking again and again. -/
import Derived.Test.YtfhjpgbnojdlkaaPGSlK
import Derived.ArgAppend
import Derived.Test.YtfhjpgbnojdlkaaPGSlCl
import Derived.Test.YtfhjpgbnojdlkaaPRefAt
namespace Go.Proofs.Ytfhjpgbnojdlkaa
section
open Go Go.ChangeShapes Go.WideShapes Go.ChangeAt Go.RowKit
set_option linter.unusedVariables false
set_option linter.unusedSimpArgs false
def Qu (w : World) (B : Nat) (v : Value) (xs : List Int) : Prop :=
  (∃ p, v = .slice p 0 0 ∧ xs = []) ∨ ∃ g off c cur, v = .slice (some ⟨g, off, none⟩) xs.length c ∧ B ≤ g ∧ w.heap[g]? = some (.cells cur 46 (0, 0)) ∧ xs.length ≤ c ∧ off + c ≤ cur.size ∧ ∀ i, i < xs.length → cur[off + i]? = some (.int .u64 (xs.getD i 0))
theorem Qu.form {w : World} {B : Nat} {v : Value} {xs : List Int} (h : Qu w B v xs) : ∃ p c, v = .slice p xs.length c ∧ xs.length ≤ c := by
  rcases h with ⟨p, rfl, rfl⟩ | ⟨g, off, c, cur, rfl, _, _, h1, _⟩
  · exact ⟨p, 0, rfl, Nat.le_refl _⟩
  · exact ⟨_, c, rfl, h1⟩
theorem Qu.keep {w w' : World} {B : Nat} {v : Value} {xs : List Int} (h : Qu w B v xs) (hb : Below w.heap.size w w') : Qu w' B v xs := by
  rcases h with h | ⟨g, off, c, cur, rfl, h1, h2, h3⟩
  · exact .inl h
  · exact .inr ⟨g, off, c, cur, rfl, h1, (hb.block g (Array.getElem?_eq_some_iff.1 h2).1).trans h2, h3⟩
theorem Qu.off {w w' : World} {B : Nat} {v : Value} {xs : List Int} (h : Qu w B v xs) (hb : ∀ g, B ≤ g → w'.heap[g]? = w.heap[g]?) : Qu w' B v xs := by
  rcases h with h | ⟨g, off, c, cur, rfl, h1, h2, h3⟩
  · exact .inl h
  · exact .inr ⟨g, off, c, cur, rfl, h1, (hb g h1).trans h2, h3⟩
theorem Qu.nz {w : World} {B : Nat} {v : Value} {xs : List Int} (h : Qu w B v xs) (h0 : 0 < xs.length) : ∃ g off c, v = .slice (some ⟨g, off, none⟩) xs.length c ∧ B ≤ g ∧ xs.length ≤ c ∧ ∀ i, i < xs.length → w.cell? ⟨g, off + i, none⟩ = some (.int .u64 (xs.getD i 0)) := by
  rcases h with ⟨p, rfl, rfl⟩ | ⟨g, off, c, cur, rfl, h1, h2, h3, h4, h5⟩
  · simp at h0
  · exact ⟨g, off, c, rfl, h1, h3, fun i hi => by simp [World.cell?, h2, h5 i hi]⟩
/-- The first one is taken off. -/
theorem Qu.pop {w : World} {B g off c : Nat} {x : Int} {xs : List Int} (h : Qu w B (.slice (some ⟨g, off, none⟩) (xs.length + 1) c) (x :: xs)) {o' : Nat} (ho : 1 < c → o' = off + 1) : Qu w B (.slice (some ⟨g, o', none⟩) xs.length (c - 1)) xs := by
  rcases h with ⟨p, _, h⟩ | ⟨g', off', c', cur, hv, h1, h2, h3, h4, h5⟩
  · cases h
  · injection hv with e1 e2 e3
    injection e1 with e1
    injection e1 with e1 e4
    subst e1; subst e3; subst e4
    simp only [List.length_cons] at h3 h5
    rcases Nat.lt_or_ge 1 c with hc | hc
    · obtain rfl := ho hc
      exact .inr ⟨g, off + 1, c - 1, cur, rfl, h1, h2, by omega, by omega, fun i hi => by
        have := h5 (i + 1) (by omega)
        rw [show off + 1 + i = off + (i + 1) by omega, this]
        rfl⟩
    · obtain rfl : c = 1 := by omega
      obtain rfl : xs = [] := List.eq_nil_of_length_eq_zero (by omega)
      exact .inl ⟨_, rfl, rfl⟩
theorem setCells_heap {g : Nat} : ∀ (news : List Value) (o : Nat) (w : World) (cur : Array Value) (T : TypeId), w.heap[g]? = some (.cells cur T (0, 0)) → o + news.length ≤ cur.size →
    ∃ cur', (w.setCells g o news).heap[g]? = some (.cells cur' T (0, 0)) ∧ cur'.size = cur.size ∧ (∀ i, i < news.length → cur'[o + i]? = news[i]?) ∧ ∀ i, i < o ∨ o + news.length ≤ i → cur'[i]? = cur[i]? := by
  intro news
  induction news with
  | nil => intro o w cur T h hl; exact ⟨cur, h, rfl, fun i hi => by simp at hi, fun _ _ => rfl⟩
  | cons v r ih =>
    intro o w cur T h hl
    simp only [List.length_cons] at hl
    have h1 : (w.setCell ⟨g, o, none⟩ v).heap[g]? = some (.cells (cur.setIfInBounds o v) T (0, 0)) := by
      simp [World.setCell, Array.getElem?_modify, h]
    obtain ⟨cur', e1, e2, e3, e4⟩ := ih (o + 1) (w.setCell ⟨g, o, none⟩ v) _ T h1 (by simp; omega)
    refine ⟨cur', e1, by simpa using e2, fun i hi => ?_, fun i hi => ?_⟩
    · cases i with
      | zero =>
        rw [Nat.add_zero, e4 o (by omega), Array.getElem?_setIfInBounds]
        simp; omega
      | succ i =>
        have := e3 i (by simpa using hi)
        rw [show o + (i + 1) = o + 1 + i by omega, this]; rfl
    · simp only [List.length_cons] at hi
      rw [e4 i (by omega), Array.getElem?_setIfInBounds, if_neg (by omega)]
theorem setCells_below {B g : Nat} (hB : B ≤ g) : ∀ (news : List Value) (o : Nat) (w : World), Below B w (w.setCells g o news) := by
  intro news
  induction news with
  | nil => intro o w; exact Below.refl _ _
  | cons v r ih => intro o w; exact ((Below.refl B w).setCell hB v).trans (ih (o + 1) _)
/-- What an append leaves. -/
structure QuP (W w' : World) (B : Nat) (v' : Value) (xs : List Int) : Prop where
  qu : Qu w' B v' xs
  below : Below B W w'
theorem run_qu {w : World} {B : Nat} {v x : Value} {m : Nat} {xs ns : List Int} {ty : TypeId} (hq : Qu w B v xs) (hs : Src w x m (ns.map (Value.int .u64))) (h63 : (xs.length + m) * 8 ≤ 140737488355328) (hB : B ≤ w.heap.size) :
    ∃ v' w', (Builtin.append_ #[22, 22] ty #[v, x]).run Try.prog w = .ok v' w' ∧ QuP w w' B v' (xs ++ ns) := by
  obtain ⟨i, hi, hzz⟩ := Option.map_eq_some_iff.1 (infoU64 : (Try.prog.info? 46).map (fun i => (i.zero, i.size, i.bytes)) = some (some (.int .u64 0), 1, 8))
  simp only [Prod.mk.injEq] at hzz
  obtain ⟨hz, hsz, hb⟩ := hzz
  have ht := Try.underlying22
  obtain ⟨hl, hsrc⟩ := hs
  have hnl : ns.length = m := by simpa using hl
  have hone : ∀ u ∈ ns.map (Value.int .u64), u.oneCell' = true := one_cells ns
  have grown : ∀ v' w', w'.ownsRow w.heap.size 46 1 v' (xs.length + m) (xs.map (Value.int .u64) ++ ns.map (Value.int .u64)) → w.grownBy w' none → QuP w w' B v' (xs ++ ns) := fun v' w' ho hg => by
    refine ⟨?_, (Below.refl B w).grown hg hB (fun q hq => by cases hq)⟩
    rcases ho.2 with ⟨rfl, h0⟩ | ⟨g, cap, cur, rfl, hgb, r1, r2, r3, r4, r5⟩
    · refine .inl ⟨none, rfl, ?_⟩
      exact List.eq_nil_of_length_eq_zero (by rw [List.length_append]; omega)
    · rw [Nat.mul_one] at r4 r5
      refine .inr ⟨g, 0, cap, cur, by rw [List.length_append, hnl], by omega, r1, by rw [List.length_append, hnl]; exact r2, by omega, fun j hj => ?_⟩
      rw [List.length_append, hnl] at hj
      have e : (cur.toList.take (xs.length + m))[j]? = ((xs ++ ns).map (Value.int .u64))[j]? := by rw [r5, List.map_append]
      rw [List.getElem?_take, if_pos hj, Array.getElem?_toList, List.getElem?_map, List.getElem?_eq_getElem (by rw [List.length_append]; omega)] at e
      rw [Nat.zero_add, e, List.getD_eq_getElem?_getD, List.getElem?_eq_getElem (by rw [List.length_append]; omega)]
      rfl
  rcases hsrc with ⟨rfl, rfl⟩ | ⟨ad, c, rfl, hc⟩
  · obtain rfl : ns = [] := List.eq_nil_of_length_eq_zero hnl
    rw [List.append_nil]
    obtain ⟨p, c, rfl, hle⟩ := hq.form
    refine ⟨_, w, ?_, hq, Below.refl _ _⟩
    cases p <;> simp [Builtin.append_, run_underlying ht, sizeOf, typeInfo, hi, Builtin.lenOf, hle, Builtin.firstCells, storeCells]
  · rcases hq with ⟨p, rfl, rfl⟩ | ⟨g, off, cap, cur, rfl, h1, h2, h3, h4, h5⟩
    · rcases Nat.eq_zero_or_pos m with h0 | h0
      · subst h0
        obtain rfl : ns = [] := List.eq_nil_of_length_eq_zero hnl
        have hfc := run_firstCells_some (P := Try.prog) w i.size 0 ad 0 c [] (by simp) (by simp)
        refine ⟨.slice p 0 0, w, ?_, .inl ⟨p, rfl, rfl⟩, Below.refl _ _⟩
        cases p <;> simp [Builtin.append_, run_underlying ht, sizeOf, typeInfo, hi, Builtin.lenOf, hfc, storeCells]
      · cases p with
        | none =>
          obtain ⟨v', w', hr, ho, hg, _, _⟩ := run_append_own_at (P := Try.prog) (w := w) w.heap.size 22 ty 46 i (.int .u64 0) 1 8 ht hi hz hsz hb rfl (by decide) _ 0 [] (World.ownsRow_nil w _ _ _) ad m c (ns.map (Value.int .u64)) (by omega) hc hone (by unfold maxLen; simp at h63; omega) (by simp at h63; omega) (Nat.le_refl _)
          refine ⟨v', w', hr, grown v' w' (by simpa using ho) ?_⟩
          exact hg
        | some b =>
          obtain ⟨v', w', hr, ho, hg⟩ := run_append_arg_grows (P := Try.prog) w 22 ty 46 i (.int .u64 0) 1 8 ht hi hz hsz hb rfl (by decide) b 0 0 [] rfl (by simp) ad m c (ns.map (Value.int .u64)) (by omega) hc (by omega) (by unfold maxLen; simp at h63; omega) (by simp at h63; omega)
          exact ⟨v', w', hr, grown v' w' (by simpa using ho) hg⟩
    · have hcell : ∀ i, i < xs.length → w.cell? ⟨g, off + i, none⟩ = some (.int .u64 (xs.getD i 0)) := fun i hi => by simp [World.cell?, h2, h5 i hi]
      rcases Nat.lt_or_ge cap (xs.length + m) with hr | hr
      · obtain ⟨v', w', hrun, ho, hg⟩ := run_append_arg_grows (P := Try.prog) w 22 ty 46 i (.int .u64 0) 1 8 ht hi hz hsz hb rfl (by decide) ⟨g, off, none⟩ xs.length cap (xs.map (Value.int .u64)) (by simp) (fun j u hj => by
            have hj' : j < xs.length := by
              rw [List.getElem?_eq_some_iff] at hj
              simpa using hj.1
            rw [show (⟨g, off, none⟩ : Addr).add j = ⟨g, off + j, none⟩ by unfold Addr.add; split <;> simp_all, hcell j hj']
            rw [List.getElem?_map, List.getElem?_eq_getElem hj'] at hj
            simp only [Option.map_some, Option.some.injEq] at hj
            rw [← hj, List.getD_eq_getElem?_getD, List.getElem?_eq_getElem hj']
            rfl) ad m c (ns.map (Value.int .u64)) (by omega) hc hr (by unfold maxLen; omega) h63
        exact ⟨v', w', hrun, grown v' w' ho hg⟩
      · have hsome : ∀ q, q < cur.size → (w.cell? ⟨g, q, none⟩).isSome = true := fun q hq => by simp [World.cell?, h2, hq]
        have hfz : ∀ q, w.frozen? ⟨g, q, none⟩ = false := fun q => by simp [World.frozen?, h2]
        have hrun := run_append_room_cells (P := Try.prog) w 22 ty 46 i ht hi g off xs.length cap ad m c (ns.map (Value.int .u64)) (by rw [hsz]; simpa using hl) hc hone hr (fun j hj => hsome _ (by rw [List.length_map] at hj; rw [hsz]; omega)) (fun j hj => hfz _)
        rw [hsz, Nat.mul_one] at hrun
        obtain ⟨cur', e1, e2, e3, e4⟩ := setCells_heap (ns.map (Value.int .u64)) (off + xs.length) w cur 46 h2 (by rw [List.length_map]; omega)
        have hgl := (Array.getElem?_eq_some_iff.1 h2).1
        refine ⟨_, _, hrun, .inr ⟨g, off, cap, cur', by rw [List.length_append, hnl], h1, e1, by rw [List.length_append, hnl]; exact hr, by omega, fun j hj => ?_⟩, ?_⟩
        · rw [List.length_append, hnl] at hj
          rcases Nat.lt_or_ge j xs.length with h | h
          · rw [e4 (off + j) (by omega), h5 j h, List.getD_eq_getElem?_getD, List.getD_eq_getElem?_getD, List.getElem?_append_left h]
          · have := e3 (j - xs.length) (by rw [List.length_map]; omega)
            rw [show off + xs.length + (j - xs.length) = off + j by omega] at this
            rw [this, List.getElem?_map, List.getD_eq_getElem?_getD, List.getElem?_append_right h, List.getElem?_eq_getElem (by omega)]
            rfl
        · exact setCells_below h1 _ _ _
theorem wpList_qu {ops : Array Oper} {rest : List Oper} {o : Oper} {a : Act} {Q : Exit → Act → World → Prop} {w : World} {B : Nat} {v x : Value} {m : Nat} {xs ns : List Int} (hgd : o.guard = none) (s y : Operand) (ho : o.op = .call { callee := .builtin .append, args := #[s, y], argTypes := #[22, 22] })
    (hv : a.eval s = v) (hx : a.eval y = x) (hq : Qu w B v xs) (hs : Src w x m (ns.map (Value.int .u64))) (h63 : (xs.length + m) * 8 ≤ 140737488355328) (hB : B ≤ w.heap.size)
    (h : ∀ v' w', QuP w w' B v' (xs ++ ns) → wpList Try.prog ops Q rest (a.put o.dst v') w') : wpList Try.prog ops Q (o :: rest) a w :=
  wpList_plain hgd fun _ hK => by
    obtain ⟨v', w', hr, h2⟩ := run_qu (ty := o.type) hq hs h63 hB
    unfold Oper.wp
    simp [execOp, ho, resolve, invoke, builtin, hv, hx, hr, Result.andThen]
    exact hK _ _ (h v' w' h2)
/-- Words read at an address and on, as what is appended. -/
theorem src_rd {w : World} {v : Value} {ns : List Int} (h : Rd w v ns) (h0 : 0 < ns.length ∨ v = .slice none 0 0) : Src w v ns.length (ns.map (Value.int .u64)) := by
  refine ⟨by simp, ?_⟩
  rcases h with ⟨p, rfl, rfl⟩ | ⟨b, off, c, rfl, _, _, hc⟩
  · rcases h0 with h0 | h0
    · simp at h0
    · exact .inl ⟨h0, rfl⟩
  · refine .inr ⟨_, c, rfl, fun j u hj => ?_⟩
    have hj' : j < ns.length := by
      rw [List.getElem?_eq_some_iff] at hj
      simpa using hj.1
    rw [show (⟨b, off, none⟩ : Addr).add j = ⟨b, off + j, none⟩ by unfold Addr.add; split <;> simp_all, hc j hj']
    rw [List.getElem?_map, List.getElem?_eq_getElem hj'] at hj
    simp only [Option.map_some, Option.some.injEq] at hj
    rw [← hj, List.getD_eq_getElem?_getD, List.getElem?_eq_getElem hj']
    rfl
theorem src_rd' {w : World} {p : Option Addr} {c : Nat} {ns : List Int} (h : Rd w (.slice p ns.length c) ns) (hp : p = none → ns.length = 0 ∧ c = 0) : Src w (.slice p ns.length c) ns.length (ns.map (Value.int .u64)) := by
  by_cases h0 : 0 < ns.length
  · exact src_rd h (.inl h0)
  · obtain rfl : ns = [] := List.eq_nil_of_length_eq_zero (by omega)
    cases p with
    | none => exact src_rd h (.inr (by rw [(hp rfl).2]; rfl))
    | some ad => exact ⟨by simp, .inr ⟨ad, c, rfl, fun j u hj => by simp at hj⟩⟩
/-! ### A row of bools -/
def BW (w : World) (g n : Nat) (N : Nat → Bool) : Prop := w.heap[g]? = some (.cells ((List.range n).map fun a => Value.bool (N a)).toArray 4 (0, 0))
theorem BW.lt {w : World} {g n : Nat} {N : Nat → Bool} (h : BW w g n N) : g < w.heap.size := (Array.getElem?_eq_some_iff.1 h).1
theorem BW.cell {w : World} {g n a : Nat} {N : Nat → Bool} (h : BW w g n N) (ha : a < n) : w.cell? ⟨g, a, none⟩ = some (.bool (N a)) := by
  unfold BW at h
  simp [World.cell?, h, ha]
theorem BW.frozen {w : World} {g n : Nat} {N : Nat → Bool} (h : BW w g n N) (a : Nat) : w.frozen? ⟨g, a, none⟩ = false := by
  unfold BW at h
  simp [World.frozen?, h]
theorem BW.of {w w' : World} {g n : Nat} {N : Nat → Bool} (h : BW w g n N) (e : w'.heap[g]? = w.heap[g]?) : BW w' g n N := e.trans h
theorem BW.keep {w w' : World} {g n : Nat} {N : Nat → Bool} (h : BW w g n N) (hb : Below w.heap.size w w') : BW w' g n N := h.of (hb.block _ h.lt)
theorem BW.set {w : World} {g n a : Nat} {N : Nat → Bool} (h : BW w g n N) : BW (w.setCell ⟨g, a, none⟩ (.bool true)) g n (addM N a) := by
  unfold BW at *
  have e : (w.setCell ⟨g, a, none⟩ (.bool true)).heap[g]? = some (.cells (((List.range n).map fun a => Value.bool (N a)).toArray.setIfInBounds a (.bool true)) 4 (0, 0)) := by
    simp [World.setCell, Array.getElem?_modify, h]
  rw [e]
  congr 2
  apply Array.ext_getElem?
  intro k
  rw [Array.getElem?_setIfInBounds]
  simp only [List.getElem?_toArray, List.size_toArray, List.length_map, List.length_range, List.getElem?_map]
  rcases Nat.lt_or_ge k n with hk | hk
  · rw [List.getElem?_range hk]
    simp only [Option.map_some]
    by_cases e2 : a = k
    · subst e2
      rw [if_pos rfl, if_pos hk]
      simp [addM]
    · rw [if_neg e2]
      simp [addM, Ne.symm e2]
  · rw [List.getElem?_eq_none (by simpa using hk)]
    split
    · rw [if_neg (by omega)]; rfl
    · rfl
theorem BW.made (w : World) (n : Nat) : BW (w.alloc (.cells (madeCells #[.bool false] n) 4)) w.heap.size n (fun _ => false) := by
  unfold BW
  refine (World.alloc_heap_new w _).trans ?_
  congr 2
  apply Array.ext_getElem?
  intro k
  rcases Nat.lt_or_ge k n with hk | hk
  · simp [madeCells, hk, Nat.mod_one]
  · simp [madeCells, hk]
/-- What a heap's object says of a number. -/
def noO (o : Option Obj) (a : Nat) : Bool := match o with
  | some (.cells cur _ _) => match cur[a]? with
    | some (.bool b) => b
    | _ => false
  | _ => false
theorem BW.no {w : World} {g n a : Nat} {N : Nat → Bool} (h : BW w g n N) (ha : a < n) : noO (w.heap[g]?) a = N a := by
  unfold BW at h
  rw [h]
  simp [noO, ha]
/-- What is still to be looked at. -/
def potN (l : List Nat) (T : Nat → Nat) (N : Nat → Bool) : Nat := (l.map fun a => if N a = true then 0 else T a + 1).sum
theorem potN_congr {l : List Nat} {T : Nat → Nat} {N N' : Nat → Bool} (h : ∀ a ∈ l, N a = N' a) : potN l T N = potN l T N' := by
  unfold potN
  congr 1
  exact List.map_congr_left fun a ha => by rw [h a ha]
theorem potN_add {T : Nat → Nat} {N : Nat → Bool} {b : Nat} : ∀ (l : List Nat), l.Nodup → b ∈ l → N b = false → potN l T (addM N b) + (T b + 1) = potN l T N := by
  intro l
  induction l with
  | nil => intro _ h; cases h
  | cons a l ih =>
    intro hn hb hf
    obtain ⟨h1, h2⟩ := List.nodup_cons.1 hn
    have e : ∀ N : Nat → Bool, potN (a :: l) T N = (if N a = true then 0 else T a + 1) + potN l T N := fun N => by unfold potN; rw [List.map_cons, List.sum_cons]
    rw [e, e]
    by_cases hab : a = b
    · subst hab
      have hc : potN l T (addM N a) = potN l T N := potN_congr fun x hx => by
        have : x ≠ a := fun e => h1 (e ▸ hx)
        simp [addM, this]
      rw [hc, if_pos (by simp [addM]), if_neg (by rw [hf]; simp)]; omega
    · rcases List.mem_cons.1 hb with h | h
      · exact absurd h.symm hab
      · have := ih h2 h hf
        have e2 : addM N b a = N a := by simp [addM, hab]
        rw [e2]; omega
/-! ### The search -/
/-- Words as they may lie on the list. -/
structure BF (ws : List Int) (l : List Nat) (rs : List Int) (N : Nat → Bool) (xs : List Int) : Prop where
  rch : ∀ a, N a = true → Rch ws rs a
  good : ∀ x ∈ xs, (0 ≤ x ∧ x ≤ 18446744073709551615) ∧ (kindOf x = 0 → Rch ws rs (x / 4).toNat)
  root : ∀ x ∈ rs, kindOf x = 0 → N (x / 4).toNat = true ∨ x ∈ xs
  step : ∀ a, N a = true → ∀ i ∈ adrP ws a (tgN ws a), N (ws.getD i 0 / 4).toNat = true ∨ ws.getD i 0 ∈ xs
theorem BF.start {ws : List Int} {l : List Nat} {rs : List Int} (hf : Fit rs) : BF ws l rs (fun _ => false) rs :=
  ⟨fun _ h => (by cases h), fun x hx => ⟨by obtain ⟨i, hi, rfl⟩ := List.getElem_of_mem hx; have := hf i; rwa [List.getD_eq_getElem?_getD, List.getElem?_eq_getElem hi] at this, fun h => .root hx h⟩, fun x hx _ => .inr hx, fun _ h => (by cases h)⟩
theorem BF.skip {ws : List Int} {l : List Nat} {rs : List Int} {N : Nat → Bool} {x : Int} {xs : List Int} (h : BF ws l rs N (x :: xs)) (hx : kindOf x = 0 → N (x / 4).toNat = true) (hadr : ∀ i, ∀ a, N a = true → i ∈ adrP ws a (tgN ws a) → kindOf (ws.getD i 0) = 0) : BF ws l rs N xs := by
  refine ⟨h.rch, fun y hy => h.good y (List.mem_cons_of_mem _ hy), fun y hy hk => ?_, fun a ha i hi => ?_⟩
  · rcases h.root y hy hk with h1 | h1
    · exact .inl h1
    · rcases List.mem_cons.1 h1 with rfl | h2
      · exact .inl (hx hk)
      · exact .inr h2
  · rcases h.step a ha i hi with h1 | h1
    · exact .inl h1
    · rcases List.mem_cons.1 h1 with h2 | h2
      · have := hadr i a ha hi
        rw [h2] at this ⊢
        exact .inl (hx this)
      · exact .inr h2
/-- The tagged words of an object. -/
def tagd (ws : List Int) (a : Nat) : List Int := (ws.drop (a + 2)).take (tgN ws a)
theorem tagd_mem {ws : List Int} {a i : Nat} (h : i ∈ adrP ws a (tgN ws a)) (hl : a + 2 + tgN ws a ≤ ws.length) : ws.getD i 0 ∈ tagd ws a := by
  obtain ⟨j, h1, rfl, _⟩ := adrP_mem.1 h
  unfold tagd
  refine List.mem_iff_getElem?.2 ⟨j, ?_⟩
  rw [List.getElem?_take, if_pos h1, List.getElem?_drop, List.getD_eq_getElem?_getD, List.getElem?_eq_getElem (by omega)]
  rfl
theorem tagd_of {ws : List Int} {a : Nat} {x : Int} (hx : x ∈ tagd ws a) : ∃ j, j < tgN ws a ∧ x = ws.getD (a + 2 + j) 0 := by
  obtain ⟨j, hj⟩ := List.mem_iff_getElem?.1 hx
  unfold tagd at hj
  rw [List.getElem?_take] at hj
  split at hj
  · rename_i h
    rw [List.getElem?_drop] at hj
    exact ⟨j, h, by rw [List.getD_eq_getElem?_getD, hj]; rfl⟩
  · cases hj
theorem BF.push {ws : List Int} {tn : Nat} {l : List Nat} {rs : List Int} {N : Nat → Bool} {x : Int} {xs : List Int} (h : BF ws l rs N (x :: xs)) (ho : Ob ws tn l) (hr : rs.all (rightW l) = true) {b : Nat} (hk : kindOf x = 0) (hb : (x / 4).toNat = b) : BF ws l rs (addM N b) (xs ++ tagd ws b) := by
  have hrb : Rch ws rs b := by rw [← hb]; exact (h.good x List.mem_cons_self).2 hk
  have hbl := Rch.mem ho hr hrb
  have hi := ho.in1 b hbl
  have hle := ho.le
  refine ⟨fun a ha => ?_, fun y hy => ?_, fun y hy hk2 => ?_, fun a ha i hia => ?_⟩
  · rcases addM_iff.1 ha with ha | rfl
    · exact h.rch a ha
    · exact hrb
  · rcases List.mem_append.1 hy with hy | hy
    · exact h.good y (List.mem_cons_of_mem _ hy)
    · obtain ⟨j, hj, rfl⟩ := tagd_of hy
      refine ⟨ho.fit _, fun hk3 => .step hrb ?_⟩
      unfold sucs
      exact List.mem_map.2 ⟨_, adrP_mem.2 ⟨j, hj, rfl, by have := kind_nat hk3; omega⟩, rfl⟩
  · rcases h.root y hy hk2 with h1 | h1
    · exact .inl (addM_iff.2 (.inl h1))
    · rcases List.mem_cons.1 h1 with rfl | h2
      · exact .inl (addM_iff.2 (.inr hb))
      · exact .inr (List.mem_append_left _ h2)
  · rcases addM_iff.1 ha with ha | rfl
    · rcases h.step a ha i hia with h1 | h1
      · exact .inl (addM_iff.2 (.inl h1))
      · rcases List.mem_cons.1 h1 with h2 | h2
        · rw [h2, hb]; exact .inl (addM_iff.2 (.inr rfl))
        · exact .inr (List.mem_append_left _ h2)
    · exact .inr (List.mem_append_right _ (tagd_mem hia (by omega)))
theorem BF.done {ws : List Int} {l : List Nat} {rs : List Int} {N : Nat → Bool} (h : BF ws l rs N []) (a : Nat) : N a = true ↔ Rch ws rs a := by
  refine ⟨h.rch a, fun hr => ?_⟩
  induction hr with
  | root hx hk => exact (h.root _ hx hk).resolve_right (by simp)
  | step h1 hb ih =>
    unfold sucs at hb
    obtain ⟨i, hi, rfl⟩ := List.mem_map.1 hb
    exact (h.step _ ih i hi).resolve_right (by simp)
/-- Filtering the numbers and filtering the objects is one. -/
theorem filt_range {l : List Nat} {N : Nat → Bool} {n : Nat} (hl : l.Pairwise (· < ·)) (hn : ∀ a ∈ l, a < n) (hs : ∀ a, N a = true → a ∈ l) : (List.range n).filter N = l.filter N := by
  have h1 : ((List.range n).filter N).Pairwise (· < ·) := List.Pairwise.filter _ List.pairwise_lt_range
  have h2 : (l.filter N).Pairwise (· < ·) := List.Pairwise.filter _ hl
  have hm : ∀ a, a ∈ (List.range n).filter N ↔ a ∈ l.filter N := fun a => by
    rw [List.mem_filter, List.mem_filter, List.mem_range]
    exact ⟨fun h => ⟨hs a h.2, h.2⟩, fun h => ⟨hn a h.1, h.2⟩⟩
  have ext : ∀ (xs ys : List Nat), xs.Pairwise (· < ·) → ys.Pairwise (· < ·) → (∀ a, a ∈ xs ↔ a ∈ ys) → xs = ys := by
    intro xs
    induction xs with
    | nil =>
      intro ys _ _ h
      cases ys with
      | nil => rfl
      | cons y ys => exact absurd ((h y).2 List.mem_cons_self) (by simp)
    | cons x xs ih =>
      intro ys hx hy h
      cases ys with
      | nil => exact absurd ((h x).1 List.mem_cons_self) (by simp)
      | cons y ys =>
        obtain ⟨x1, x2⟩ := List.pairwise_cons.1 hx
        obtain ⟨y1, y2⟩ := List.pairwise_cons.1 hy
        have e : x = y := by
          rcases List.mem_cons.1 ((h x).1 List.mem_cons_self) with e | e
          · exact e
          · rcases List.mem_cons.1 ((h y).2 List.mem_cons_self) with e2 | e2
            · exact e2.symm
            · have := y1 x e; have := x1 y e2; omega
        subst e
        congr 1
        refine ih ys x2 y2 fun a => ?_
        constructor
        · intro ha
          rcases List.mem_cons.1 ((h a).1 (List.mem_cons_of_mem _ ha)) with rfl | e2
          · have := x1 a ha; omega
          · exact e2
        · intro ha
          rcases List.mem_cons.1 ((h a).2 (List.mem_cons_of_mem _ ha)) with rfl | e2
          · have := y1 a ha; omega
          · exact e2
  exact ext _ _ h1 h2 hm
end
section
open Go Go.ChangeShapes Go.WideShapes Go.ChangeAt Go.RowKit
set_option linter.unusedVariables false
set_option linter.unusedSimpArgs false
theorem Qu.zero (w : World) (B : Nat) (p : Option Addr) : Qu w B (.slice p 0 0) [] := .inl ⟨p, rfl, rfl⟩
def sLen (v : Value) : Nat := match v with
  | .slice _ n _ => n
  | _ => 0
theorem at_obj {ws : List Int} {tn : Nat} {l : List Nat} (ho : Ob ws tn l) {a : Nat} (ha : a ∈ l) : headAt (ws.take tn) a = ws.getD a 0 := by
  have hi := ho.in1 a ha
  have hl := ho.le
  have hlen : (ws.take tn).length = tn := by rw [List.length_take]; omega
  unfold headAt
  rw [if_pos (by omega), Int.toNat_natCast, getD_take, if_pos (by omega)]
def rgN (N : Nat → Bool) (k : Nat) : List Int := ((List.range k).filter N).map fun n : Nat => (n : Int)
theorem rgN_yes {N : Nat → Bool} {k : Nat} (h : N k = true) : rgN N (k + 1) = rgN N k ++ [(k : Int)] := by
  unfold rgN
  rw [List.range_succ, List.filter_append, List.map_append, List.filter_cons_of_pos h]; rfl
theorem rgN_no {N : Nat → Bool} {k : Nat} (h : N k = false) : rgN N (k + 1) = rgN N k := by
  unfold rgN
  rw [List.range_succ, List.filter_append, List.map_append, List.filter_cons_of_neg (by simp [h])]; simp
theorem rgN_len (N : Nat → Bool) (k : Nat) : (rgN N k).length ≤ k := by
  unfold rgN
  rw [List.length_map]
  exact Nat.le_trans (List.length_filter_le _ _) (by rw [List.length_range]; omega)
/-- What the rounds of the search hold. -/
structure QR (ws : List Int) (l : List Nat) (rs : List Int) (pv : Value) (tn : Nat) (w : World) (N : Nat → Bool) (xs : List Int) (td : Value) (wr : World) : Prop where
  bf : BF ws l rs N xs
  m0 : wr.cell? ⟨w.heap.size, 0, none⟩ = some pv
  m1 : wr.cell? ⟨w.heap.size, 1, none⟩ = some (.int .i64 tn)
  bw : BW wr (w.heap.size + 1) tn N
  qu : Qu wr (w.heap.size + 2) td xs
  bel : Below w.heap.size w wr
  len : xs.length + potN l (tgN ws) N ≤ 4194304
theorem QR.keep {ws : List Int} {l : List Nat} {rs : List Int} {pv : Value} {tn : Nat} {w : World} {N : Nat → Bool} {xs : List Int} {td : Value} {wr w1 : World} (h : QR ws l rs pv tn w N xs td wr) (hb : Below wr.heap.size wr w1) : QR ws l rs pv tn w N xs td w1 :=
  ⟨h.bf, below_cell hb h.m0, below_cell hb h.m1, h.bw.keep hb, h.qu.keep hb, h.bel.trans (hb.mono h.bel.size), h.len⟩
theorem rf_w1 {b lo : Nat} (h : b + 2 = lo) (hl : lo ≤ 1048576) : IntKind.i64.wrap ((b : Int) + 2) = (lo : Int) := by rw [IntWalk.i64_in _ (by omega)]; omega
theorem rf_w2 {lo T : Nat} (h : lo + T ≤ 1048576) : IntKind.i64.wrap ((lo : Int) + (T : Int)) = (lo : Int) + (T : Int) := IntWalk.i64_in _ (by omega)
def RfPost (ws : List Int) (l : List Nat) (rs : List Int) (w : World) (e : Ending) (w' : World) : Prop :=
  ∃ u N, e = .returned u ∧ (∀ a, N a = true ↔ Rch ws rs a) ∧ OW .i64 3 w' w.heap.size u ((l.filter N).map fun n : Nat => (n : Int)) ∧ Below w.heap.size w w'
set_option maxRecDepth 100000 in
set_option maxHeartbeats 4000000 in
theorem rreach14_any {ws : List Int} {tn : Nat} {l : List Nat} (ho : Ob ws tn l) (v : Value) (w : World) (hr : Rd w v ws) (rv : Value) (rs : List Int) (hrr : Rd w rv rs) (hfr : Fit rs) (hyes : rs.all (rightW l) = true) (h1 : 1 ≤ tn) (hm : rs.length ≤ 1048576) (hpot : potN l (tgN ws) (fun _ => false) ≤ 1048576 + 1048576) :
    Calls Try.prog 15 #[.agg #[v, .int .i64 tn], rv] w (RfPost ws l rs w) := by
  have htl := ho.le
  have hmost := ho.most
  obtain ⟨pb, off, cv, rfl, hlc, hmv, hcell⟩ := hr.some (by omega)
  obtain ⟨pr, cr, rfl, hcr, hmr, hpr⟩ := rd_form hrr
  have hpn : pr = none → rs.length = 0 ∧ cr = 0 := fun e => by
    subst e
    rcases hrr with ⟨p, hv, rfl⟩ | ⟨b, o, c, hv, _⟩
    · injection hv with e1 e2 e3
      exact ⟨rfl, e3⟩
    · cases hv
  have HSRC := Lib.hid (fun (wx : World) (hb : Below w.heap.size w wx) => src_rd' (hrr.keep hb) hpn)
  have HC := Lib.hid hcell
  have HR := Lib.hid hr
  have HRR := Lib.hid hrr
  have HFR := Lib.hid hfr
  have HO := Lib.hid ho
  have HY := Lib.hid hyes
  have HP := Lib.hid hpot
  have hmk := run_make_row' (P := Try.prog) 82 4 (.bool false) 1 Try.underlying82 infoBool rfl .i64 .i64 tn (by omega) (by omega)
  clear hcell hr hrr hfr ho hyes hpot hpr
  go_enter Try.func15, Try.ntmps15
  clear hpn
  go_wp2_with (with_reducible refine wpList_qu (B := w.heap.size + 2) (xs := []) (ns := rs) (m := rs.length) rfl (.tmp 17) (.tmp 18) rfl rfl rfl (Qu.zero _ _ _) (HSRC.out _ (by ((repeat' (first | with_reducible assumption | with_reducible exact Below.refl _ _ | with_reducible refine Below.drew ?_ | with_reducible refine Below.alloc ?_ (by first | omega | (simp; omega) | (simp; done) | fail) _ | with_reducible refine Below.setCell ?_ (by first | omega | (simp; omega) | (simp; done) | fail) _ | fail)); (first | done | fail)))) (by rw [List.length_nil]; omega) (by first | (simp; done) | (simp; omega)) ?_; intro td w1 hqp)
  have HQ0 := Lib.hid (show QR ws l rs (.slice (some ⟨pb, off, none⟩) ws.length cv) tn w (fun _ => false) rs td w1 by
    have hb3 := hqp.below
    have hbb := BW.made (w.alloc (Obj.cells #[.slice (some ⟨pb, off, none⟩) ws.length cv, .int .i64 (tn : Int)] 24)) tn
    rw [World.size_alloc] at hbb
    refine ⟨BF.start HFR.out, ?_, ?_, ?_, hqp.qu, ?_, by have := HP.out; omega⟩
    · exact (World.cell?_of_block (a := ⟨w.heap.size, 0, none⟩) (hb3.block _ (by dsimp only; omega))).trans (alloc_cell (alloc_cell (by simp) _) _)
    · exact (World.cell?_of_block (a := ⟨w.heap.size, 1, none⟩) (hb3.block _ (by dsimp only; omega))).trans (alloc_cell (alloc_cell (by simp) _) _)
    · exact (hbb.keep ((Below.refl _ _).alloc (Nat.le_refl _) _)).of (hb3.block _ (by omega))
    · exact ((((Below.refl _ _).alloc (Nat.le_refl _) _).alloc (by simp) _).alloc (by simp; omega) _).trans ⟨hb3.os, hb3.tape, hb3.output, hb3.size, fun k hk => hb3.block k (by omega)⟩)
  clear hqp hmk
  go_loopw [6, 7, 8, 9, 10, 11] (fun td _ _ _ _ _ wr => ∃ N xs, QR ws l rs (.slice (some ⟨pb, off, none⟩) ws.length cv) tn w N xs td wr) (fun td _ _ _ _ _ wr => sLen td + potN l (tgN ws) (noO (wr.heap[w.heap.size + 1]?)))
  case atStart => exact ⟨_, _, HQ0.out⟩
  case round =>
    obtain ⟨N, xs, hq⟩ := hrel
    have HQ := Lib.hid hq
    obtain ⟨pt, ct, rfl, hct⟩ := hq.qu.form
    have m0 := hq.m0
    have m1 := hq.m1
    clear hq
    cases xs with
    | nil =>
      have hlz : ¬ (0 : Int) < 0 := by omega
      simp only [List.length_nil]
      go_wp2_with fail
      have HN := Lib.hid HQ.out.bf.done
      have HBW := Lib.hid HQ.out.bw
      have HBL := Lib.hid HQ.out.bel
      clear HQ
      obtain ⟨wA, rfl⟩ : ∃ wA : World, wA = wr := ⟨_, rfl⟩
      go_loopw [12, 13] (fun lv s wr => ∃ k : Nat, s = .int .i64 k ∧ k ≤ tn ∧ OW .i64 3 wr wA.heap.size lv (rgN N k) ∧ Below wA.heap.size wA wr) (fun _ s _ => tn - (intOf s).toNat)
      case atStart => exact ⟨0, by go_num, Nat.zero_le _, OW.nil _ _, Below.refl _ _⟩
      case round =>
        obtain ⟨k, rfl, hk, how, hbe⟩ := hrel
        have HOW := Lib.hid how
        have HBE := Lib.hid hbe
        have m1 := below_cell hbe m1
        obtain ⟨pl, cl, rfl⟩ := ow_form how
        have hln := rgN_len N k
        by_cases hlt : k < tn
        · have hlz : (k : Int) < (tn : Int) := Int.ofNat_lt.2 hlt
          have cb := (HBW.out.keep hbe).cell hlt
          clear how hbe
          cases hN : N k
          · rw [hN] at cb
            have HG := Lib.hid (rgN_no hN)
            clear hN
            go_wp2_with fail
            go_roundw
            case rel => exact ⟨k + 1, by go_num, hlt, by rw [HG.out]; exact HOW.out, HBE.out⟩
            case measure => exact mk_meas hlt
          · rw [hN] at cb
            have HG := Lib.hid (rgN_yes hN)
            clear hN
            have HOS := Lib.hid (show wr.ownsRow wA.heap.size 3 1 (.slice pl (rgN N k).length cl) (rgN N k).length ((rgN N k).map (Value.int .i64)) from HOW.out)
            generalize rgN N k = ys at *
            go_wp2_with (with_reducible refine wpList_app (t := 26) (e := 3) (z := .int .i64 0) (bytes := 8) (base := wA.heap.size) (n := ys.length) (m := 1) (xs := ys.map (Value.int .i64)) (news := [.int .i64 (k : Int)]) (v := .slice pl ys.length cl) (x := .slice (some ⟨wr.heap.size, 0, none⟩) 1 1) rfl (.tmp 72) (.tmp 74) rfl Try.underlying26 infoI64 rfl rfl (HOS.out.alloc _) rfl (src_one rfl) (by simp [Value.oneCell']) (by unfold maxLen; omega) (by omega) (by have := HBE.out.size; simp; omega) ?_; intro u' w2 hap; have HAP := Lib.hid hap; clear hap)
            go_roundw
            case rel => exact ⟨k + 1, by go_num, hlt, by rw [HG.out]; exact own_apd HAP.out, (HBE.out.alloc HBE.out.size _).trans (HAP.out.below (by have := HBE.out.size; simp; omega) (fun g hg => (OW.lt HOW.out hg).1))⟩
            case measure => exact mk_meas hlt
        · have hke : k = tn := Nat.le_antisymm hk (Nat.not_lt.1 hlt)
          subst hke
          have hlz : ¬ (k : Int) < (k : Int) := Int.lt_irrefl _
          have HFL := Lib.hid (show rgN N k = (l.filter N).map fun n : Nat => (n : Int) by
            unfold rgN
            rw [filt_range HO.out.rising (fun a ha => by have := HO.out.in1 a ha; omega) (fun a ha => Rch.mem HO.out HY.out ((HN.out a).1 ha))])
          clear how hbe
          go_wp2_with fail
          go_ret
          refine ⟨_, N, rfl, HN.out, ?_, HBL.out.trans (HBE.out.mono HBL.out.size)⟩
          rw [← HFL.out]
          exact OW.low HOW.out HBL.out.size
    | cons x xs =>
      simp only [List.length_cons] at hct
      obtain ⟨g, o9, ct9, hv, hg, hcl, hcell⟩ := HQ.out.qu.nz (by simp)
      simp only [List.length_cons] at hv hcl hcell
      injection hv with e1 e2 e3
      subst e1; subst e3
      have hc0 : wr.cell? ⟨g, o9, none⟩ = some (.int .u64 x) := hcell 0 (by omega)
      have hxb := (HQ.out.bf.good x List.mem_cons_self).1
      have hadr : ∀ i, ∀ a, N a = true → i ∈ adrP ws a (tgN ws a) → kindOf (ws.getD i 0) = 0 := fun i a ha hi => (HO.out.adr (Rch.mem HO.out HY.out (HQ.out.bf.rch a ha)) hi).1
      have HAD := Lib.hid hadr
      obtain ⟨o', ho', hsl⟩ := sl_from 22 sliceU64 sizeU64 g o9 (xs.length + 1) ct 1 (by omega) hct
      rw [show ((1 : Nat) : Int) = 1 from rfl, Nat.add_sub_cancel] at hsl
      have HPOP := Lib.hid (HQ.out.qu.pop ho')
      have hwf := wfu_mk hxb
      have hlz : (0 : Int) < (xs.length : Int) + 1 := by omega
      have hlen := HQ.out.len
      simp only [List.length_cons] at hlen ⊢
      have HNO := Lib.hid (show potN l (tgN ws) (noO (wr.heap[w.heap.size + 1]?)) = potN l (tgN ws) N from potN_congr fun a ha => HQ.out.bw.no (by have := HO.out.in1 a ha; omega))
      have HSK := Lib.hid (fun (h : kindOf x = 0 → N (x / 4).toNat = true) => show QR ws l rs (.slice (some ⟨pb, off, none⟩) ws.length cv) tn w N xs (.slice (some ⟨g, o', none⟩) xs.length (ct - 1)) wr from
        ⟨HQ.out.bf.skip h HAD.out, HQ.out.m0, HQ.out.m1, HQ.out.bw, HPOP.out, HQ.out.bel, by omega⟩)
      clear hcell hadr ho' hxb hct hcl
      by_cases hk0 : kindOf x = 0
      · have hkn := kind_nat hk0
        obtain ⟨b, hb⟩ : ∃ b : Nat, x / 4 = (b : Int) := ⟨(x / 4).toNat, by omega⟩
        have hbn : (x / 4).toNat = b := by rw [hb, Int.toNat_natCast]
        have e1 : atV x = (b : Int) := by unfold atV; rw [if_pos hk0, hb]
        have e2 : atE x = 0 := by unfold atE; rw [if_pos hk0]
        have hrb : Rch ws rs b := by rw [← hbn]; exact (HQ.out.bf.good x List.mem_cons_self).2 hk0
        have hbl := Rch.mem HO.out HY.out hrb
        have hbi := HO.out.in1 b hbl
        have hbt : b < tn := by omega
        have hbz : (b : Int) < (tn : Int) := Int.ofNat_lt.2 hbt
        have cb := HQ.out.bw.cell hbt
        have fb := HQ.out.bw.frozen b
        cases hN : N b
        · rw [hN] at cb
          have HBF := Lib.hid (HQ.out.bf.push HO.out HY.out hk0 hbn)
          have HBW := Lib.hid (HQ.out.bw.set (a := b))
          have HPA := Lib.hid (potN_add (T := tgN ws) (N := N) l (HO.out.rising.imp (fun h => Nat.ne_of_lt h)) hbl hN)
          obtain ⟨w2, hw2⟩ : ∃ w2, wr.setCell ⟨w.heap.size + 1, b, none⟩ (.bool true) = w2 := ⟨_, rfl⟩
          have hset : ∀ q, q ≠ w.heap.size + 1 → w2.heap[q]? = wr.heap[q]? := fun q hq => by rw [← hw2]; exact Below.heap_setCell _ _ _ q hq
          have hs2 : w2.heap.size = wr.heap.size := by rw [← hw2]; simp [World.setCell]
          have HPO2 := Lib.hid (show Qu w2 (w.heap.size + 2) (.slice (some ⟨g, o', none⟩) xs.length (ct - 1)) xs from HPOP.out.off (fun q hq => hset q (by omega)))
          have HB2 := Lib.hid (show Below w.heap.size w w2 by rw [← hw2]; exact HQ.out.bel.setCell (by dsimp only; omega) _)
          have m0 := (World.cell?_of_block (a := ⟨w.heap.size, 0, none⟩) (hset _ (by dsimp only; omega))).trans m0
          have m1 := (World.cell?_of_block (a := ⟨w.heap.size, 1, none⟩) (hset _ (by dsimp only; omega))).trans m1
          rw [hw2] at HBW
          have hat := fun (wx : World) (hb : Below w.heap.size w wx) => refat_any _ ws tn b wx (HR.out.keep hb) HO.out.fit (by omega) ⟨by omega, by omega⟩
          unfold objAt obj at hat
          rw [Int.toNat_natCast, at_obj HO.out hbl] at hat
          have hT : hT (ws.getD b 0) = ((tgN ws b : Nat) : Int) := by have := hT_lo (ws.getD b 0); unfold tgN; omega
          rw [hT] at hat
          have HAT := Lib.hid hat
          obtain ⟨T, hTT⟩ : ∃ T, tgN ws b = T := ⟨_, rfl⟩
          have HTT := Lib.hid hTT
          rw [hTT] at HAT hbi HPA
          generalize hK (ws.getD b 0) = kk at HAT
          generalize hS (ws.getD b 0) = ss at HAT
          generalize there (ws.take tn) (b : Int) = th at HAT
          obtain ⟨lo, hlo⟩ : ∃ lo, b + 2 = lo := ⟨_, rfl⟩
          obtain ⟨o2, ho2, hsl2⟩ := sl_mid 22 sliceU64 sizeU64 pb off ws.length cv lo T (by omega)
          have wl := rf_w1 hlo (show lo ≤ 1048576 by omega)
          have wl2 := rf_w2 (show lo + T ≤ 1048576 by omega)
          have hlc2 : (lo : Int) + (T : Int) ≤ (cv : Int) := by omega
          have HTG := Lib.hid (show tagd ws b = (ws.drop lo).take T by unfold tagd; rw [hTT, hlo])
          have HTL := Lib.hid (show (tagd ws b).length = T by rw [HTG.out, List.length_take, List.length_drop]; omega)
          have HSR := Lib.hid (fun (wx : World) (hb : Below w.heap.size w wx) => show Src wx (.slice (some ⟨pb, o2, none⟩) T (cv - lo)) T ((tagd ws b).map (Value.int .u64)) by
            have h1 := (HR.out.keep hb).cut lo T o2 (by omega) ho2
            rw [← HTG.out] at h1
            have h2 := src_rd' (p := some ⟨pb, o2, none⟩) (c := cv - lo) (ns := tagd ws b) (by rw [HTL.out]; exact h1) (fun h => by cases h)
            rwa [HTL.out] at h2)
          have hxl : xs.length ≤ 4194304 := by omega
          have hTl : T ≤ 1048576 := by omega
          have HLO := Lib.hid hlo
          have HBI := Lib.hid hbi
          have HW2 := Lib.hid hw2
          have HS2 := Lib.hid hs2
          clear hk0 hkn hb hbn hrb hbl hN hT hat hTT ho2 HQ HAD HSK hlo hbi hs2 hset hw2
          go_wp2_with (go_at_call 47; (with_reducible refine (at_ref x hwf _).mono ?_); rintro e w9 ⟨rfl, rfl⟩; rw [e1, e2])
          rw [HW2.out]
          refine (HAT.out _ HB2.out).mono ?_
          rintro e w3 ⟨rfl, hb⟩
          have HB3 := Lib.hid (HB2.out.trans (hb.mono HB2.out.size))
          have HBW3 := Lib.hid (HBW.out.keep hb)
          have HQ3 := Lib.hid (HPO2.out.keep hb)
          have m0 := below_cell hb m0
          have m1 := below_cell hb m1
          have hgw : w.heap.size + 2 ≤ w3.heap.size := by have := HBW3.out.lt; omega
          have m0a := fun o => alloc_cell m0 o
          have m1a := fun o => alloc_cell m1 o
          clear hb
          go_wp2_with (with_reducible refine wpList_qu (B := w.heap.size + 2) (xs := xs) (ns := tagd ws b) (m := T) rfl (.tmp 50) (.tmp 60) rfl rfl rfl (HQ3.out.keep ((Below.refl _ _).alloc (Nat.le_refl _) _)) (HSR.out _ (HB3.out.alloc HB3.out.size _)) (by omega) (by first | (simp; done) | (simp; omega)) ?_; intro td2 w4 hqp; have HQP := Lib.hid hqp; clear hqp)
          have hb4 := HQP.out.below
          have hbk : ∀ q, q < w.heap.size + 2 → w4.heap[q]? = w3.heap[q]? := fun q hq => (hb4.block q hq).trans (Below.heap_alloc _ _ _ (by omega))
          have hbw4 := HBW3.out.of (hbk _ (by omega))
          have hpa := HPA.out
          have hll : (xs ++ tagd ws b).length = xs.length + T := by rw [List.length_append, HTL.out]
          refine ⟨⟨_, _, HBF.out, (World.cell?_of_block (a := ⟨w.heap.size, 0, none⟩) (hbk _ (by dsimp only; omega))).trans m0, (World.cell?_of_block (a := ⟨w.heap.size, 1, none⟩) (hbk _ (by dsimp only; omega))).trans m1, hbw4, HQP.out.qu, (HB3.out.alloc HB3.out.size _).trans ⟨hb4.os, hb4.tape, hb4.output, hb4.size, fun k hk => hb4.block k (by omega)⟩, by rw [hll]; omega⟩, ?_⟩
          obtain ⟨p4, c4, rfl, _⟩ := HQP.out.qu.form
          have hno : potN l (tgN ws) (noO (w4.heap[w.heap.size + 1]?)) = potN l (tgN ws) (addM N b) := potN_congr fun a ha => hbw4.no (by have := HO.out.in1 a ha; omega)
          rw [hno, HNO.out]
          simp only [sLen, hll]
          omega
        · rw [hN] at cb
          have HS := Lib.hid (HSK.out (fun _ => by rw [hbn]; exact hN))
          clear hk0 hkn hb hbn hrb hbl hbi hN
          go_wp2_with (go_at_call 47; (with_reducible refine (at_ref x hwf _).mono ?_); rintro e w9 ⟨rfl, rfl⟩; rw [e1, e2])
          go_roundw
          case rel => exact ⟨_, _, HS.out⟩
          case measure => simp [sLen]
      · have e2 : atE x = 9 := by unfold atE; rw [if_neg hk0]
        have HS := Lib.hid (HSK.out (fun h => absurd h hk0))
        clear hk0
        go_wp2_with (go_at_call 47; (with_reducible refine (at_ref x hwf _).mono ?_); rintro e w9 ⟨rfl, rfl⟩; rw [e2])
        go_roundw
        case rel => exact ⟨_, _, HS.out⟩
        case measure => simp [sLen]
end
end Go.Proofs.Ytfhjpgbnojdlkaa
