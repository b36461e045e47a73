/- Layer 10: the memory of the search for what is live while it is laid out: a new row, one more place from where a way leads. -/
import Derived.Test.YtnniohimbmnapaaDoorLvGo
namespace Go.Proofs.YtnniohimbmnapaaDoor
open Go Go.ChangeShapes Go.WideShapes Go.RowKit
set_option linter.unusedVariables false
set_option linter.unusedSimpArgs false
theorem Blk.type {A : World} {b : Nat} {cs cs' : List Value} {T T' : TypeId} (h : Blk A b cs T) (h' : Blk A b cs' T') : T = T' := by
  unfold Blk at h h'
  rw [h] at h'
  simp only [Option.some.injEq, Obj.cells.injEq] at h'
  exact h'.2.1
theorem set_step {row ws : List Nat} {j q qd qm dw nw : Nat} (hj : j < ws.length) (hq : ws.getD j 0 = q) (h1 : q / 64 = qd) (h2 : q % 64 = qm) (h3 : ((ws.take j).foldl setW row).getD qd 0 = dw) (h5 : dw ||| 2 ^ qm = nw) :
    (ws.take (j + 1)).foldl setW row = ((ws.take j).foldl setW row).set qd nw := by
  rw [take_fold hj hq setW row]
  unfold setW at h3 ⊢
  rw [h1, h2, h3, h5]
theorem set_len (rs : List Nat) (row : List Nat) : (rs.foldl setW row).length = row.length := by
  induction rs generalizing row with
  | nil => rfl
  | cons r rs ih => rw [List.foldl_cons, ih]; simp [setW]
section
variable {r : RestV} {F : FuncD} {iv rv : Value} {Y : Lay} {n m s S0 : Nat} {ex : Option Nat} {H : Nat} {tg : Nat → Nat} {FV : Nat → Value} {FF : Nat → List Nat} {wv : Value} {A B : World} {L : List (List Nat)} {wt : List Bool} {work sc : List Nat}
def Lay.row (Y : Lay) (k b : Nat) : Lay := { Y with rho := fun x => if x = k then b else Y.rho x }
theorem liveC_row (Y : Lay) {n k s b : Nat} (hk : k < n) : (liveC Y n k s).set k (.slice (some ⟨b, 0, none⟩) s s) = liveC (Y.row k b) n (k + 1) s := by
  unfold liveC Lay.row
  refine List.ext_getElem (by simp) fun i h1 h2 => ?_
  rw [List.getElem_set]
  simp only [List.getElem_map, List.getElem_range]
  by_cases e : k = i
  · subst e; simp
  · rw [if_neg e]
    by_cases h : i < k
    · rw [if_pos h, if_pos (by omega), if_neg (by omega)]
    · rw [if_neg h, if_neg (by omega)]
/-- What bears tag 1 stays, but for the list of rows. -/
def Fr1 (bL : Nat) (tg tg' : Nat → Nat) (A B : World) : Prop := ∀ g, g < A.heap.size → tg g = 1 → tg' g = 1 ∧ (g ≠ bL → B.heap[g]? = A.heap[g]?)
theorem Fr1.refl (bL : Nat) (tg : Nat → Nat) (A : World) : Fr1 bL tg tg A A := fun g _ h => ⟨h, fun _ => rfl⟩
theorem Fr1.trans {bL : Nat} {tg tg' tg'' : Nat → Nat} {A B C : World} (h : Fr1 bL tg tg' A B) (k : Fr1 bL tg' tg'' B C) (hs : A.heap.size ≤ B.heap.size) : Fr1 bL tg tg'' A C := fun g hg h1 => by
  obtain ⟨h2, h3⟩ := h g hg h1
  obtain ⟨h4, h5⟩ := k g (Nat.lt_of_lt_of_le hg hs) h2
  exact ⟨h4, fun hn => (h5 hn).trans (h3 hn)⟩
theorem Fr.fr1 {bL : Nat} {tg tg' : Nat → Nat} {A B : World} (h : Fr tg tg' A B) : Fr1 bL tg tg' A B := fun g hg h1 => ⟨(h g hg h1).1, fun _ => (h g hg h1).2⟩
theorem Fr1.below {bL : Nat} {tg : Nat → Nat} {A B : World} (h : Below A.heap.size A B) : Fr1 bL tg tg A B := fun g hg h1 => ⟨h1, fun _ => h.block g hg⟩
/-- What bears tag 1 may turn, but for the list of rows. -/
theorem LkX.keep1 (h : LkX r F iv rv Y n m s S0 ex H tg FV FF wv A L wt work sc) (hs : A.heap.size ≤ B.heap.size) (hk : ∀ g, S0 ≤ g → g < H → (tg g = 1 → g = Y.bL) → B.heap[g]? = A.heap[g]?) :
    LkX r F iv rv Y n m s S0 ex H tg FV FF wv B L wt work sc := by
  have T := h.tgs
  exact ⟨T, Nat.le_trans h.hH hs, fun e => (h.lk e).block (hk _ T.l0.1 T.l0.2 fun c => by rw [T.b0] at c; omega), fun e => (h.live e).block (hk _ T.l1.1 T.l1.2 fun _ => rfl), fun e => (h.from_ e).block (hk _ T.l2.1 T.l2.2 fun c => by rw [T.b2] at c; omega), fun e => (h.wait e).block (hk _ T.l3.1 T.l3.2 fun c => by rw [T.b3] at c; omega), fun e => (h.scr e).block (hk _ T.l4.1 T.l4.2 fun c => by rw [T.b4] at c; omega),
    fun e => (h.work_ e).block fun g hg => hk _ (T.work g hg).2.1 (T.work g hg).2.2 fun c => by rw [(T.work g hg).1] at c; omega, fun x hx e => (h.row x hx e).block (hk _ (T.row x hx).2.1 (T.row x hx).2.2 fun c => by rw [(T.row x hx).1] at c; omega), fun x hx e => (h.frow x hx e).block fun g hg => hk _ (T.frow x hx g hg).2.1 (T.frow x hx g hg).2.2 fun c => by rw [(T.frow x hx g hg).1] at c; omega⟩
/-- A row of noughts for one more instruction. -/
theorem LkX.newRow {k : Nat} (h : LkX r F iv rv Y n k s S0 none H tg FV FF wv A L wt work sc) (hk : k < n) (hL : k < L.length) :
    LkX r F iv rv (Y.row k A.heap.size) n (k + 1) s S0 none ((A.alloc (.cells (List.replicate s (Value.int .u64 0)).toArray 53)).setCell ⟨Y.bL, k, none⟩ (.slice (some ⟨A.heap.size, 0, none⟩) s s)).heap.size (tagAt tg A.heap.size (6 + 2 * k)) FV FF wv
      ((A.alloc (.cells (List.replicate s (Value.int .u64 0)).toArray 53)).setCell ⟨Y.bL, k, none⟩ (.slice (some ⟨A.heap.size, 0, none⟩) s s)) (L.set k (List.replicate s 0)) wt work sc ∧
    Fr1 Y.bL tg (tagAt tg A.heap.size (6 + 2 * k)) A ((A.alloc (.cells (List.replicate s (Value.int .u64 0)).toArray 53)).setCell ⟨Y.bL, k, none⟩ (.slice (some ⟨A.heap.size, 0, none⟩) s s)) := by
  have hn : ∀ k, (none : Option Nat) ≠ some k := fun k h => by cases h
  have T := h.tgs
  have hH := h.hH
  obtain ⟨C, hC⟩ : ∃ C, (A.alloc (.cells (List.replicate s (Value.int .u64 0)).toArray 53)).setCell ⟨Y.bL, k, none⟩ (.slice (some ⟨A.heap.size, 0, none⟩) s s) = C := ⟨_, rfl⟩
  have hsz : C.heap.size = A.heap.size + 1 := by rw [← hC]; simp
  have hlt : ∀ g, g < A.heap.size → g ≠ Y.bL → C.heap[g]? = A.heap[g]? := fun g hg hne => by
    rw [← hC, Below.heap_setCell _ _ _ g hne]
    exact Below.heap_alloc _ _ _ hg
  have hrow : Blk C A.heap.size ((List.replicate s 0).map wordV) 53 := by
    unfold Blk
    rw [← hC, Below.heap_setCell _ _ _ A.heap.size (by have := T.l1.2; dsimp only; omega)]
    simp only [List.map_replicate]
    exact heap_alloc_new A _
  have hliv : Blk C Y.bL (liveC (Y.row k A.heap.size) n (k + 1) s) 52 := by
    rw [← hC, ← liveC_row Y hk]
    exact ((h.live (hn _)).block (Below.heap_alloc _ _ _ (by have := T.l1.2; omega))).set k _
  rw [hC]
  have kk : ∀ b, b < H → tagAt tg A.heap.size (6 + 2 * k) b = tg b := fun b hb => tagAt_lt (by omega)
  have hb : ∀ g, S0 ≤ g → g < H → tg g ≠ 1 → C.heap[g]? = A.heap[g]? := fun g _ hg ht => hlt g (by omega) (fun e => ht (by rw [e]; exact T.b1))
  have q := h.but (B := C) 1 (by omega) hb
  refine ⟨⟨⟨(kk _ T.l0.2).trans T.b0, (kk _ T.l1.2).trans T.b1, (kk _ T.l2.2).trans T.b2, (kk _ T.l3.2).trans T.b3, (kk _ T.l4.2).trans T.b4, ⟨T.l0.1, by have := T.l0.2; show Y.bl < _; omega⟩, ⟨T.l1.1, by have := T.l1.2; show Y.bL < _; omega⟩, ⟨T.l2.1, by have := T.l2.2; show Y.bF < _; omega⟩, ⟨T.l3.1, by have := T.l3.2; show Y.bW < _; omega⟩, ⟨T.l4.1, by have := T.l4.2; show Y.bS < _; omega⟩, fun x hx => ?_,
      fun x hx g hg => ⟨(kk _ (T.frow x hx g hg).2.2).trans (T.frow x hx g hg).1, (T.frow x hx g hg).2.1, by have := (T.frow x hx g hg).2.2; omega⟩, fun g hg => ⟨(kk _ (T.work g hg).2.2).trans (T.work g hg).1, (T.work g hg).2.1, by have := (T.work g hg).2.2; omega⟩⟩,
      Nat.le_refl _, fun _ => q.lk (by simp), fun _ => hliv, fun _ => q.from_ (by simp), fun _ => q.wait (by simp), fun _ => q.scr (by simp), fun _ => q.work_ (by simp), fun x hx _ => ?_, fun x hx _ => q.frow x hx (by simp; omega)⟩, fun g hg h1 => ⟨by rw [tagAt_lt hg]; exact h1, fun hne => hlt g hg hne⟩⟩
  · show tagAt tg A.heap.size (6 + 2 * k) (if x = k then A.heap.size else Y.rho x) = _ ∧ S0 ≤ (if x = k then A.heap.size else Y.rho x) ∧ (if x = k then A.heap.size else Y.rho x) < _
    by_cases e : x = k
    · rw [if_pos e, tagAt_at, e]
      exact ⟨rfl, by have := T.l0; omega, by omega⟩
    · rw [if_neg e]
      have h := T.row x (by omega)
      exact ⟨(kk _ h.2.2).trans h.1, h.2.1, by omega⟩
  · show Blk C (if x = k then A.heap.size else Y.rho x) _ _
    rw [getD_setL _ _ _ _ _ hL]
    by_cases e : x = k
    · rw [if_pos e, if_pos e.symm]
      exact hrow
    · rw [if_neg e, if_neg (fun h => e h.symm)]
      exact q.row x (by omega) (by simp; omega)
/-- One more place from where a way leads. -/
theorem LkX.pushFrom {o : Obj} {v' : Value} {x to : Nat} (h : LkX r F iv rv Y n m s S0 none H tg FV FF wv A L wt work sc) (ht : to < n) (hap : Apd (A.alloc o) B S0 3 (FV to) v' ((ints (FF to)).length + 1) ((ints (FF to)).map (Value.int .i64) ++ [Value.int .i64 (x : Int)])) :
    LkX r F iv rv Y n m s S0 none (B.setCell ⟨Y.bF, to, none⟩ v').heap.size (tagAt tg (A.heap.size + 1) (7 + 2 * to)) (fun y => if y = to then v' else FV y) (fun y => if y = to then FF y ++ [x] else FF y) wv (B.setCell ⟨Y.bF, to, none⟩ v') L wt work sc ∧
    Fr tg (tagAt tg (A.heap.size + 1) (7 + 2 * to)) A (B.setCell ⟨Y.bF, to, none⟩ v') := by
  have hn : ∀ k, (none : Option Nat) ≠ some k := fun k h => by cases h
  have T := h.tgs
  have hsz := hap.grown.size
  rw [World.size_alloc] at hsz
  have hHH := h.hH
  have hS : S0 ≤ A.heap.size := by have := T.l0; omega
  have hB : ∀ g, g < A.heap.size → (g < H → tg g ≠ 7 + 2 * to) → (H ≤ g → True) → some g ≠ (FV to).ownBlock → B.heap[g]? = A.heap[g]? := fun g hg _ _ hne => by
    rw [hap.grown.block g (by rw [World.size_alloc]; omega) hne]
    exact Below.heap_alloc _ _ _ hg
  have hB' : ∀ g, S0 ≤ g → g < H → tg g ≠ 7 + 2 * to → B.heap[g]? = A.heap[g]? := fun g _ hg hne => hB g (by omega) (fun _ => hne) (fun _ => trivial) (fun e => hne (T.frow to ht g e.symm).1)
  have hown : OI B S0 v' (ints (FF to ++ [x])) := by rw [ints_snoc]; exact own_apd hap
  have hw7 : ∀ g, v'.ownBlock = some g → tagAt tg (A.heap.size + 1) (7 + 2 * to) g = 7 + 2 * to ∧ S0 ≤ g ∧ g < B.heap.size := fun g hg => by
    have hl := OW.lt hown hg
    refine ⟨?_, hl⟩
    rcases hap.at_ with e | e
    · rw [e] at hg
      have := T.frow to ht g hg
      rw [tagAt_lt (by omega)]; exact this.1
    · rw [hg] at e
      simp only [World.size_alloc, Option.some.injEq] at e
      rw [e]; exact tagAt_at _ _ _
  have k := h.but (B := B) (7 + 2 * to) (by omega) hB'
  have kt : ∀ b, b < H → tagAt tg (A.heap.size + 1) (7 + 2 * to) b = tg b := fun b hb => tagAt_lt (by omega)
  have hc : ∀ g, g ≠ Y.bF → (B.setCell ⟨Y.bF, to, none⟩ v').heap[g]? = B.heap[g]? := fun g hg => Below.heap_setCell _ _ _ g hg
  have hsC : (B.setCell ⟨Y.bF, to, none⟩ v').heap.size = B.heap.size := by simp
  refine ⟨⟨⟨(kt _ T.l0.2).trans T.b0, (kt _ T.l1.2).trans T.b1, (kt _ T.l2.2).trans T.b2, (kt _ T.l3.2).trans T.b3, (kt _ T.l4.2).trans T.b4, ⟨T.l0.1, by have := T.l0.2; omega⟩, ⟨T.l1.1, by have := T.l1.2; omega⟩, ⟨T.l2.1, by have := T.l2.2; omega⟩, ⟨T.l3.1, by have := T.l3.2; omega⟩, ⟨T.l4.1, by have := T.l4.2; omega⟩,
      fun y hy => ⟨(kt _ (T.row y hy).2.2).trans (T.row y hy).1, (T.row y hy).2.1, by have := (T.row y hy).2.2; omega⟩, fun y hy g hg => ?_, fun g hg => ⟨(kt _ (T.work g hg).2.2).trans (T.work g hg).1, (T.work g hg).2.1, by have := (T.work g hg).2.2; omega⟩⟩,
      Nat.le_refl _, fun _ => (k.lk (by first | (simp; done) | (simp; omega))).block (hc _ fun e => ?_), fun _ => (k.live (by first | (simp; done) | (simp; omega))).block (hc _ fun e => ?_), fun _ => ?_, fun _ => (k.wait (by first | (simp; done) | (simp; omega))).block (hc _ fun e => ?_), fun _ => (k.scr (by first | (simp; done) | (simp; omega))).block (hc _ fun e => ?_),
      fun _ => (k.work_ (by first | (simp; done) | (simp; omega))).block fun g hg => hc _ fun e => ?_, fun y hy _ => (k.row y hy (by first | (simp; done) | (simp; omega))).block (hc _ fun e => ?_), fun y hy _ => ?_⟩, fun g hg h1 => ⟨by rw [tagAt_lt (by omega)]; exact h1, ?_⟩⟩
  · by_cases e : y = to
    · rw [if_pos e] at hg
      rw [e]
      have := hw7 g hg
      exact ⟨this.1, this.2.1, by omega⟩
    · rw [if_neg e] at hg
      have := T.frow y hy g hg
      exact ⟨(kt _ this.2.2).trans this.1, this.2.1, by omega⟩
  · have := T.b0; rw [e, T.b2] at this; omega
  · have := T.b1; rw [e, T.b2] at this; omega
  · have hq := (k.from_ (by first | (simp; done) | (simp; omega))).set to v'
    have he : ((List.range n).map FV).set to v' = (List.range n).map (fun y => if y = to then v' else FV y) := by
      refine List.ext_getElem (by simp) fun i h1 h2 => ?_
      rw [List.getElem_set]
      simp only [List.getElem_map, List.getElem_range]
      by_cases e : to = i
      · rw [if_pos e, if_pos e.symm]
      · rw [if_neg e, if_neg (fun h => e h.symm)]
    rw [he] at hq
    exact hq
  · have := T.b3; rw [e, T.b2] at this; omega
  · have := T.b4; rw [e, T.b2] at this; omega
  · have := (T.work g hg).1; rw [e, T.b2] at this; omega
  · have := (T.row y hy).1; rw [e, T.b2] at this; omega
  · by_cases e : y = to
    · rw [if_pos e, if_pos e, e]
      exact hown.block fun g hg => hc _ fun e2 => by
        have h7 := hw7 g hg
        rw [e2, kt _ T.l2.2, T.b2] at h7
        omega
    · rw [if_neg e, if_neg e]
      exact (k.frow y hy (by first | (simp; done) | (simp; omega))).block fun g hg => hc _ fun e2 => by have := (T.frow y hy g hg).1; rw [e2, T.b2] at this; omega
  · rw [hc g (fun e => by rw [e, T.b2] at h1; omega)]
    exact hB g hg (fun _ => by omega) (fun _ => trivial) (fun e => by have := (T.frow to ht g e.symm).1; omega)
end
end Go.Proofs.YtnniohimbmnapaaDoor
