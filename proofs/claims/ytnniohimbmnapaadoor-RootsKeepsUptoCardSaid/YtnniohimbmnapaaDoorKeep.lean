/- Lists that share no memory: each cell has at most one colour, what is written into a coloured cell is its colour's word. Nothing of the program is imported. -/
import Derived.Test.YtnniohimbmnapaaDoorApp
import Derived.ArgAppend
namespace Go.Proofs.YtnniohimbmnapaaDoor
open Go.RowKit
set_option linter.unusedVariables false
set_option linter.unusedSimpArgs false
/-- The word of colour k. -/
def xk (k : Nat) : Value := .int .u64 ((k : Int) + 1000)
/-- The cell is there and may be written. -/
def Wr (w : World) (b o : Nat) : Prop := (w.cell? ⟨b, o, none⟩).isSome = true ∧ w.frozen? ⟨b, o, none⟩ = false
theorem Wr.lt {w : World} {b o : Nat} (h : Wr w b o) : b < w.heap.size := by
  obtain ⟨u, hu⟩ := Option.isSome_iff_exists.1 h.1
  exact World.block_lt_of_cell? _ _ hu
theorem Wr.block {w w' : World} {b o : Nat} (h : Wr w b o) (e : w'.heap[b]? = w.heap[b]?) : Wr w' b o :=
  ⟨by rw [World.cell?_of_block (w := w) (a := ⟨b, o, none⟩) e]; exact h.1, by rw [World.frozen?_of_block (w := w) (a := ⟨b, o, none⟩) e]; exact h.2⟩
/-- The slice value v has n words, all its cells have colour k, the first m bear its word. -/
def RowC (w : World) (tg : Nat → Nat → Nat) (S0 k : Nat) (v : Value) (n m : Nat) : Prop :=
  (∃ p, v = .slice p 0 0 ∧ n = 0) ∨ ∃ b off c, v = .slice (some ⟨b, off, none⟩) n c ∧ n ≤ c ∧ S0 ≤ b ∧ (∀ i, i < c → tg b (off + i) = k + 1 ∧ Wr w b (off + i)) ∧ ∀ i, i < m → w.cell? ⟨b, off + i, none⟩ = some (xk k)
/-- What was written is kept; what lies below S0 and what has no colour below H0 is as it was. -/
structure Ev (tg : Nat → Nat → Nat) (S0 H0 : Nat) (w w' : World) : Prop where
  below : Below S0 w w'
  keep : ∀ b o k, b < w.heap.size → tg b o = k + 1 → w.cell? ⟨b, o, none⟩ = some (xk k) → w'.cell? ⟨b, o, none⟩ = some (xk k)
  wr : ∀ b o, b < w.heap.size → tg b o ≠ 0 → Wr w b o → Wr w' b o
  un : ∀ b o, b < H0 → tg b o = 0 → w'.cell? ⟨b, o, none⟩ = w.cell? ⟨b, o, none⟩
section
variable {tg tg' : Nat → Nat → Nat} {S0 H0 k n m : Nat} {v : Value} {w w' w2 : World}
theorem Ev.refl (w : World) : Ev tg S0 H0 w w := ⟨Below.refl _ _, fun _ _ _ _ _ h => h, fun _ _ _ _ h => h, fun _ _ _ _ => rfl⟩
theorem Ev.trans (h : Ev tg S0 H0 w w') (g : Ev tg S0 H0 w' w2) : Ev tg S0 H0 w w2 :=
  ⟨h.below.trans g.below, fun b o k hb ht hc => g.keep b o k (Nat.lt_of_lt_of_le hb h.below.size) ht (h.keep b o k hb ht hc),
    fun b o hb ht hc => g.wr b o (Nat.lt_of_lt_of_le hb h.below.size) ht (h.wr b o hb ht hc), fun b o hb ht => (g.un b o hb ht).trans (h.un b o hb ht)⟩
/-- Colours may change where nothing lies yet. -/
theorem Ev.recol (h : Ev tg' S0 H0 w w') (ht : ∀ b o, b < w.heap.size → tg' b o = tg b o) (hH : H0 ≤ w.heap.size) : Ev tg S0 H0 w w' :=
  ⟨h.below, fun b o k hb e hc => h.keep b o k hb ((ht b o hb).trans e) hc, fun b o hb e hc => h.wr b o hb (by rw [ht b o hb]; exact e) hc, fun b o hb e => h.un b o hb ((ht b o (by omega)).trans e)⟩
theorem Ev.grown {row : Option Nat} (h : w.grownBy w' row) (hr : ∀ g, row = some g → S0 ≤ g ∧ H0 ≤ g ∧ ∀ o, tg g o = 0) (hS : S0 ≤ w.heap.size) (hH : H0 ≤ w.heap.size) : Ev tg S0 H0 w w' := by
  have hb : ∀ b, b < w.heap.size → (∀ g, row = some g → b ≠ g) → w'.heap[b]? = w.heap[b]? := fun b hb hn => h.block b hb fun e => hn b e.symm rfl
  refine ⟨⟨h.os, h.tape, h.output, h.size, fun b h1 => hb b (by omega) fun g hg e => ?_⟩, fun b o k h1 e hc => ?_, fun b o h1 e hc => ?_, fun b o h1 e => ?_⟩
  · have := (hr g hg).1; omega
  · rw [World.cell?_of_block (w := w) (a := ⟨b, o, none⟩) (hb b h1 fun g hg e2 => by have := (hr g hg).2.2 o; rw [← e2, e] at this; omega)]; exact hc
  · exact hc.block (hb b h1 fun g hg e2 => by have := (hr g hg).2.2 o; rw [← e2] at this; exact e this)
  · exact World.cell?_of_block (w := w) (a := ⟨b, o, none⟩) (hb b (by omega) fun g hg e2 => by have := (hr g hg).2.1; omega)
theorem Ev.below' (h : Below w.heap.size w w') (hS : S0 ≤ w.heap.size) (hH : H0 ≤ w.heap.size) : Ev tg S0 H0 w w' :=
  Ev.grown (row := none) ⟨h.os, h.tape, h.output, h.size, fun b hb _ => h.block b hb⟩ (fun g hg => by cases hg) hS hH
theorem Ev.set (b o : Nat) (ht : tg b o = k + 1) (hS : S0 ≤ b) (hw : Wr w b o) : Ev tg S0 H0 w (w.setCell ⟨b, o, none⟩ (xk k)) := by
  obtain ⟨u, hu⟩ := Option.isSome_iff_exists.1 hw.1
  have hcell : ∀ b' o', (w.setCell ⟨b, o, none⟩ (xk k)).cell? ⟨b', o', none⟩ = if b' = b ∧ o' = o then some (xk k) else w.cell? ⟨b', o', none⟩ := fun b' o' => by
    by_cases e : b' = b ∧ o' = o
    · rw [if_pos e, e.1, e.2]; exact World.cell?_setCell_same _ _ _ hu
    · rw [if_neg e]
      refine World.cell?_setCell_other _ _ _ _ fun c => e ?_
      simp only [Addr.mk.injEq, and_true] at c
      exact ⟨c.1.symm, c.2.symm⟩
  refine ⟨(Below.refl _ _).setCell (by simpa using hS) _, fun b' o' k' h1 e hc => ?_, fun b' o' h1 e hc => ⟨?_, by rw [World.frozen?_setCell]; exact hc.2⟩, fun b' o' h1 e => ?_⟩
  · rw [hcell]
    split
    · rename_i h; rw [h.1, h.2, ht] at e; rw [show k = k' by omega]
    · exact hc
  · rw [hcell]
    split
    · rfl
    · exact hc.1
  · rw [hcell, if_neg]
    rintro ⟨rfl, rfl⟩
    omega
theorem Ev.setCells (b : Nat) (hS : S0 ≤ b) : ∀ (m o : Nat) (w : World), (∀ i, i < m → tg b (o + i) = k + 1 ∧ Wr w b (o + i)) → Ev tg S0 H0 w (w.setCells b o (List.replicate m (xk k)))
  | 0, o, w, h => Ev.refl w
  | m + 1, o, w, h => by
    obtain ⟨t0, w0⟩ := h 0 (by omega)
    have h1 := Ev.set (tg := tg) (S0 := S0) (H0 := H0) (w := w) b o t0 hS w0
    rw [List.replicate_succ, World.setCells]
    refine h1.trans (Ev.setCells b hS m (o + 1) _ fun i hi => ?_)
    obtain ⟨t2, w2⟩ := h (i + 1) (by omega)
    rw [show o + 1 + i = o + (i + 1) by omega]
    exact ⟨t2, h1.wr _ _ w2.lt (by rw [t2]; omega) w2⟩
theorem RowC.keep (h : RowC w tg S0 k v n m) (hm : m ≤ n) (e : Ev tg S0 H0 w w') : RowC w' tg S0 k v n m := by
  rcases h with h | ⟨b, off, c, rfl, h1, h2, h3, h4⟩
  · exact .inl h
  · refine .inr ⟨b, off, c, rfl, h1, h2, fun i hi => ⟨(h3 i hi).1, e.wr _ _ (h3 i hi).2.lt (by rw [(h3 i hi).1]; omega) (h3 i hi).2⟩, fun i hi => ?_⟩
    obtain ⟨t, hw⟩ := h3 i (by omega)
    exact e.keep _ _ _ hw.lt t (h4 i hi)
theorem RowC.recol (h : RowC w tg S0 k v n m) (ht : ∀ b o, b < w.heap.size → tg' b o = tg b o) : RowC w tg' S0 k v n m := by
  rcases h with h | ⟨b, off, c, rfl, h1, h2, h3, h4⟩
  · exact .inl h
  · exact .inr ⟨b, off, c, rfl, h1, h2, fun i hi => ⟨(ht _ _ (h3 i hi).2.lt).trans (h3 i hi).1, (h3 i hi).2⟩, h4⟩
/-- Marking one word more. -/
theorem RowC.mark {b off c : Nat} (h : RowC w tg S0 k (.slice (some ⟨b, off, none⟩) n c) n m) (hm : m < n) : tg b (off + m) = k + 1 ∧ S0 ≤ b ∧ Wr w b (off + m) ∧ RowC (w.setCell ⟨b, off + m, none⟩ (xk k)) tg S0 k (.slice (some ⟨b, off, none⟩) n c) n (m + 1) := by
  rcases h with ⟨p, h, rfl⟩ | ⟨b', off', c', he, h1, h2, h3, h4⟩
  · omega
  · simp only [Value.slice.injEq, Option.some.injEq, Addr.mk.injEq, and_true, true_and] at he
    obtain ⟨⟨rfl, rfl⟩, rfl⟩ := he
    obtain ⟨t, hw⟩ := h3 m (by omega)
    have hE := Ev.set (tg := tg) (S0 := S0) (H0 := 0) (w := w) b (off + m) t h2 hw
    refine ⟨t, h2, hw, .inr ⟨b, off, c, rfl, h1, h2, fun i hi => ⟨(h3 i hi).1, hE.wr _ _ (h3 i hi).2.lt (by rw [(h3 i hi).1]; omega) (h3 i hi).2⟩, fun i hi => ?_⟩⟩
    by_cases e : i = m
    · subst e
      obtain ⟨u, hu⟩ := Option.isSome_iff_exists.1 hw.1
      exact World.cell?_setCell_same _ _ _ hu
    · obtain ⟨t', hw'⟩ := h3 i (by omega)
      exact hE.keep _ _ _ hw'.lt t' (h4 i (by omega))
/-- A row of the call's own is of one colour. -/
theorem RowC.of_owns {e : TypeId} {B : Nat} (h : w.ownsRow B e 1 v n (List.replicate n (xk k))) (hB : S0 ≤ B) (ht : ∀ b o, B ≤ b → b < w.heap.size → tg b o = k + 1) : RowC w tg S0 k v n n := by
  rcases h.2 with ⟨rfl, h2⟩ | ⟨g, c, cur, rfl, hg, r1, r2, r3, r4, r5⟩
  · exact .inl ⟨none, rfl, h2⟩
  · have hlt : g < w.heap.size := (Array.getElem?_eq_some_iff.1 r1).1
    refine .inr ⟨g, 0, c, rfl, r2, by omega, fun i hi => ⟨ht _ _ hg hlt, ?_⟩, fun i hi => ?_⟩
    · have hi' : i < cur.size := by omega
      exact ⟨by simp [World.cell?, r1, hi'], by simp [World.frozen?, r1]⟩
    · have e := congrArg (fun l => l[i]?) r5
      simp only [List.getElem?_take, List.getElem?_replicate, Nat.mul_one] at e
      rw [if_pos hi, if_pos hi, Array.getElem?_toList] at e
      simp [World.cell?, r1, e]
end
/-- What an append onto a row of one colour leaves. -/
structure ApC (tg tg' : Nat → Nat → Nat) (S0 H0 k n : Nat) (w w' : World) (v' : Value) : Prop where
  row : RowC w' tg' S0 k v' n n
  ev : Ev tg S0 H0 w w'
  col : ∀ b o, b < w.heap.size → tg' b o = tg b o
  fresh : ∀ b o, w'.heap.size ≤ b → tg' b o = 0
  blk : ∀ g, g < w.heap.size → (∀ o, tg g o = 0) → w'.heap[g]? = w.heap[g]?
section
variable {P : Program} {w : World} {tg : Nat → Nat → Nat} {S0 H0 k n m c : Nat} {t ty e : TypeId} {z : Value} {bytes : Nat} {v x : Value} {ad : Addr}
theorem run_appC (ht : P.underlying t = some (.slice e)) (hinfo : (P.info? e).map (fun i => (i.zero, i.size, i.bytes)) = some (some z, 1, bytes)) (hz1 : z.cells.size = 1)
    (h : RowC w tg S0 k v n n) (hf : ∀ b o, w.heap.size ≤ b → tg b o = 0) (hm : 0 < m) (hs : ∀ j, j < m → w.cell? (ad.add j) = some (xk k)) (h63 : n + m ≤ maxLen) (hbytes : (n + m) * bytes ≤ 140737488355328) (hS : S0 ≤ w.heap.size) (hH : H0 ≤ w.heap.size) :
    ∃ v' w' tg', (Builtin.append_ #[t, t] ty #[v, .slice (some ad) m c]).run P w = .ok v' w' ∧ ApC tg tg' S0 H0 k (n + m) w w' v' := by
  obtain ⟨i, hi, hzz⟩ := Option.map_eq_some_iff.1 hinfo
  simp only [Prod.mk.injEq] at hzz
  obtain ⟨hz, hsz, hb⟩ := hzz
  have hnews : ∀ j u, (List.replicate m (xk k))[j]? = some u → w.cell? (ad.add j) = some u := fun j u hu => by
    rw [List.getElem?_replicate] at hu
    split at hu
    · rename_i hj; rw [hs j hj]; exact hu
    · cases hu
  have h1 : ∀ u ∈ List.replicate m (xk k), u.oneCell' = true := fun u hu => by
    rw [(List.mem_replicate.1 hu).2]; rfl
  -- a new block
  have new : ∀ v' w', w'.ownsRow w.heap.size e 1 v' (n + m) (List.replicate (n + m) (xk k)) → w.grownBy w' none → ∃ tg', ApC tg tg' S0 H0 k (n + m) w w' v' := fun v' w' ho hg => by
    refine ⟨fun b o => if w.heap.size ≤ b ∧ b < w'.heap.size then k + 1 else tg b o, RowC.of_owns ho hS (fun b o h1 h2 => by simp [h1, h2]), Ev.grown hg (fun g hg => by cases hg) hS hH, fun b o hb => ?_, fun b o hb => ?_, fun g hg0 _ => hg.block g hg0 (by simp)⟩
    · rw [if_neg (by omega)]
    · rw [if_neg (by omega)]; exact hf b o (by have := hg.size; omega)
  rcases h with ⟨p, rfl, rfl⟩ | ⟨b, off, c0, rfl, hnc, hSb, h3, h4⟩
  · cases p with
    | none =>
      obtain ⟨v', w', hrun, h2, h3, _, _⟩ := run_append_own_at (P := P) w w.heap.size t ty e i z 1 bytes ht hi hz hsz hb hz1 (by decide) (.slice none 0 0) 0 [] (World.ownsRow_nil w _ e 1) ad m c (List.replicate m (xk k)) (by simp) hnews h1 h63 hbytes (Nat.le_refl _)
      obtain ⟨tg', hA⟩ := new v' w' (by simpa using h2) (by simpa [Value.ownBlock] using h3)
      exact ⟨v', w', tg', hrun, hA⟩
    | some a =>
      obtain ⟨v', w', hrun, h2, h3⟩ := run_append_arg_grows (P := P) w t ty e i z 1 bytes ht hi hz hsz hb hz1 (by decide) a 0 0 [] (by simp) (fun j u hj => by simp at hj) ad m c (List.replicate m (xk k)) (by simp) hnews (by omega) h63 hbytes
      obtain ⟨tg', hA⟩ := new v' w' (by simpa using h2) h3
      exact ⟨v', w', tg', hrun, hA⟩
  · by_cases hroom : n + m ≤ c0
    · have hrun := run_append_room_cells (P := P) w t ty e i ht hi b off n c0 ad m c (List.replicate m (xk k)) (by rw [hsz]; simp) hnews h1 hroom (fun j hj => by rw [hsz, Nat.mul_one, Nat.add_assoc]; rw [List.length_replicate] at hj; exact (h3 (n + j) (by omega)).2.1) (fun j hj => by rw [hsz, Nat.mul_one, Nat.add_assoc]; rw [List.length_replicate] at hj; exact (h3 (n + j) (by omega)).2.2)
      rw [hsz, Nat.mul_one] at hrun
      have hE : Ev tg S0 H0 w (w.setCells b (off + n) (List.replicate m (xk k))) := Ev.setCells b hSb m (off + n) w fun i hi => by rw [Nat.add_assoc]; exact h3 (n + i) (by omega)
      have hsize : (w.setCells b (off + n) (List.replicate m (xk k))).heap.size = w.heap.size := by
        clear hrun hE
        generalize List.replicate m (xk k) = l
        generalize off + n = o
        induction l generalizing o w with
        | nil => rfl
        | cons a l ih =>
          rw [World.setCells]
          have : ∀ (w : World) (o : Nat), (w.setCells b o l).heap.size = w.heap.size := by
            clear ih
            induction l with
            | nil => intro w o; rfl
            | cons a l ih => intro w o; rw [World.setCells, ih]; simp
          rw [this]; simp
      have hoth : ∀ g, g ≠ b → (w.setCells b (off + n) (List.replicate m (xk k))).heap[g]? = w.heap[g]? := by
        clear hrun hE hsize
        generalize List.replicate m (xk k) = l
        generalize off + n = o
        intro g hg
        have : ∀ (l : List Value) (w : World) (o : Nat), (w.setCells b o l).heap[g]? = w.heap[g]? := by
          intro l
          induction l with
          | nil => intro w o; rfl
          | cons a l ih => intro w o; rw [World.setCells, ih]; exact Below.heap_setCell _ _ _ _ hg
        exact this l w o
      refine ⟨_, _, tg, hrun, .inr ⟨b, off, c0, rfl, hroom, hSb, fun i hi => ⟨(h3 i hi).1, hE.wr _ _ (h3 i hi).2.lt (by rw [(h3 i hi).1]; omega) (h3 i hi).2⟩, fun i hi => ?_⟩, hE, fun _ _ _ => rfl, fun b' o hb' => hf b' o (by rw [hsize] at hb'; exact hb'), fun g hg h0 => hoth g fun e => ?_⟩
      · by_cases hin : i < n
        · exact hE.keep _ _ _ (h3 i (by omega)).2.lt (h3 i (by omega)).1 (h4 i hin)
        · obtain ⟨j, rfl⟩ : ∃ j, i = n + j := ⟨i - n, by omega⟩
          have := World.cell?_setCells_in b (List.replicate m (xk k)) (off + n) w (fun j hj => by rw [Nat.add_assoc]; rw [List.length_replicate] at hj; exact (h3 (n + j) (by omega)).2.1) j (by simp; omega)
          rw [← Nat.add_assoc, this, List.getElem_replicate]
      · have := (h3 n (by omega)).1
        rw [e] at h0
        rw [h0] at this
        omega
    · obtain ⟨v', w', hrun, h2, h5⟩ := run_append_arg_grows (P := P) w t ty e i z 1 bytes ht hi hz hsz hb hz1 (by decide) ⟨b, off, none⟩ n c0 (List.replicate n (xk k)) (by simp) (fun j u hj => by
        rw [List.getElem?_replicate] at hj
        split at hj
        · rename_i hj'
          rw [show (⟨b, off, none⟩ : Addr).add j = ⟨b, off + j, none⟩ by unfold Addr.add; split <;> simp_all, h4 j hj']
          exact hj
        · cases hj) ad m c (List.replicate m (xk k)) (by simp) hnews (by omega) h63 hbytes
      rw [List.replicate_append_replicate] at h2
      obtain ⟨tg', hA⟩ := new v' w' h2 h5
      exact ⟨v', w', tg', hrun, hA⟩
theorem wp_appC {o : Oper} {a : Act} {K : Act → World → Prop} {Q : Exit → Act → World → Prop} (s y : Operand) (ho : o.op = .call { callee := .builtin .append, args := #[s, y], argTypes := #[t, t] })
    (ht : P.underlying t = some (.slice e)) (hinfo : (P.info? e).map (fun i => (i.zero, i.size, i.bytes)) = some (some z, 1, bytes)) (hz1 : z.cells.size = 1) (hv : a.eval s = v)
    (h : RowC w tg S0 k v n n) (hx : a.eval y = .slice (some ad) m c) (hf : ∀ b o, w.heap.size ≤ b → tg b o = 0) (hm : 0 < m) (hs : ∀ j, j < m → w.cell? (ad.add j) = some (xk k)) (h63 : n + m ≤ maxLen) (hbytes : (n + m) * bytes ≤ 140737488355328) (hS : S0 ≤ w.heap.size) (hH : H0 ≤ w.heap.size)
    (hk : ∀ v' w' tg', ApC tg tg' S0 H0 k (n + m) w w' v' → K (a.put o.dst v') w') : o.wp P a w K Q := by
  obtain ⟨v', w', tg', hr, h2⟩ := run_appC (P := P) (ty := o.type) (c := c) (H0 := H0) ht hinfo hz1 h hf hm hs h63 hbytes hS hH
  unfold Oper.wp
  simp [execOp, ho, resolve, invoke, builtin, hv, hx, hr, Result.andThen]
  exact hk v' w' tg' h2
theorem wpList_appC {ops : Array Oper} {rest : List Oper} {o : Oper} {a : Act} {Q : Exit → Act → World → Prop} (hgd : o.guard = none) (s y : Operand) (ho : o.op = .call { callee := .builtin .append, args := #[s, y], argTypes := #[t, t] })
    (ht : P.underlying t = some (.slice e)) (hinfo : (P.info? e).map (fun i => (i.zero, i.size, i.bytes)) = some (some z, 1, bytes)) (hz1 : z.cells.size = 1) (hv : a.eval s = v)
    (h : RowC w tg S0 k v n n) (hx : a.eval y = .slice (some ad) m c) (hf : ∀ b o, w.heap.size ≤ b → tg b o = 0) (hm : 0 < m) (hs : ∀ j, j < m → w.cell? (ad.add j) = some (xk k)) (h63 : n + m ≤ maxLen) (hbytes : (n + m) * bytes ≤ 140737488355328) (hS : S0 ≤ w.heap.size) (hH : H0 ≤ w.heap.size)
    (hk : ∀ v' w' tg', ApC tg tg' S0 H0 k (n + m) w w' v' → wpList P ops Q rest (a.put o.dst v') w') : wpList P ops Q (o :: rest) a w :=
  wpList_plain hgd fun _ hK => wp_appC s y ho ht hinfo hz1 hv h hx hf hm hs h63 hbytes hS hH fun v' w' tg' h2 => hK _ _ (hk v' w' tg' h2)
theorem step_appC {ops : Array Oper} {o : Oper} {a : Act} {K : Act → World → Prop} {Q : Exit → Act → World → Prop} {E : Prop} (hgd : o.guard = none) (s y : Operand) (ho : o.op = .call { callee := .builtin .append, args := #[s, y], argTypes := #[t, t] })
    (ht : P.underlying t = some (.slice e)) (hinfo : (P.info? e).map (fun i => (i.zero, i.size, i.bytes)) = some (some z, 1, bytes)) (hz1 : z.cells.size = 1) (hv : a.eval s = v)
    (h : RowC w tg S0 k v n n) (hx : a.eval y = .slice (some ad) m c) (hf : ∀ b o, w.heap.size ≤ b → tg b o = 0) (hm : 0 < m) (hs : ∀ j, j < m → w.cell? (ad.add j) = some (xk k)) (h63 : n + m ≤ maxLen) (hbytes : (n + m) * bytes ≤ 140737488355328) (hS : S0 ≤ w.heap.size) (hH : H0 ≤ w.heap.size)
    (hk : ∀ v' w' tg', ApC tg tg' S0 H0 k (n + m) w w' v' → K (a.put o.dst v') w') : if Region.wanted o (yielded ops a.tmps) = true then Oper.wp P o a w K Q else E := by
  rw [if_pos (by simp [Region.wanted, hgd])]
  exact wp_appC s y ho ht hinfo hz1 hv h hx hf hm hs h63 hbytes hS hH hk
end
end Go.Proofs.YtnniohimbmnapaaDoor
