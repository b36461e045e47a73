/- Lists that share no memory: each cell has at most one colour, what is written into a coloured cell is its colour's word. Nothing of the program is imported. The document's Apart: lists whose cells have a colour each share no memory. Apart of rows that lie in ranges of their own: the colours are made here. -/
import Derived.Test.YtfhjpgbnojdlkaaPApp
import Derived.ArgAppend
import Derived.Test.YtfhjpgbnojdlkaaPOwn
import Derived.Test.YtfhjpgbnojdlkaaProg
import Derived.WalkKit
import Derived.Lib.Hide
import Derived.WalkSpells
import Derived.OwnWalk
namespace Go.Proofs.Ytfhjpgbnojdlkaa
section
open Go.RowKit
set_option linter.unusedVariables false
set_option linter.unusedSimpArgs false
/-- The word of colour k. -/
def xk (k : Nat) : Value := .int .u64 ((k : Int) + 1000)
/-- The cell is there and may be written. -/
def Wr (w : World) (b o : Nat) : Prop := (w.cell? ⟨b, o, none⟩).isSome = true ∧ w.frozen? ⟨b, o, none⟩ = false
theorem Wr.lt {w : World} {b o : Nat} (h : Wr w b o) : b < w.heap.size := by
  obtain ⟨u, hu⟩ := Option.isSome_iff_exists.1 h.1
  exact World.block_lt_of_cell? _ _ hu
theorem Wr.block {w w' : World} {b o : Nat} (h : Wr w b o) (e : w'.heap[b]? = w.heap[b]?) : Wr w' b o :=
  ⟨by rw [World.cell?_of_block (w := w) (a := ⟨b, o, none⟩) e]; exact h.1, by rw [World.frozen?_of_block (w := w) (a := ⟨b, o, none⟩) e]; exact h.2⟩
/-- The slice value v has n words, all its cells have colour k, the first m bear its word. -/
def RowC (w : World) (tg : Nat → Nat → Nat) (S0 k : Nat) (v : Value) (n m : Nat) : Prop :=
  (∃ p, v = .slice p 0 0 ∧ n = 0) ∨ ∃ b off c, v = .slice (some ⟨b, off, none⟩) n c ∧ n ≤ c ∧ S0 ≤ b ∧ (∀ i, i < c → tg b (off + i) = k + 1 ∧ Wr w b (off + i)) ∧ ∀ i, i < m → w.cell? ⟨b, off + i, none⟩ = some (xk k)
/-- What was written is kept; what lies below S0 and what has no colour below H0 is as it was. -/
structure Ev (tg : Nat → Nat → Nat) (S0 H0 : Nat) (w w' : World) : Prop where
  below : Below S0 w w'
  keep : ∀ b o k, b < w.heap.size → tg b o = k + 1 → w.cell? ⟨b, o, none⟩ = some (xk k) → w'.cell? ⟨b, o, none⟩ = some (xk k)
  wr : ∀ b o, b < w.heap.size → tg b o ≠ 0 → Wr w b o → Wr w' b o
  un : ∀ b o, b < H0 → tg b o = 0 → w'.cell? ⟨b, o, none⟩ = w.cell? ⟨b, o, none⟩
section
variable {tg tg' : Nat → Nat → Nat} {S0 H0 k n m : Nat} {v : Value} {w w' w2 : World}
theorem Ev.refl (w : World) : Ev tg S0 H0 w w := ⟨Below.refl _ _, fun _ _ _ _ _ h => h, fun _ _ _ _ h => h, fun _ _ _ _ => rfl⟩
theorem Ev.trans (h : Ev tg S0 H0 w w') (g : Ev tg S0 H0 w' w2) : Ev tg S0 H0 w w2 :=
  ⟨h.below.trans g.below, fun b o k hb ht hc => g.keep b o k (Nat.lt_of_lt_of_le hb h.below.size) ht (h.keep b o k hb ht hc),
    fun b o hb ht hc => g.wr b o (Nat.lt_of_lt_of_le hb h.below.size) ht (h.wr b o hb ht hc), fun b o hb ht => (g.un b o hb ht).trans (h.un b o hb ht)⟩
/-- Colours may change where nothing lies yet. -/
theorem Ev.recol (h : Ev tg' S0 H0 w w') (ht : ∀ b o, b < w.heap.size → tg' b o = tg b o) (hH : H0 ≤ w.heap.size) : Ev tg S0 H0 w w' :=
  ⟨h.below, fun b o k hb e hc => h.keep b o k hb ((ht b o hb).trans e) hc, fun b o hb e hc => h.wr b o hb (by rw [ht b o hb]; exact e) hc, fun b o hb e => h.un b o hb ((ht b o (by omega)).trans e)⟩
theorem Ev.grown {row : Option Nat} (h : w.grownBy w' row) (hr : ∀ g, row = some g → S0 ≤ g ∧ H0 ≤ g ∧ ∀ o, tg g o = 0) (hS : S0 ≤ w.heap.size) (hH : H0 ≤ w.heap.size) : Ev tg S0 H0 w w' := by
  have hb : ∀ b, b < w.heap.size → (∀ g, row = some g → b ≠ g) → w'.heap[b]? = w.heap[b]? := fun b hb hn => h.block b hb fun e => hn b e.symm rfl
  refine ⟨⟨h.os, h.tape, h.output, h.size, fun b h1 => hb b (by omega) fun g hg e => ?_⟩, fun b o k h1 e hc => ?_, fun b o h1 e hc => ?_, fun b o h1 e => ?_⟩
  · have := (hr g hg).1; omega
  · rw [World.cell?_of_block (w := w) (a := ⟨b, o, none⟩) (hb b h1 fun g hg e2 => by have := (hr g hg).2.2 o; rw [← e2, e] at this; omega)]; exact hc
  · exact hc.block (hb b h1 fun g hg e2 => by have := (hr g hg).2.2 o; rw [← e2] at this; exact e this)
  · exact World.cell?_of_block (w := w) (a := ⟨b, o, none⟩) (hb b (by omega) fun g hg e2 => by have := (hr g hg).2.1; omega)
theorem Ev.below' (h : Below w.heap.size w w') (hS : S0 ≤ w.heap.size) (hH : H0 ≤ w.heap.size) : Ev tg S0 H0 w w' :=
  Ev.grown (row := none) ⟨h.os, h.tape, h.output, h.size, fun b hb _ => h.block b hb⟩ (fun g hg => by cases hg) hS hH
theorem Ev.set (b o : Nat) (ht : tg b o = k + 1) (hS : S0 ≤ b) (hw : Wr w b o) : Ev tg S0 H0 w (w.setCell ⟨b, o, none⟩ (xk k)) := by
  obtain ⟨u, hu⟩ := Option.isSome_iff_exists.1 hw.1
  have hcell : ∀ b' o', (w.setCell ⟨b, o, none⟩ (xk k)).cell? ⟨b', o', none⟩ = if b' = b ∧ o' = o then some (xk k) else w.cell? ⟨b', o', none⟩ := fun b' o' => by
    by_cases e : b' = b ∧ o' = o
    · rw [if_pos e, e.1, e.2]; exact World.cell?_setCell_same _ _ _ hu
    · rw [if_neg e]
      refine World.cell?_setCell_other _ _ _ _ fun c => e ?_
      simp only [Addr.mk.injEq, and_true] at c
      exact ⟨c.1.symm, c.2.symm⟩
  refine ⟨(Below.refl _ _).setCell (by simpa using hS) _, fun b' o' k' h1 e hc => ?_, fun b' o' h1 e hc => ⟨?_, by rw [World.frozen?_setCell]; exact hc.2⟩, fun b' o' h1 e => ?_⟩
  · rw [hcell]
    split
    · rename_i h; rw [h.1, h.2, ht] at e; rw [show k = k' by omega]
    · exact hc
  · rw [hcell]
    split
    · rfl
    · exact hc.1
  · rw [hcell, if_neg]
    rintro ⟨rfl, rfl⟩
    omega
theorem Ev.setCells (b : Nat) (hS : S0 ≤ b) : ∀ (m o : Nat) (w : World), (∀ i, i < m → tg b (o + i) = k + 1 ∧ Wr w b (o + i)) → Ev tg S0 H0 w (w.setCells b o (List.replicate m (xk k)))
  | 0, o, w, h => Ev.refl w
  | m + 1, o, w, h => by
    obtain ⟨t0, w0⟩ := h 0 (by omega)
    have h1 := Ev.set (tg := tg) (S0 := S0) (H0 := H0) (w := w) b o t0 hS w0
    rw [List.replicate_succ, World.setCells]
    refine h1.trans (Ev.setCells b hS m (o + 1) _ fun i hi => ?_)
    obtain ⟨t2, w2⟩ := h (i + 1) (by omega)
    rw [show o + 1 + i = o + (i + 1) by omega]
    exact ⟨t2, h1.wr _ _ w2.lt (by rw [t2]; omega) w2⟩
theorem RowC.keep (h : RowC w tg S0 k v n m) (hm : m ≤ n) (e : Ev tg S0 H0 w w') : RowC w' tg S0 k v n m := by
  rcases h with h | ⟨b, off, c, rfl, h1, h2, h3, h4⟩
  · exact .inl h
  · refine .inr ⟨b, off, c, rfl, h1, h2, fun i hi => ⟨(h3 i hi).1, e.wr _ _ (h3 i hi).2.lt (by rw [(h3 i hi).1]; omega) (h3 i hi).2⟩, fun i hi => ?_⟩
    obtain ⟨t, hw⟩ := h3 i (by omega)
    exact e.keep _ _ _ hw.lt t (h4 i hi)
theorem RowC.recol (h : RowC w tg S0 k v n m) (ht : ∀ b o, b < w.heap.size → tg' b o = tg b o) : RowC w tg' S0 k v n m := by
  rcases h with h | ⟨b, off, c, rfl, h1, h2, h3, h4⟩
  · exact .inl h
  · exact .inr ⟨b, off, c, rfl, h1, h2, fun i hi => ⟨(ht _ _ (h3 i hi).2.lt).trans (h3 i hi).1, (h3 i hi).2⟩, h4⟩
/-- Marking one word more. -/
theorem RowC.mark {b off c : Nat} (h : RowC w tg S0 k (.slice (some ⟨b, off, none⟩) n c) n m) (hm : m < n) : tg b (off + m) = k + 1 ∧ S0 ≤ b ∧ Wr w b (off + m) ∧ RowC (w.setCell ⟨b, off + m, none⟩ (xk k)) tg S0 k (.slice (some ⟨b, off, none⟩) n c) n (m + 1) := by
  rcases h with ⟨p, h, rfl⟩ | ⟨b', off', c', he, h1, h2, h3, h4⟩
  · omega
  · simp only [Value.slice.injEq, Option.some.injEq, Addr.mk.injEq, and_true, true_and] at he
    obtain ⟨⟨rfl, rfl⟩, rfl⟩ := he
    obtain ⟨t, hw⟩ := h3 m (by omega)
    have hE := Ev.set (tg := tg) (S0 := S0) (H0 := 0) (w := w) b (off + m) t h2 hw
    refine ⟨t, h2, hw, .inr ⟨b, off, c, rfl, h1, h2, fun i hi => ⟨(h3 i hi).1, hE.wr _ _ (h3 i hi).2.lt (by rw [(h3 i hi).1]; omega) (h3 i hi).2⟩, fun i hi => ?_⟩⟩
    by_cases e : i = m
    · subst e
      obtain ⟨u, hu⟩ := Option.isSome_iff_exists.1 hw.1
      exact World.cell?_setCell_same _ _ _ hu
    · obtain ⟨t', hw'⟩ := h3 i (by omega)
      exact hE.keep _ _ _ hw'.lt t' (h4 i (by omega))
/-- A row of the call's own is of one colour. -/
theorem RowC.of_owns {e : TypeId} {B : Nat} (h : w.ownsRow B e 1 v n (List.replicate n (xk k))) (hB : S0 ≤ B) (ht : ∀ b o, B ≤ b → b < w.heap.size → tg b o = k + 1) : RowC w tg S0 k v n n := by
  rcases h.2 with ⟨rfl, h2⟩ | ⟨g, c, cur, rfl, hg, r1, r2, r3, r4, r5⟩
  · exact .inl ⟨none, rfl, h2⟩
  · have hlt : g < w.heap.size := (Array.getElem?_eq_some_iff.1 r1).1
    refine .inr ⟨g, 0, c, rfl, r2, by omega, fun i hi => ⟨ht _ _ hg hlt, ?_⟩, fun i hi => ?_⟩
    · have hi' : i < cur.size := by omega
      exact ⟨by simp [World.cell?, r1, hi'], by simp [World.frozen?, r1]⟩
    · have e := congrArg (fun l => l[i]?) r5
      simp only [List.getElem?_take, List.getElem?_replicate, Nat.mul_one] at e
      rw [if_pos hi, if_pos hi, Array.getElem?_toList] at e
      simp [World.cell?, r1, e]
end
/-- What an append onto a row of one colour leaves. -/
structure ApC (tg tg' : Nat → Nat → Nat) (S0 H0 k n : Nat) (w w' : World) (v' : Value) : Prop where
  row : RowC w' tg' S0 k v' n n
  ev : Ev tg S0 H0 w w'
  col : ∀ b o, b < w.heap.size → tg' b o = tg b o
  fresh : ∀ b o, w'.heap.size ≤ b → tg' b o = 0
  blk : ∀ g, g < w.heap.size → (∀ o, tg g o = 0) → w'.heap[g]? = w.heap[g]?
section
variable {P : Program} {w : World} {tg : Nat → Nat → Nat} {S0 H0 k n m c : Nat} {t ty e : TypeId} {z : Value} {bytes : Nat} {v x : Value} {ad : Addr}
theorem run_appC (ht : P.underlying t = some (.slice e)) (hinfo : (P.info? e).map (fun i => (i.zero, i.size, i.bytes)) = some (some z, 1, bytes)) (hz1 : z.cells.size = 1)
    (h : RowC w tg S0 k v n n) (hf : ∀ b o, w.heap.size ≤ b → tg b o = 0) (hm : 0 < m) (hs : ∀ j, j < m → w.cell? (ad.add j) = some (xk k)) (h63 : n + m ≤ maxLen) (hbytes : (n + m) * bytes ≤ 140737488355328) (hS : S0 ≤ w.heap.size) (hH : H0 ≤ w.heap.size) :
    ∃ v' w' tg', (Builtin.append_ #[t, t] ty #[v, .slice (some ad) m c]).run P w = .ok v' w' ∧ ApC tg tg' S0 H0 k (n + m) w w' v' := by
  obtain ⟨i, hi, hzz⟩ := Option.map_eq_some_iff.1 hinfo
  simp only [Prod.mk.injEq] at hzz
  obtain ⟨hz, hsz, hb⟩ := hzz
  have hnews : ∀ j u, (List.replicate m (xk k))[j]? = some u → w.cell? (ad.add j) = some u := fun j u hu => by
    rw [List.getElem?_replicate] at hu
    split at hu
    · rename_i hj; rw [hs j hj]; exact hu
    · cases hu
  have h1 : ∀ u ∈ List.replicate m (xk k), u.oneCell' = true := fun u hu => by
    rw [(List.mem_replicate.1 hu).2]; rfl
  -- a new block
  have new : ∀ v' w', w'.ownsRow w.heap.size e 1 v' (n + m) (List.replicate (n + m) (xk k)) → w.grownBy w' none → ∃ tg', ApC tg tg' S0 H0 k (n + m) w w' v' := fun v' w' ho hg => by
    refine ⟨fun b o => if w.heap.size ≤ b ∧ b < w'.heap.size then k + 1 else tg b o, RowC.of_owns ho hS (fun b o h1 h2 => by simp [h1, h2]), Ev.grown hg (fun g hg => by cases hg) hS hH, fun b o hb => ?_, fun b o hb => ?_, fun g hg0 _ => hg.block g hg0 (by simp)⟩
    · rw [if_neg (by omega)]
    · rw [if_neg (by omega)]; exact hf b o (by have := hg.size; omega)
  rcases h with ⟨p, rfl, rfl⟩ | ⟨b, off, c0, rfl, hnc, hSb, h3, h4⟩
  · cases p with
    | none =>
      obtain ⟨v', w', hrun, h2, h3, _, _⟩ := run_append_own_at (P := P) w w.heap.size t ty e i z 1 bytes ht hi hz hsz hb hz1 (by decide) (.slice none 0 0) 0 [] (World.ownsRow_nil w _ e 1) ad m c (List.replicate m (xk k)) (by simp) hnews h1 h63 hbytes (Nat.le_refl _)
      obtain ⟨tg', hA⟩ := new v' w' (by simpa using h2) (by simpa [Value.ownBlock] using h3)
      exact ⟨v', w', tg', hrun, hA⟩
    | some a =>
      obtain ⟨v', w', hrun, h2, h3⟩ := run_append_arg_grows (P := P) w t ty e i z 1 bytes ht hi hz hsz hb hz1 (by decide) a 0 0 [] (by simp) (fun j u hj => by simp at hj) ad m c (List.replicate m (xk k)) (by simp) hnews (by omega) h63 hbytes
      obtain ⟨tg', hA⟩ := new v' w' (by simpa using h2) h3
      exact ⟨v', w', tg', hrun, hA⟩
  · by_cases hroom : n + m ≤ c0
    · have hrun := run_append_room_cells (P := P) w t ty e i ht hi b off n c0 ad m c (List.replicate m (xk k)) (by rw [hsz]; simp) hnews h1 hroom (fun j hj => by rw [hsz, Nat.mul_one, Nat.add_assoc]; rw [List.length_replicate] at hj; exact (h3 (n + j) (by omega)).2.1) (fun j hj => by rw [hsz, Nat.mul_one, Nat.add_assoc]; rw [List.length_replicate] at hj; exact (h3 (n + j) (by omega)).2.2)
      rw [hsz, Nat.mul_one] at hrun
      have hE : Ev tg S0 H0 w (w.setCells b (off + n) (List.replicate m (xk k))) := Ev.setCells b hSb m (off + n) w fun i hi => by rw [Nat.add_assoc]; exact h3 (n + i) (by omega)
      have hsize : (w.setCells b (off + n) (List.replicate m (xk k))).heap.size = w.heap.size := by
        clear hrun hE
        generalize List.replicate m (xk k) = l
        generalize off + n = o
        induction l generalizing o w with
        | nil => rfl
        | cons a l ih =>
          rw [World.setCells]
          have : ∀ (w : World) (o : Nat), (w.setCells b o l).heap.size = w.heap.size := by
            clear ih
            induction l with
            | nil => intro w o; rfl
            | cons a l ih => intro w o; rw [World.setCells, ih]; simp
          rw [this]; simp
      have hoth : ∀ g, g ≠ b → (w.setCells b (off + n) (List.replicate m (xk k))).heap[g]? = w.heap[g]? := by
        clear hrun hE hsize
        generalize List.replicate m (xk k) = l
        generalize off + n = o
        intro g hg
        have : ∀ (l : List Value) (w : World) (o : Nat), (w.setCells b o l).heap[g]? = w.heap[g]? := by
          intro l
          induction l with
          | nil => intro w o; rfl
          | cons a l ih => intro w o; rw [World.setCells, ih]; exact Below.heap_setCell _ _ _ _ hg
        exact this l w o
      refine ⟨_, _, tg, hrun, .inr ⟨b, off, c0, rfl, hroom, hSb, fun i hi => ⟨(h3 i hi).1, hE.wr _ _ (h3 i hi).2.lt (by rw [(h3 i hi).1]; omega) (h3 i hi).2⟩, fun i hi => ?_⟩, hE, fun _ _ _ => rfl, fun b' o hb' => hf b' o (by rw [hsize] at hb'; exact hb'), fun g hg h0 => hoth g fun e => ?_⟩
      · by_cases hin : i < n
        · exact hE.keep _ _ _ (h3 i (by omega)).2.lt (h3 i (by omega)).1 (h4 i hin)
        · obtain ⟨j, rfl⟩ : ∃ j, i = n + j := ⟨i - n, by omega⟩
          have := World.cell?_setCells_in b (List.replicate m (xk k)) (off + n) w (fun j hj => by rw [Nat.add_assoc]; rw [List.length_replicate] at hj; exact (h3 (n + j) (by omega)).2.1) j (by simp; omega)
          rw [← Nat.add_assoc, this, List.getElem_replicate]
      · have := (h3 n (by omega)).1
        rw [e] at h0
        rw [h0] at this
        omega
    · obtain ⟨v', w', hrun, h2, h5⟩ := run_append_arg_grows (P := P) w t ty e i z 1 bytes ht hi hz hsz hb hz1 (by decide) ⟨b, off, none⟩ n c0 (List.replicate n (xk k)) (by simp) (fun j u hj => by
        rw [List.getElem?_replicate] at hj
        split at hj
        · rename_i hj'
          rw [show (⟨b, off, none⟩ : Addr).add j = ⟨b, off + j, none⟩ by unfold Addr.add; split <;> simp_all, h4 j hj']
          exact hj
        · cases hj) ad m c (List.replicate m (xk k)) (by simp) hnews (by omega) h63 hbytes
      rw [List.replicate_append_replicate] at h2
      obtain ⟨tg', hA⟩ := new v' w' h2 h5
      exact ⟨v', w', tg', hrun, hA⟩
theorem wp_appC {o : Oper} {a : Act} {K : Act → World → Prop} {Q : Exit → Act → World → Prop} (s y : Operand) (ho : o.op = .call { callee := .builtin .append, args := #[s, y], argTypes := #[t, t] })
    (ht : P.underlying t = some (.slice e)) (hinfo : (P.info? e).map (fun i => (i.zero, i.size, i.bytes)) = some (some z, 1, bytes)) (hz1 : z.cells.size = 1) (hv : a.eval s = v)
    (h : RowC w tg S0 k v n n) (hx : a.eval y = .slice (some ad) m c) (hf : ∀ b o, w.heap.size ≤ b → tg b o = 0) (hm : 0 < m) (hs : ∀ j, j < m → w.cell? (ad.add j) = some (xk k)) (h63 : n + m ≤ maxLen) (hbytes : (n + m) * bytes ≤ 140737488355328) (hS : S0 ≤ w.heap.size) (hH : H0 ≤ w.heap.size)
    (hk : ∀ v' w' tg', ApC tg tg' S0 H0 k (n + m) w w' v' → K (a.put o.dst v') w') : o.wp P a w K Q := by
  obtain ⟨v', w', tg', hr, h2⟩ := run_appC (P := P) (ty := o.type) (c := c) (H0 := H0) ht hinfo hz1 h hf hm hs h63 hbytes hS hH
  unfold Oper.wp
  simp [execOp, ho, resolve, invoke, builtin, hv, hx, hr, Result.andThen]
  exact hk v' w' tg' h2
theorem wpList_appC {ops : Array Oper} {rest : List Oper} {o : Oper} {a : Act} {Q : Exit → Act → World → Prop} (hgd : o.guard = none) (s y : Operand) (ho : o.op = .call { callee := .builtin .append, args := #[s, y], argTypes := #[t, t] })
    (ht : P.underlying t = some (.slice e)) (hinfo : (P.info? e).map (fun i => (i.zero, i.size, i.bytes)) = some (some z, 1, bytes)) (hz1 : z.cells.size = 1) (hv : a.eval s = v)
    (h : RowC w tg S0 k v n n) (hx : a.eval y = .slice (some ad) m c) (hf : ∀ b o, w.heap.size ≤ b → tg b o = 0) (hm : 0 < m) (hs : ∀ j, j < m → w.cell? (ad.add j) = some (xk k)) (h63 : n + m ≤ maxLen) (hbytes : (n + m) * bytes ≤ 140737488355328) (hS : S0 ≤ w.heap.size) (hH : H0 ≤ w.heap.size)
    (hk : ∀ v' w' tg', ApC tg tg' S0 H0 k (n + m) w w' v' → wpList P ops Q rest (a.put o.dst v') w') : wpList P ops Q (o :: rest) a w :=
  wpList_plain hgd fun _ hK => wp_appC s y ho ht hinfo hz1 hv h hx hf hm hs h63 hbytes hS hH fun v' w' tg' h2 => hK _ _ (hk v' w' tg' h2)
theorem step_appC {ops : Array Oper} {o : Oper} {a : Act} {K : Act → World → Prop} {Q : Exit → Act → World → Prop} {E : Prop} (hgd : o.guard = none) (s y : Operand) (ho : o.op = .call { callee := .builtin .append, args := #[s, y], argTypes := #[t, t] })
    (ht : P.underlying t = some (.slice e)) (hinfo : (P.info? e).map (fun i => (i.zero, i.size, i.bytes)) = some (some z, 1, bytes)) (hz1 : z.cells.size = 1) (hv : a.eval s = v)
    (h : RowC w tg S0 k v n n) (hx : a.eval y = .slice (some ad) m c) (hf : ∀ b o, w.heap.size ≤ b → tg b o = 0) (hm : 0 < m) (hs : ∀ j, j < m → w.cell? (ad.add j) = some (xk k)) (h63 : n + m ≤ maxLen) (hbytes : (n + m) * bytes ≤ 140737488355328) (hS : S0 ≤ w.heap.size) (hH : H0 ≤ w.heap.size)
    (hk : ∀ v' w' tg', ApC tg tg' S0 H0 k (n + m) w w' v' → K (a.put o.dst v') w') : if Region.wanted o (yielded ops a.tmps) = true then Oper.wp P o a w K Q else E := by
  rw [if_pos (by simp [Region.wanted, hgd])]
  exact wp_appC s y ho ht hinfo hz1 hv h hx hf hm hs h63 hbytes hS hH hk
end
end
section
open Go Go.ChangeShapes Go.WideShapes Go.RowKit
set_option linter.unusedVariables false
set_option linter.unusedSimpArgs false
theorem infoWd : (Try.prog.info? 46).map (fun i => (i.zero, i.size, i.bytes)) = some (some (.int .u64 0), 1, 8) := by kernel_rfl
theorem infoWds : (Try.prog.info? 22).map (fun i => (i.zero, i.size, i.bytes)) = some (some (.slice none 0 0), 1, 24) := by kernel_rfl
def vz : Value := .bool false
theorem rowC_form {w : World} {tg : Nat → Nat → Nat} {S0 k n m : Nat} {v : Value} (h : RowC w tg S0 k v n m) : ∃ p c, v = .slice p n c ∧ (0 < n → ∃ b off, p = some ⟨b, off, none⟩) := by
  rcases h with ⟨p, rfl, rfl⟩ | ⟨b, off, c, rfl, _⟩
  · exact ⟨p, 0, rfl, fun h => by omega⟩
  · exact ⟨_, c, rfl, fun _ => ⟨b, off, rfl⟩⟩
theorem rowC_cell {w : World} {tg : Nat → Nat → Nat} {S0 k n m c b off i : Nat} (h : RowC w tg S0 k (.slice (some ⟨b, off, none⟩) n c) n m) (hn : 0 < n) (hi : i < m) : w.cell? ⟨b, off + i, none⟩ = some (.int .u64 ((k : Int) + 1000)) := by
  rcases h with ⟨p, h, rfl⟩ | ⟨b', off', c', he, h1, h2, h3, h4⟩
  · omega
  · simp only [Value.slice.injEq, Option.some.injEq, Addr.mk.injEq, and_true, true_and] at he
    obtain ⟨⟨rfl, rfl⟩, rfl⟩ := he
    exact h4 i hi
theorem rowC_one {w : World} {tg : Nat → Nat → Nat} {S0 k n m : Nat} {v : Value} (h : RowC w tg S0 k v n m) : v.oneCell' = true := by
  obtain ⟨p, c, rfl, _⟩ := rowC_form h
  rfl
theorem Ev.trans2 {tg tg' : Nat → Nat → Nat} {S0 H0 : Nat} {w w' w2 : World} (h : Ev tg S0 H0 w w') (g : Ev tg' S0 H0 w' w2) (ho : ∀ b o, b < w.heap.size → tg' b o = tg b o) (hH : H0 ≤ w.heap.size) : Ev tg S0 H0 w w2 :=
  ⟨h.below.trans g.below, fun b o k hb ht hc => g.keep b o k (Nat.lt_of_lt_of_le hb h.below.size) ((ho b o hb).trans ht) (h.keep b o k hb ht hc),
    fun b o hb ht hc => g.wr b o (Nat.lt_of_lt_of_le hb h.below.size) (by rw [ho b o hb]; exact ht) (h.wr b o hb ht hc), fun b o hb ht => (g.un b o hb ((ho b o (by omega)).trans ht)).trans (h.un b o hb ht)⟩
/-- Where Apart stands: all lists marked, those of the first K grown. -/
structure AI (w : World) (tg : Nat → Nat → Nat) (S0 : Nat) (vs : List Value) (ns : Nat → Nat) (K : Nat) (gv : Value) (gs : List Value) (tgx : Nat → Nat → Nat) (wx : World) : Prop where
  ev : Ev tg S0 w.heap.size w wx
  old : ∀ b o, b < w.heap.size → tgx b o = tg b o
  fresh : ∀ b o, wx.heap.size ≤ b → tgx b o = 0
  rows : ∀ j, j < vs.length → RowC wx tgx S0 j (vs.getD j vz) (ns j) (ns j)
  gl : gs.length = 2 * K
  own : wx.ownsRow w.heap.size 22 1 gv (2 * K) gs
  gt : ∀ g, gv.ownBlock = some g → ∀ o, tgx g o = 0
  gr : ∀ j, j < 2 * K → ∃ n, RowC wx tgx S0 (j / 2) (gs.getD j vz) n n ∧ n ≤ 8796093022308
section
variable {w wx w' : World} {tg tgx tg' : Nat → Nat → Nat} {S0 K k n : Nat} {vs gs : List Value} {ns : Nat → Nat} {gv v v' : Value}
theorem owns_lt {B sz : Nat} {T : TypeId} {xs : List Value} (h : w.ownsRow B T sz v n xs) {g : Nat} (hg : v.ownBlock = some g) : B ≤ g ∧ g < w.heap.size := World.ownsRow.lt h g hg
theorem owns_block {B sz : Nat} {T : TypeId} {xs : List Value} (h : w.ownsRow B T sz v n xs) (hb : ∀ g, v.ownBlock = some g → w'.heap[g]? = w.heap[g]?) : w'.ownsRow B T sz v n xs := by
  refine ⟨h.1, ?_⟩
  rcases h.2 with h2 | ⟨g, c, cur, rfl, h0, hg, r⟩
  · exact .inl h2
  · exact .inr ⟨g, c, cur, rfl, h0, (hb g rfl).trans hg, r⟩
theorem AI.size (h : AI w tg S0 vs ns K gv gs tgx wx) : w.heap.size ≤ wx.heap.size := h.ev.below.size
/-- One step that writes coloured words alone. -/
theorem AI.step (h : AI w tg S0 vs ns K gv gs tgx wx) (hE : Ev tgx S0 w.heap.size wx w') (hc : ∀ b o, b < wx.heap.size → tg' b o = tgx b o) (hf : ∀ b o, w'.heap.size ≤ b → tg' b o = 0) (hb : ∀ g, g < wx.heap.size → (∀ o, tgx g o = 0) → w'.heap[g]? = wx.heap[g]?) :
    AI w tg S0 vs ns K gv gs tg' w' := by
  have hs := h.size
  have hE' : Ev tg' S0 w.heap.size wx w' := hE.recol (fun b o hb => (hc b o hb).symm) hs
  refine ⟨h.ev.trans2 hE h.old (Nat.le_refl _), fun b o hb => (hc b o (by omega)).trans (h.old b o hb), hf, fun j hj => ((h.rows j hj).recol hc).keep (Nat.le_refl _) hE', h.gl, owns_block h.own fun g hg => hb g (owns_lt h.own hg).2 (h.gt g hg), fun g hg o => ?_, fun j hj => ?_⟩
  · rw [hc g o (owns_lt h.own hg).2]; exact h.gt g hg o
  · obtain ⟨n, h1, h2⟩ := h.gr j hj
    exact ⟨n, (h1.recol hc).keep (Nat.le_refl _) hE', h2⟩
theorem AI.apc (h : AI w tg S0 vs ns K gv gs tgx wx) (a : ApC tgx tg' S0 w.heap.size k n wx w' v') : AI w tg S0 vs ns K gv gs tg' w' := h.step a.ev a.col a.fresh a.blk
theorem AI.low (h : AI w tg S0 vs ns K gv gs tgx wx) (hS : S0 ≤ w.heap.size) (hb : Below wx.heap.size wx w') : AI w tg S0 vs ns K gv gs tgx w' :=
  h.step (Ev.below' hb (Nat.le_trans hS h.size) h.size) (fun _ _ _ => rfl) (fun b o hb' => h.fresh b o (Nat.le_trans hb.size hb')) (fun g hg _ => hb.block g hg)
/-- A pair of grown lists more. -/
theorem AI.push {n1 n2 : Nat} {v1 v2 : Value} (h : AI w tg S0 vs ns K gv gs tgx wx) (hS : S0 ≤ w.heap.size) (h1 : RowC wx tgx S0 K v1 n1 n1) (h2 : RowC wx tgx S0 K v2 n2 n2) (l1 : n1 ≤ 8796093022308) (l2 : n2 ≤ 8796093022308)
    (ha : Apd wx w' w.heap.size 22 gv v' (2 * K + 2) (gs ++ [v1, v2])) : AI w tg S0 vs ns (K + 1) v' (gs ++ [v1, v2]) tgx w' := by
  have hs := h.size
  have hrow : ∀ g, gv.ownBlock = some g → S0 ≤ g ∧ w.heap.size ≤ g ∧ ∀ o, tgx g o = 0 := fun g hg => ⟨Nat.le_trans hS (owns_lt h.own hg).1, (owns_lt h.own hg).1, h.gt g hg⟩
  have hE : Ev tgx S0 w.heap.size wx w' := Ev.grown ha.grown hrow (Nat.le_trans hS hs) hs
  refine ⟨h.ev.trans2 hE h.old (Nat.le_refl _), h.old, fun b o hb => h.fresh b o (Nat.le_trans ha.grown.size hb), fun j hj => (h.rows j hj).keep (Nat.le_refl _) hE, by simp [h.gl]; omega, by rw [show 2 * (K + 1) = 2 * K + 2 by omega]; exact ha.own, fun g hg o => ?_, fun j hj => ?_⟩
  · rcases ha.at_ with e | e
    · rw [e] at hg; exact h.gt g hg o
    · rw [e] at hg
      simp only [Option.some.injEq] at hg
      exact h.fresh g o (by omega)
  · have hgl := h.gl
    by_cases e : j < 2 * K
    · obtain ⟨n, e1, e2⟩ := h.gr j e
      refine ⟨n, ?_, e2⟩
      rw [List.getD_eq_getElem?_getD, List.getElem?_append_left (by omega), ← List.getD_eq_getElem?_getD]
      exact e1.keep (Nat.le_refl _) hE
    · obtain ⟨q, rfl⟩ : ∃ q, j = 2 * K + q := ⟨j - 2 * K, by omega⟩
      rw [List.getD_eq_getElem?_getD, List.getElem?_append_right (by omega), hgl, show 2 * K + q - 2 * K = q by omega, show (2 * K + q) / 2 = K by omega]
      match q, (show q < 2 by omega) with
      | 0, _ => exact ⟨n1, by simpa using h1.keep (Nat.le_refl _) hE, l1⟩
      | 1, _ => exact ⟨n2, by simpa using h2.keep (Nat.le_refl _) hE, l2⟩
theorem AI.ls (h : AI w tg S0 vs ns K gv gs tgx wx) {b o : Nat} {u : Value} (hb : b < w.heap.size) (ht : tg b o = 0) (hc : w.cell? ⟨b, o, none⟩ = some u) : wx.cell? ⟨b, o, none⟩ = some u := (h.ev.un b o hb ht).trans hc
theorem AI.gcell (h : AI w tg S0 vs ns K gv gs tgx wx) {j : Nat} (hj : j < 2 * K) : ∃ b c, gv = .slice (some ⟨b, 0, none⟩) (2 * K) c ∧ wx.cell? ⟨b, j, none⟩ = some (gs.getD j vz) := by
  have hgl := h.gl
  rcases h.own.2 with ⟨rfl, h2⟩ | ⟨g, c, cur, rfl, hg, r1, r2, r3, r4, r5⟩
  · omega
  · refine ⟨g, c, rfl, ?_⟩
    have e := congrArg (fun l => l[j]?) r5
    simp only [List.getElem?_take] at e
    rw [if_pos (by omega), Array.getElem?_toList] at e
    rw [List.getD_eq_getElem?_getD, List.getElem?_eq_getElem (by omega)]
    rw [List.getElem?_eq_getElem (by omega)] at e
    simp [World.cell?, r1, e]
end
theorem owns_form0 {w : World} {B sz n : Nat} {T : TypeId} {v : Value} {xs : List Value} (h : w.ownsRow B T sz v n xs) : ∃ p c, v = .slice p n c := by
  rcases h.2 with ⟨rfl, rfl⟩ | ⟨g, c, cur, rfl, _⟩
  · exact ⟨none, 0, rfl⟩
  · exact ⟨_, c, rfl⟩
theorem made48 (w : World) : (Instr.makeSlice 22 (.int .i64 48) (.int .i64 48)).run Try.prog w = .ok (.slice (some ⟨w.heap.size, 0, none⟩) 48 48) (w.alloc (.cells (madeCells #[.int .u64 0] 48) 46)) :=
  run_make_row' (P := Try.prog) 22 46 (.int .u64 0) 8 Try.underlying22 infoWd rfl .i64 .i64 48 (by omega) (by omega) w
theorem fill_set (a : Int) (i : Nat) (hi : i < 48) : (List.replicate i a ++ List.replicate (48 - i) 0).set i a = List.replicate (i + 1) a ++ List.replicate (48 - (i + 1)) 0 := by
  refine List.ext_getElem (by simp; omega) fun j h1 h2 => ?_
  rw [List.getElem_set]
  by_cases e : i = j
  · subst e
    rw [if_pos rfl, List.getElem_append_left (by simp)]
    simp
  · rw [if_neg e]
    by_cases h : j < i
    · rw [List.getElem_append_left (by simpa using h), List.getElem_append_left (by simp; omega)]
      simp
    · rw [List.getElem_append_right (by simp; omega), List.getElem_append_right (by simp; omega)]
      simp
theorem rep48 (a : Int) (j : Nat) (hj : j < 48) : (List.replicate 48 a ++ List.replicate (48 - 48) 0).getD j 0 = a := by
  rw [List.getD_eq_getElem?_getD, List.getElem?_append_left (by simpa using hj), List.getElem?_replicate, if_pos hj]; rfl
/-- What Apart is handed: the cells of the list bear no colour. -/
structure AHyp (w : World) (tg : Nat → Nat → Nat) (S0 : Nat) (p : Option Addr) (vs : List Value) (ns : Nat → Nat) : Prop where
  ls : ∀ i, i < vs.length → ∃ b off, p = some ⟨b, off, none⟩ ∧ b < w.heap.size ∧ tg b (off + i) = 0 ∧ w.cell? ⟨b, off + i, none⟩ = some (vs.getD i vz)
  row : ∀ k, k < vs.length → RowC w tg S0 k (vs.getD k vz) (ns k) 0
  fresh : ∀ b o, w.heap.size ≤ b → tg b o = 0
  hS : S0 ≤ w.heap.size
  len : vs.length ≤ 4194304
  hn : ∀ k, k < vs.length → ns k ≤ 8796093022208
set_option maxRecDepth 100000 in
set_option maxHeartbeats 8000000 in
theorem apart_any (p : Option Addr) (c : Nat) (vs : List Value) (ns : Nat → Nat) (tg : Nat → Nat → Nat) (S0 : Nat) (w : World) (h : AHyp w tg S0 p vs ns) :
    Calls Try.prog 28 #[.slice p vs.length c] w fun e w' => e = .returned (.bool true) ∧ Below S0 w w' := by
  have HH := Lib.hid h
  have hlen := h.len
  clear h
  go_enter Try.func28, Try.ntmps28
  go_wp2_with fail
  go_loopw [3] (fun s3 wx => ∃ k : Nat, s3 = .int .i64 k ∧ k ≤ vs.length ∧ Ev tg S0 w.heap.size w wx ∧ ∀ j, j < k → RowC wx tg S0 j (vs.getD j vz) (ns j) (ns j)) (fun s3 _ => vs.length - (intOf s3).toNat)
  case atStart => exact ⟨0, rfl, Nat.zero_le _, Ev.refl _, fun j hj => by omega⟩
  case round =>
    obtain ⟨k, rfl, hk, hev, hdone⟩ := hrel
    have HEV := Lib.hid hev
    have HD := Lib.hid hdone
    clear hev hdone
    by_cases hlt : k < vs.length
    · have hlz : (k : Int) < (vs.length : Int) := by omega
      obtain ⟨b0, o0, rfl, hb0, ht0, hc0⟩ := HH.out.ls k hlt
      have hrk := (HH.out.row k hlt).keep (Nat.zero_le _) HEV.out
      have hnl := HH.out.hn k hlt
      obtain ⟨vk, hvk⟩ : ∃ vk, vs.getD k vz = vk := ⟨_, rfl⟩
      obtain ⟨n, hn⟩ : ∃ n, ns k = n := ⟨_, rfl⟩
      rw [hvk, hn] at hrk
      rw [hvk] at hc0
      rw [hn] at hnl
      obtain ⟨pk, ck, rfl, hpk⟩ := rowC_form hrk
      have HRK := Lib.hid hrk
      have HPK := Lib.hid hpk
      have HVK := Lib.hid hvk
      have HN := Lib.hid hn
      have HC0 := Lib.hid hc0
      have HLT := Lib.hid hlt
      clear hrk hpk hvk hn hc0
      go_wp2_with fail
      go_loopw [4] (fun s4 wx => ∃ i : Nat, s4 = .int .i64 i ∧ i ≤ n ∧ Ev tg S0 w.heap.size w wx ∧ (∀ j, j < k → RowC wx tg S0 j (vs.getD j vz) (ns j) (ns j)) ∧ RowC wx tg S0 k (.slice pk n ck) n i) (fun s4 _ => n - (intOf s4).toNat)
      case atStart => exact ⟨0, rfl, Nat.zero_le _, HEV.out, HD.out, HRK.out⟩
      case round =>
        obtain ⟨i, rfl, hi, hev2, hdone2, hrow2⟩ := hrel
        have ecl := (hev2.un b0 (o0 + k) hb0 ht0).trans HC0.out
        have HEV2 := Lib.hid hev2
        have HD2 := Lib.hid hdone2
        have HR2 := Lib.hid hrow2
        clear hev2 hdone2 hrow2
        by_cases hil : i < n
        · have hiz : (i : Int) < (n : Int) := by omega
          obtain ⟨b, off, rfl⟩ := HPK.out (by omega)
          obtain ⟨htag, hSb, hwr, hnew⟩ := HR2.out.mark hil
          have HNW := Lib.hid hnew
          have HST := Lib.hid (Ev.set (tg := tg) (S0 := S0) (H0 := w.heap.size) b (off + i) htag hSb hwr)
          obtain ⟨u, hu⟩ := Option.isSome_iff_exists.1 hwr.1
          have hfz := hwr.2
          unfold xk at HNW HST
          clear hnew hwr htag
          go_wp2_with fail
          go_roundw
          case rel => exact ⟨i + 1, by go_num, by omega, HEV2.out.trans HST.out, fun j hj => (HD2.out j hj).keep (Nat.le_refl _) HST.out, HNW.out⟩
          case measure => simp [intOf]; omega
        · have hiz : ¬ (i : Int) < (n : Int) := by omega
          obtain rfl : i = n := by omega
          go_wp2_with fail
          go_roundw
          case rel => exact ⟨k + 1, by go_num, by have := HLT.out; omega, HEV2.out, fun j hj => by
            by_cases e : j = k
            · subst e; rw [HVK.out, HN.out]; exact HR2.out
            · exact HD2.out j (by omega)⟩
          case measure => have := HLT.out; simp [intOf]; omega
    · have hlz : ¬ (k : Int) < (vs.length : Int) := by omega
      obtain rfl : k = vs.length := by omega
      have HAI := Lib.hid (show AI w tg S0 vs ns 0 (.slice none 0 0) [] tg wr from ⟨HEV.out, fun _ _ _ => rfl, fun b o hb => HH.out.fresh b o (by have := HEV.out.below.size; omega), fun j hj => HD.out j (by omega), rfl, World.ownsRow_nil _ _ _ _, fun g hg => (by cases hg), fun j hj => (by omega)⟩)
      go_wp2_with fail
      go_loopw [5, 6] (fun s5 s6 wx => ∃ (K : Nat) (gs : List Value) (tgx : Nat → Nat → Nat), s6 = .int .i64 K ∧ K ≤ vs.length ∧ AI w tg S0 vs ns K s5 gs tgx wx) (fun _ s6 _ => vs.length - (intOf s6).toNat)
      case atStart => exact ⟨0, [], tg, rfl, Nat.zero_le _, HAI.out⟩
      case round =>
        obtain ⟨K, gs, tgx, rfl, hK, hai⟩ := hrel
        obtain ⟨pg, cg, rfl⟩ := owns_form0 hai.own
        have HA := Lib.hid hai
        clear hai HAI HEV HD
        by_cases hKl : K < vs.length
        · have hKz : (K : Int) < (vs.length : Int) := by omega
          obtain ⟨b0, o0, rfl, hb0, ht0, hc0⟩ := HH.out.ls K hKl
          have hrk := HA.out.rows K hKl
          have hnl := HH.out.hn K hKl
          obtain ⟨vk, hvk⟩ : ∃ vk, vs.getD K vz = vk := ⟨_, rfl⟩
          obtain ⟨n, hn⟩ : ∃ n, ns K = n := ⟨_, rfl⟩
          rw [hvk, hn] at hrk
          rw [hvk] at hc0
          rw [hn] at hnl
          obtain ⟨pk, ck, rfl, hpk⟩ := rowC_form hrk
          have ecl := HA.out.ls hb0 ht0 hc0
          have HRK := Lib.hid hrk
          have HVK := Lib.hid hvk
          have HN := Lib.hid hn
          have HC0 := Lib.hid hc0
          have HKL := Lib.hid hKl
          clear hrk hpk hvk hn hc0
          go_wp2_with fail
          clear ecl
          go_loopw [7, 8] (fun s7 s8 wx => ∃ (q : Nat) (tgx : Nat → Nat → Nat), s8 = .int .i64 q ∧ q ≤ 6 ∧ AI w tg S0 vs ns K (.slice pg (2 * K) cg) gs tgx wx ∧ RowC wx tgx S0 K s7 (n + q) (n + q)) (fun _ s8 _ => 6 - (intOf s8).toNat)
          case atStart => exact ⟨0, tgx, rfl, by omega, HA.out, HRK.out⟩
          case round =>
            obtain ⟨q, tg4, rfl, hq, hai4, hrow4⟩ := hrel
            obtain ⟨p7, c7, rfl, _⟩ := rowC_form hrow4
            have HA4 := Lib.hid hai4
            have HR4 := Lib.hid hrow4
            have hs4 := hai4.size
            clear hai4 hrow4
            by_cases hq6 : q < 6
            · have hqz : (q : Int) < 6 := by omega
              go_wp2_with (first
                | (at_builtin; refine wpList_appC rfl (.tmp 53) (.tmp 57) rfl Try.underlying22 infoWd rfl rfl (H0 := w.heap.size) (S0 := S0) (k := K) (n := n + q) (m := 1) (tg := tg4) (HR4.out.keep (Nat.le_refl _) (Ev.below' ((Below.refl _ _).alloc (Nat.le_refl _) _) (Nat.le_trans HH.out.hS hs4) hs4)) rfl (fun b o hb => HA4.out.fresh b o (by simp at hb; omega)) (by decide) (fun j hj => by (obtain rfl : j = 0 := by omega); exact cell_one_new wr (xk K) _ 0 _ rfl) (by unfold maxLen; omega) (by omega) (by have := HH.out.hS; simp; omega) (by simp; omega) ?_; intro v' w' tg' hap; obtain ⟨p8, c8, rfl, _⟩ := rowC_form hap.row; have HAP := Lib.hid hap; clear hap)
                | fail)
              go_roundw
              case rel => exact ⟨q + 1, tg', by go_num, by omega, (HA4.out.low HH.out.hS ((Below.refl _ _).alloc (Nat.le_refl _) _)).apc HAP.out, HAP.out.row⟩
              case measure => simp [intOf]; omega
            · have hqz : ¬ (q : Int) < 6 := by omega
              obtain rfl : q = 6 := by omega
              have hmk := made48 wr
              have hL0 := LR.made (k := .u64) (T := 46) wr 48
              have HL0 := Lib.hid hL0
              clear hL0
              go_wp2_with fail
              clear hmk
              obtain ⟨W5, rfl⟩ : ∃ W5 : World, W5 = wr := ⟨_, rfl⟩
              go_loopw [10] (fun s10 wx => ∃ i : Nat, s10 = .int .i64 i ∧ i ≤ 48 ∧ Below W5.heap.size W5 wx ∧ LR .u64 46 wx W5.heap.size (List.replicate i ((K : Int) + 1000) ++ List.replicate (48 - i) 0)) (fun s10 _ => 48 - (intOf s10).toNat)
              case atStart => exact ⟨0, rfl, by omega, (Below.refl _ _).alloc (Nat.le_refl _) _, HL0.out⟩
              case round =>
                obtain ⟨i, rfl, hi, hb5, hl5⟩ := hrel
                have HB5 := Lib.hid hb5
                have HL5 := Lib.hid hl5
                clear hb5 hl5
                by_cases hi48 : i < 48
                · have hiz : (i : Int) < 48 := by omega
                  have q1 := HL5.out.cell (i := i) (by simp; omega)
                  have q2 := HL5.out.frozen i
                  have HLS := Lib.hid (HL5.out.set i ((K : Int) + 1000))
                  rw [fill_set _ i hi48] at HLS
                  generalize (List.replicate i ((K : Int) + 1000) ++ List.replicate (48 - i) 0).getD i 0 = y at q1
                  go_wp2_with fail
                  go_roundw
                  case rel => exact ⟨i + 1, by go_num, by omega, HB5.out.setCell (Nat.le_refl _) _, HLS.out⟩
                  case measure => simp [intOf]; omega
                · have hiz : ¬ (i : Int) < 48 := by omega
                  obtain rfl : i = 48 := by omega
                  have HA5 := Lib.hid (HA4.out.low HH.out.hS HB5.out)
                  have HR5 := Lib.hid (HR4.out.keep (Nat.le_refl _) (Ev.below' HB5.out (Nat.le_trans HH.out.hS hs4) hs4))
                  have ecl := HA5.out.ls hb0 ht0 HC0.out
                  have hrk5 := HA5.out.rows K HKL.out
                  rw [HVK.out, HN.out] at hrk5
                  have HRK5 := Lib.hid hrk5
                  have hs5 := HA5.out.size
                  have hsrc : ∀ j, j < 48 → wr.cell? ((⟨W5.heap.size, 0, none⟩ : Addr).add j) = some (xk K) := fun j hj => by
                    have := HL5.out.cell (i := j) (by simpa using hj)
                    rw [show (⟨W5.heap.size, 0, none⟩ : Addr).add j = ⟨W5.heap.size, j, none⟩ by unfold Addr.add; split <;> simp_all, this, rep48 _ j hj]
                    rfl
                  have HSRC := Lib.hid hsrc
                  clear hrk5 hsrc
                  go_wp2_with (first
                    | (at_builtin; refine wpList_appC rfl (.tmp 77) (.tmp 78) rfl Try.underlying22 infoWd rfl rfl (H0 := w.heap.size) (S0 := S0) (k := K) (n := n) (m := 48) (tg := tg4) HRK5.out rfl (fun b o hb => HA5.out.fresh b o hb) (by decide) HSRC.out (by unfold maxLen; omega) (by omega) (Nat.le_trans HH.out.hS hs5) hs5 ?_; intro v' w8 tg8 hap; obtain ⟨p8, c8, rfl, _⟩ := rowC_form hap.row; have HAP := Lib.hid hap; have HA8 := Lib.hid (HA5.out.apc hap); clear hap)
                    | (at_builtin; refine wpList_app rfl (.tmp 72) (.tmp 80) rfl Try.underlying51 infoWds rfl rfl (v := .slice pg (2 * K) cg) (base := w.heap.size) (n := 2 * K) (m := 2) (xs := gs) (news := [.slice p7 (n + 6) c7, .slice p8 (n + 48) c8]) (HA8.out.low HH.out.hS ((Below.refl _ _).alloc (Nat.le_refl _) _)).own rfl (by exact src_top (by first | rfl | (simp; done))) (fun u hu => by simp at hu; rcases hu with rfl | rfl <;> rfl) (by unfold maxLen; omega) (by omega) (by have := HA8.out.size; simp; omega) ?_; intro v9 w9 hap; obtain ⟨p9, c9, rfl⟩ := owns_form0 hap.own; have HAP9 := Lib.hid hap; clear hap)
                    | fail)
                  have hal8 : Below w8.heap.size w8 (w8.alloc (.cells #[.slice p7 (n + 6) c7, .slice p8 (n + 48) c8] 22)) := (Below.refl _ _).alloc (Nat.le_refl _) _
                  have hE8 : Ev tg8 S0 w.heap.size w8 (w8.alloc (.cells #[.slice p7 (n + 6) c7, .slice p8 (n + 48) c8] 22)) := Ev.below' hal8 (Nat.le_trans HH.out.hS HA8.out.size) HA8.out.size
                  have hE58 : Ev tg8 S0 w.heap.size wr w8 := HAP.out.ev.recol (fun b o hb => (HAP.out.col b o hb).symm) hs5
                  go_roundw
                  case rel => exact ⟨K + 1, gs ++ [.slice p7 (n + 6) c7, .slice p8 (n + 48) c8], tg8, by go_num, by have := HKL.out; omega, (HA8.out.low HH.out.hS hal8).push HH.out.hS (((HR5.out.recol HAP.out.col).keep (Nat.le_refl _) hE58).keep (Nat.le_refl _) hE8) (HAP.out.row.keep (Nat.le_refl _) hE8) (by omega) (by omega) HAP9.out⟩
                  case measure => have := HKL.out; simp [intOf]; omega

        · have hKz : ¬ (K : Int) < (vs.length : Int) := by omega
          obtain rfl : K = vs.length := by omega
          obtain ⟨N, hN⟩ : ∃ N, 2 * vs.length = N := ⟨_, rfl⟩
          have hNl : N ≤ 8388608 := by omega
          have HN := Lib.hid hN
          rw [hN]
          rw [hN] at HA
          clear hN
          go_wp2_with fail
          go_loop [11] (fun s => ∃ k : Nat, s = .int .i64 k ∧ k ≤ N) (fun s => N - (intOf s).toNat)
          case atStart => exact ⟨0, rfl, Nat.zero_le _⟩
          case round =>
            obtain ⟨k, rfl, hk⟩ := hrel
            by_cases hkl : k < N
            · have hkz : (k : Int) < (N : Int) := by omega
              obtain ⟨bg, cg', hge, hgc⟩ := HA.out.gcell (j := k) (by rw [HN.out]; exact hkl)
              simp only [Value.slice.injEq] at hge
              obtain ⟨rfl, _, rfl⟩ := hge
              obtain ⟨n, hrg, hnl⟩ := HA.out.gr k (by rw [HN.out]; exact hkl)
              obtain ⟨vk, hvk⟩ : ∃ vk, gs.getD k vz = vk := ⟨_, rfl⟩
              obtain ⟨h, hh⟩ : ∃ h, k / 2 = h := ⟨_, rfl⟩
              rw [hvk, hh] at hrg
              rw [hvk] at hgc
              obtain ⟨pk, ck, rfl, hpk⟩ := rowC_form hrg
              have e1 : (k : Int) / 2 = (h : Int) := by omega
              have hhl : h ≤ 4194304 := by omega
              have HRG := Lib.hid hrg
              have HPK := Lib.hid hpk
              have HKL := Lib.hid hkl
              have ne1 : (((h : Int) + 1000) != ((h : Int) + 1000)) = false := by simp
              clear hrg hpk hvk hh hkl
              go_wp2_with fail
              go_loop [12] (fun s => ∃ i : Nat, s = .int .i64 i ∧ i ≤ n) (fun s => n - (intOf s).toNat)
              case atStart => exact ⟨0, rfl, Nat.zero_le _⟩
              case round =>
                obtain ⟨i, rfl, hi⟩ := hrel
                by_cases hil : i < n
                · have hiz : (i : Int) < (n : Int) := by omega
                  obtain ⟨b, off, rfl⟩ := HPK.out (by omega)
                  have hcl := rowC_cell HRG.out (by omega) hil
                  go_wp2_with fail
                  go_round
                  case rel => exact ⟨i + 1, by go_num, by omega⟩
                  case measure => simp [intOf]; omega
                · have hiz : ¬ (i : Int) < (n : Int) := by omega
                  go_wp2_with fail
                  go_round
                  case rel => exact ⟨k + 1, by go_num, by have := HKL.out; omega⟩
                  case measure => have := HKL.out; simp [intOf]; omega
            · have hkz : ¬ (k : Int) < (N : Int) := by omega
              go_wp2_with fail
              go_loop [13] (fun s => ∃ k : Nat, s = .int .i64 k ∧ k ≤ vs.length) (fun s => vs.length - (intOf s).toNat)
              case atStart => exact ⟨0, rfl, Nat.zero_le _⟩
              case round =>
                obtain ⟨q, rfl, hq⟩ := hrel
                by_cases hql : q < vs.length
                · have hqz : (q : Int) < (vs.length : Int) := by omega
                  obtain ⟨b0, o0, rfl, hb0, ht0, hc0⟩ := HH.out.ls q hql
                  have ecl := HA.out.ls hb0 ht0 hc0
                  have hrk := HA.out.rows q hql
                  have hnl := HH.out.hn q hql
                  obtain ⟨vk, hvk⟩ : ∃ vk, vs.getD q vz = vk := ⟨_, rfl⟩
                  obtain ⟨n, hn⟩ : ∃ n, ns q = n := ⟨_, rfl⟩
                  rw [hvk, hn] at hrk
                  rw [hvk] at ecl
                  rw [hn] at hnl
                  obtain ⟨pk, ck, rfl, hpk⟩ := rowC_form hrk
                  have HRK := Lib.hid hrk
                  have HPK := Lib.hid hpk
                  have HQL := Lib.hid hql
                  have ne1 : (((q : Int) + 1000) != ((q : Int) + 1000)) = false := by simp
                  clear hrk hpk hvk hn hc0 hql
                  go_wp2_with fail
                  go_loop [14] (fun s => ∃ i : Nat, s = .int .i64 i ∧ i ≤ n) (fun s => n - (intOf s).toNat)
                  case atStart => exact ⟨0, rfl, Nat.zero_le _⟩
                  case round =>
                    obtain ⟨i, rfl, hi⟩ := hrel
                    by_cases hil : i < n
                    · have hiz : (i : Int) < (n : Int) := by omega
                      obtain ⟨b, off, rfl⟩ := HPK.out (by omega)
                      have hcl := rowC_cell HRK.out (by omega) hil
                      go_wp2_with fail
                      go_round
                      case rel => exact ⟨i + 1, by go_num, by omega⟩
                      case measure => simp [intOf]; omega
                    · have hiz : ¬ (i : Int) < (n : Int) := by omega
                      go_wp2_with fail
                      go_round
                      case rel => exact ⟨q + 1, by go_num, by have := HQL.out; omega⟩
                      case measure => have := HQL.out; simp [intOf]; omega
                · have hqz : ¬ (q : Int) < (vs.length : Int) := by omega
                  go_wp2_with fail
                  go_ret
                  exact ⟨rfl, HA.out.ev.below⟩
end
section
open Go Go.ChangeShapes Go.WideShapes Go.RowKit
set_option linter.unusedVariables false
set_option linter.unusedSimpArgs false
/-- Cell (b, o) lies in the slice value's room. -/
def Rng (v : Value) (b o : Nat) : Prop := ∃ off n c, v = .slice (some ⟨b, off, none⟩) n c ∧ off ≤ o ∧ o < off + c
/-- A list of words that may be written, not below S0. -/
def RowW (w : World) (S0 : Nat) (v : Value) : Prop :=
  (∃ p, v = .slice p 0 0) ∨ ∃ b off n c, v = .slice (some ⟨b, off, none⟩) n c ∧ n ≤ c ∧ S0 ≤ b ∧ (∀ j, j < c → Wr w b (off + j)) ∧ n ≤ 8796093022208
/-- Lists of words in ranges of their own. -/
structure RowsA (w : World) (S0 : Nat) (vs : List Value) : Prop where
  row : ∀ i, i < vs.length → RowW w S0 (vs.getD i vz)
  disj : ∀ i j b o, i < vs.length → j < vs.length → Rng (vs.getD i vz) b o → Rng (vs.getD j vz) b o → i = j
section
variable {w w' : World} {S0 S1 : Nat} {vs us : List Value} {v : Value}
theorem RowW.keep (h : RowW w S0 v) (hb : Below w.heap.size w w') : RowW w' S0 v := by
  rcases h with h | ⟨b, off, n, c, rfl, h1, h2, h3, h4⟩
  · exact .inl h
  · exact .inr ⟨b, off, n, c, rfl, h1, h2, fun j hj => (h3 j hj).block (hb.block _ (h3 j hj).lt), h4⟩
theorem RowsA.keep (h : RowsA w S0 vs) (hb : Below w.heap.size w w') : RowsA w' S0 vs := ⟨fun i hi => (h.row i hi).keep hb, h.disj⟩
theorem RowW.low (h : RowW w S0 v) (hS : S1 ≤ S0) : RowW w S1 v := by
  rcases h with h | ⟨b, off, n, c, rfl, h1, h2, h3, h4⟩
  · exact .inl h
  · exact .inr ⟨b, off, n, c, rfl, h1, by omega, h3, h4⟩
theorem RowW.rng (h : RowW w S0 v) {b o : Nat} (hr : Rng v b o) : S0 ≤ b ∧ b < w.heap.size := by
  obtain ⟨off, n, c, rfl, h1, h2⟩ := hr
  rcases h with ⟨p, h⟩ | ⟨b', off', n', c', he, _, h3, h4, _⟩
  · simp only [Value.slice.injEq] at h; omega
  · simp only [Value.slice.injEq, Option.some.injEq, Addr.mk.injEq, and_true] at he
    obtain ⟨⟨rfl, rfl⟩, rfl, rfl⟩ := he
    exact ⟨h3, (h4 0 (by omega)).lt⟩
theorem RowsA.nil : RowsA w S0 [] := ⟨fun i hi => by simp at hi, fun i j b o hi => by simp at hi⟩
/-- Older lists and newer ones. -/
theorem RowsA.append (h : RowsA w S0 vs) (hs : w.heap.size ≤ S1) (hb : Below w.heap.size w w') (g : RowsA w' S1 us) (h01 : S0 ≤ S1) : RowsA w' S0 (vs ++ us) := by
  have hl : ∀ i, i < vs.length → (vs ++ us).getD i vz = vs.getD i vz := fun i hi => by
    rw [List.getD_eq_getElem?_getD, List.getElem?_append_left hi, ← List.getD_eq_getElem?_getD]
  have hr : ∀ i, ¬ i < vs.length → (vs ++ us).getD i vz = us.getD (i - vs.length) vz := fun i hi => by
    rw [List.getD_eq_getElem?_getD, List.getElem?_append_right (by omega), ← List.getD_eq_getElem?_getD]
  refine ⟨fun i hi => ?_, fun i j b o hi hj h1 h2 => ?_⟩
  · rw [List.length_append] at hi
    by_cases e : i < vs.length
    · rw [hl i e]; exact (h.row i e).keep hb
    · rw [hr i e]; exact (g.row _ (by omega)).low h01
  · rw [List.length_append] at hi hj
    by_cases e1 : i < vs.length
    · rw [hl i e1] at h1
      by_cases e2 : j < vs.length
      · rw [hl j e2] at h2; exact h.disj i j b o e1 e2 h1 h2
      · rw [hr j e2] at h2
        have := (h.row i e1).rng h1
        have := (g.row _ (by omega)).rng h2
        omega
    · rw [hr i e1] at h1
      by_cases e2 : j < vs.length
      · rw [hl j e2] at h2
        have := (h.row j e2).rng h2
        have := (g.row _ (by omega)).rng h1
        omega
      · rw [hr j e2] at h2
        have := g.disj _ _ b o (by omega) (by omega) h1 h2
        omega
def nsOf : Value → Nat
  | .slice _ n _ => n
  | _ => 0
/-- What Apart asks for. -/
theorem RowsA.ahyp {B c : Nat} {p : Option Addr} {T : TypeId} (h : RowsA w S0 vs) (hS : S0 ≤ w.heap.size) (hlen : vs.length ≤ 4194304) (hown : w.ownsRow B T 1 (.slice p vs.length c) vs.length vs) (hB : ∀ i b o, i < vs.length → Rng (vs.getD i vz) b o → b < B) :
    ∃ tg ns, AHyp w tg S0 p vs ns := by
  classical
  let tg : Nat → Nat → Nat := fun b o => if hx : ∃ i, i < vs.length ∧ Rng (vs.getD i vz) b o then Classical.choose hx + 1 else 0
  have ht : ∀ i b o, i < vs.length → Rng (vs.getD i vz) b o → tg b o = i + 1 := fun i b o hi hr => by
    have hx : ∃ i, i < vs.length ∧ Rng (vs.getD i vz) b o := ⟨i, hi, hr⟩
    show (if hx : ∃ i, i < vs.length ∧ Rng (vs.getD i vz) b o then Classical.choose hx + 1 else 0) = i + 1
    rw [dif_pos hx]
    have := Classical.choose_spec hx
    rw [h.disj _ _ b o this.1 hi this.2 hr]
  have h0 : ∀ b o, (∀ i, i < vs.length → ¬ Rng (vs.getD i vz) b o) → tg b o = 0 := fun b o hn => by
    show (if hx : ∃ i, i < vs.length ∧ Rng (vs.getD i vz) b o then Classical.choose hx + 1 else 0) = 0
    rw [dif_neg]
    rintro ⟨i, hi, hr⟩
    exact hn i hi hr
  refine ⟨tg, fun k => nsOf (vs.getD k vz), fun i hi => ?_, fun k hk => ?_, fun b o hb => h0 b o fun i hi hr => ?_, hS, hlen, fun k hk => ?_⟩
  · rcases hown.2 with ⟨he, h2⟩ | ⟨g, c', cur, he, hg, r1, r2, r3, r4, r5⟩
    · omega
    · simp only [Value.slice.injEq] at he
      obtain ⟨rfl, _, rfl⟩ := he
      refine ⟨g, 0, rfl, (Array.getElem?_eq_some_iff.1 r1).1, h0 _ _ fun j hj hr => ?_, ?_⟩
      · have := hB j _ _ hj hr; omega
      · have e := congrArg (fun l => l[i]?) r5
        simp only [List.getElem?_take] at e
        rw [if_pos (by omega), Array.getElem?_toList, List.getElem?_eq_getElem hi] at e
        rw [List.getD_eq_getElem?_getD, List.getElem?_eq_getElem hi]
        simp [World.cell?, r1, e]
  · rcases h.row k hk with ⟨p, e⟩ | ⟨b, off, n, c', e, h1, h2, h3, h4⟩
    · rw [e]; exact .inl ⟨p, rfl, rfl⟩
    · rw [e]
      refine .inr ⟨b, off, c', rfl, h1, h2, fun i hi => ⟨ht k _ _ hk ?_, h3 i hi⟩, fun i hi => by omega⟩
      rw [e]
      exact ⟨off, n, c', rfl, by omega, by omega⟩
  · have := (h.row i hi).rng hr; omega
  · rcases h.row k hk with ⟨p, e⟩ | ⟨b, off, n, c', e, h1, h2, h3, h4⟩
    · rw [e]; simp [nsOf]
    · rw [e]; exact h4
end
end
end Go.Proofs.Ytfhjpgbnojdlkaa
