/- A memory behind a pointer, read as a list of words: Set and Alloc. -/
import Derived.Test.YtilonacjmihglaaPFrm
import Derived.Test.YtilonacjmihglaaPPure14
import Derived.Test.YtilonacjmihglaaPKnown13
import Derived.Test.YtilonacjmihglaaPHasW
namespace Go.Proofs.Ytilonacjmihglaa
open Go Go.ChangeShapes Go.WideShapes Go.ChangeAt Go.RowKit
set_option linter.unusedVariables false
set_option linter.unusedSimpArgs false
/-- The struct of the memory lies in block B, its words ws in block g, of which tn are in use. -/
structure PM (w : World) (B g c tn : Nat) (ws : List Int) : Prop where
  ma : MA w B g ws.length c tn (fun i => ws.getD i 0)
  fit : Fit ws
  t1 : tn ≤ ws.length
theorem PM.ltB {w : World} {B g c tn : Nat} {ws : List Int} (h : PM w B g c tn ws) : B < w.heap.size := World.block_lt_of_cell? w _ h.ma.box0
theorem PM.ltg {w : World} {B g c tn : Nat} {ws : List Int} (h : PM w B g c tn ws) : g < w.heap.size := h.ma.row.lt
theorem PM.of {w w' : World} {B g c tn : Nat} {ws : List Int} (h : PM w B g c tn ws) (hB : w'.heap[B]? = w.heap[B]?) (hg : w'.heap[g]? = w.heap[g]?) : PM w' B g c tn ws :=
  ⟨⟨(World.cell?_of_block (a := ⟨B, 0, none⟩) hB).trans h.ma.box0, (World.cell?_of_block (a := ⟨B, 1, none⟩) hB).trans h.ma.box1, (World.frozen?_of_block (a := ⟨B, 1, none⟩) hB).trans h.ma.fr, h.ma.row.block hg, h.ma.le, h.ma.max, h.ma.ne⟩, h.fit, h.t1⟩
theorem PM.keep {w w' : World} {B g c tn : Nat} {ws : List Int} (h : PM w B g c tn ws) (hb : Below w.heap.size w w') : PM w' B g c tn ws := h.of (hb.block _ h.ltB) (hb.block _ h.ltg)
theorem PM.rd {w : World} {B g c tn : Nat} {ws : List Int} (h : PM w B g c tn ws) : Rd w (.slice (some ⟨g, 0, none⟩) ws.length c) ws :=
  .inr ⟨g, 0, c, rfl, h.ma.le, h.ma.max, fun i hi => by rw [Nat.zero_add]; exact h.ma.row.cell h.ma.le hi⟩
/-- All blocks but g are as they were. -/
structure But1 (g : Nat) (w w' : World) : Prop where
  os : w'.os = w.os
  tape : w'.tape = w.tape
  output : w'.output = w.output
  size : w.heap.size ≤ w'.heap.size
  block : ∀ k, k < w.heap.size → k ≠ g → w'.heap[k]? = w.heap[k]?
theorem But1.of {g : Nat} {w w' : World} (h : Below w.heap.size w w') : But1 g w w' := ⟨h.os, h.tape, h.output, h.size, fun k hk _ => h.block k hk⟩
theorem But1.trans {g : Nat} {a b c : World} (h : But1 g a b) (k : But1 g b c) : But1 g a c :=
  ⟨k.os.trans h.os, k.tape.trans h.tape, k.output.trans h.output, Nat.le_trans h.size k.size, fun q hq hn => (k.block q (Nat.lt_of_lt_of_le hq h.size) hn).trans (h.block q hq hn)⟩
theorem But1.below {g X : Nat} {a b : World} (h : But1 g a b) (hX : X ≤ a.heap.size) (hg : X ≤ g) : Below X a b :=
  ⟨h.os, h.tape, h.output, h.size, fun q hq => h.block q (by omega) (by omega)⟩
theorem But1.set (g : Nat) (w : World) (i : Nat) (v : Value) : But1 g w (w.setCell ⟨g, i, none⟩ v) :=
  ⟨rfl, rfl, rfl, (KeepsWalks.setCell w _ v).size, fun q _ hn => Below.heap_setCell _ _ _ q hn⟩
theorem But1.cell {g : Nat} {w w' : World} (h : But1 g w w') {q o : Nat} {v : Value} (hv : w.cell? ⟨q, o, none⟩ = some v) (hn : q ≠ g) : w'.cell? ⟨q, o, none⟩ = some v :=
  (World.cell?_of_block (a := ⟨q, o, none⟩) (h.block q (World.block_lt_of_cell? w _ hv) hn)).trans hv
theorem PM.set {w w1 : World} {B g c tn : Nat} {ws : List Int} (h : PM w B g c tn ws) (hb : Below w.heap.size w w1) (q : Nat) (hq : q < ws.length) (x : Int) (hx : 0 ≤ x ∧ x ≤ 18446744073709551615) :
    PM (w1.setCell ⟨g, q, none⟩ (.int .u64 x)) B g c tn (ws.set q x) ∧ But1 g w (w1.setCell ⟨g, q, none⟩ (.int .u64 x)) := by
  have hK := h.keep hb
  have hA := (AL.start hK.ma 0).set q x
  refine ⟨⟨?_, fun j => ?_, by rw [List.length_set]; exact h.t1⟩, (But1.of hb).trans (But1.set g w1 q _)⟩
  · have hn : (ws.set q x).length = ws.length := List.length_set
    rw [hn]
    obtain ⟨f, r1, r2⟩ := hA.row
    exact ⟨hA.box0, hA.box1, hA.fr, ⟨f, r1, fun i hi => by rw [r2 i hi]; unfold upd; dsimp only; rw [getD_set]; by_cases e : i = q <;> simp [e, hq]⟩, hA.le, h.ma.max, hA.ne⟩
  · rw [getD_set]
    split
    · exact hx
    · exact h.fit j
set_option maxRecDepth 100000 in
theorem pm_set {w : World} {B g c tn : Nat} {ws : List Int} (h : PM w B g c tn ws) (a i : Nat) (x : Int) (hx : (Lit.int .u64 x).wf = true) (hth : there (ws.take tn) a = true) (hi : (i : Int) < hS (headAt (ws.take tn) a) - 2) (hk : kindOf x ≠ 3) :
    Calls Try.prog 27 #[.pointer (some ⟨B, 0, none⟩), .int .i64 a, .int .i64 i, .int .u64 x] w fun e w' => e = .returned (.int .i64 0) ∧ PM w' B g c tn (ws.set (a + 2 + i) x) ∧ But1 g w w' := by
  have hlen : (ws.take tn).length = tn := by rw [List.length_take]; have := h.t1; omega
  have hrd := h.rd.take tn h.t1
  have hss := hS_lo (headAt (ws.take tn) a)
  have hin := there_in hth
  have ht1 := h.t1
  refine (set_good B g 0 ws.length c tn _ a i x w hrd (h.fit.take tn) (fun q => h.ma.row.frozen q) h.ltg h.ltB h.ma.le h.ma.max hx (by omega) h.ma.box0 h.ma.box1 h.t1 hth ⟨by omega, hi⟩ (fun e => hk e.2)).mono ?_
  rintro e w' ⟨rfl, w1, hb, rfl⟩
  rw [Int.toNat_natCast, Int.toNat_natCast, Nat.zero_add]
  have hq : a + 2 + i < ws.length := by omega
  exact ⟨rfl, h.set hb _ hq x (wfu hx)⟩
/-- The words behind Clear: the first k registers are done. -/
def clrL (ws : List Int) (a : Nat) (live : List Nat) : Nat → List Int
  | 0 => ws
  | k + 1 => if hasW live k = true then clrL ws a live k else (clrL ws a live k).set (a + 8 + k) 14
theorem clr_len (ws : List Int) (a : Nat) (live : List Nat) (k : Nat) : (clrL ws a live k).length = ws.length := by
  induction k with
  | zero => rfl
  | succ k ih => unfold clrL; split <;> simp [ih]
theorem clr_getD (ws : List Int) (a : Nat) (live : List Nat) (k j : Nat) (hk : a + 8 + k ≤ ws.length) : (clrL ws a live k).getD j 0 = if a + 8 ≤ j ∧ j < a + 8 + k ∧ hasW live (j - (a + 8)) = false then 14 else ws.getD j 0 := by
  induction k with
  | zero => unfold clrL; rw [if_neg (by omega)]
  | succ k ih =>
    have ih := ih (by omega)
    unfold clrL
    by_cases h : hasW live k = true
    · rw [if_pos h, ih]
      by_cases e : a + 8 ≤ j ∧ j < a + 8 + k ∧ hasW live (j - (a + 8)) = false
      · rw [if_pos e, if_pos ⟨e.1, by omega, e.2.2⟩]
      · rw [if_neg e, if_neg (fun g => e ⟨g.1, by
          rcases Nat.lt_or_ge j (a + 8 + k) with h1 | h1
          · exact h1
          · have : j - (a + 8) = k := by omega
            rw [this, h] at g; exact absurd g.2.2 (by simp), g.2.2⟩)]
    · rw [if_neg h, getD_set, clr_len]
      by_cases ej : j = a + 8 + k
      · rw [if_pos ⟨ej, by omega⟩, if_pos ⟨by omega, by omega, by rw [ej]; simpa [show a + 8 + k - (a + 8) = k by omega] using h⟩]
      · rw [if_neg (fun g => ej g.1), ih]
        by_cases e : a + 8 ≤ j ∧ j < a + 8 + k ∧ hasW live (j - (a + 8)) = false
        · rw [if_pos e, if_pos ⟨e.1, by omega, e.2.2⟩]
        · rw [if_neg e, if_neg (fun g => e ⟨g.1, by omega, g.2.2⟩)]
theorem clr_head (ws : List Int) (a : Nat) (live : List Nat) (k tn : Nat) (hk : a + 8 + k ≤ ws.length) : headAt ((clrL ws a live k).take tn) a = headAt (ws.take tn) a ∧ there ((clrL ws a live k).take tn) a = there (ws.take tn) a := by
  have hl : ((clrL ws a live k).take tn).length = (ws.take tn).length := by rw [List.length_take, List.length_take, clr_len]
  have hh : headAt ((clrL ws a live k).take tn) a = headAt (ws.take tn) a := by
    unfold headAt
    rw [hl, getD_take, getD_take, Int.toNat_natCast, clr_getD ws a live k a hk, if_neg (show ¬ (a + 8 ≤ a ∧ a < a + 8 + k ∧ hasW live (a - (a + 8)) = false) by omega)]
  refine ⟨hh, ?_⟩
  unfold there
  rw [hl, hh]
end Go.Proofs.Ytilonacjmihglaa
