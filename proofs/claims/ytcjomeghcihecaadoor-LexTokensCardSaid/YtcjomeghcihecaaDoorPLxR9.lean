/- Layer 4: the document's Lex: rows of tokens and indentations of the call's own. -/
import Derived.Test.YtcjomeghcihecaaDoorPLxR8
import Derived.Test.YtcjomeghcihecaaDoorPLxSm
namespace Go.Proofs.YtcjomeghcihecaaDoor
open Go Go.ChangeShapes Go.WideShapes Go.ChangeAt Go.RowKit Go.PlainAid Go.Maps
set_option linter.unusedVariables false
set_option linter.unusedSimpArgs false
theorem skip_r (s : ByteArray) (k : Nat) (hk : k ≤ s.size) : skipR (Rs s k) = Rs s (blE s k) ∧ blE s k ≤ s.size ∧ k ≤ blE s k := by
  have hb := blk_len_le s k
  have hd : (Rs s k).dropWhile (· == 32) = Rs s (k + blkN (Rs s k)) := by rw [← blk_drop, Rs_drop]
  have hh : ((Rs s (k + blkN (Rs s k))).head? = some 35) ↔ (k + blkN (Rs s k) < s.size ∧ bt s (k + blkN (Rs s k)) = 35) := by
    by_cases h : k + blkN (Rs s k) < s.size
    · obtain ⟨c, r1, r2⟩ := Rs_cons h
      rw [r1, r2]
      simp only [List.head?_cons, Option.some.injEq, h, true_and]
      constructor
      · rintro rfl; rfl
      · intro e; exact UInt8.toNat_inj.1 (by show c.toNat = 35; omega)
    · rw [Rs_end (by omega)]; simp; omega
  unfold skipR blE
  rw [hd]
  by_cases hc : k + blkN (Rs s k) < s.size ∧ bt s (k + blkN (Rs s k)) = 35
  · rw [if_pos (hh.2 hc), if_pos hc, Rs_end (Nat.le_refl _)]
    exact ⟨rfl, Nat.le_refl _, hk⟩
  · rw [if_neg (fun h => hc (hh.1 h)), if_neg hc]
    exact ⟨rfl, by omega, by omega⟩
theorem blE_blk {s : ByteArray} (h : blE s 0 ≠ s.size) : blE s 0 = blkN (Rs s 0) := by
  unfold blE at h ⊢
  split
  · rename_i hc; rw [if_pos hc] at h; exact absurd rfl h
  · omega
/-- Tokens of a row, read as far as a place. -/
def TkI (ln d0 : Int) (X : Bs) (s : ByteArray) (k : Nat) (d : Int) (tk : List Tk) : Prop := toksD ln d0 X = (toksD ln d (Rs s k)).map fun q => (tk ++ q.1, q.2)
theorem TkI.start (ln d : Int) (s : ByteArray) (k : Nat) : TkI ln d (Rs s k) s k d [] := by unfold TkI; cases toksD ln d (Rs s k) <;> simp
theorem TkI.none {ln d0 : Int} {X : Bs} {s : ByteArray} {k : Nat} {d : Int} {tk : List Tk} (h : TkI ln d0 X s k d tk) (hk : k < s.size) (hn : tokD (Rs s k) = none) : toksD ln d0 X = none := by
  unfold TkI at h
  obtain ⟨c, r1, _⟩ := Rs_cons hk
  rw [h, r1, toksD_cons]
  rw [r1] at hn
  rw [hn]
  rfl
theorem TkI.done {ln d0 : Int} {X : Bs} {s : ByteArray} {k : Nat} {d : Int} {tk : List Tk} (h : TkI ln d0 X s k d tk) (hk : s.size ≤ k) : toksD ln d0 X = some (tk, d) := by
  unfold TkI at h
  rw [h, Rs_end hk, toksD_nil]
  simp
theorem TkI.step {ln d0 : Int} {X : Bs} {s : ByteArray} {k : Nat} {d : Int} {tk : List Tk} (h : TkI ln d0 X s k d tk) (hk : k < s.size) {p : Pc} (hp : tokD (Rs s k) = some p) :
    TkI ln d0 X s (blE s (k + p.2.2)) (depD d p.1 p.2.1) (tk ++ [⟨p.1, ln, p.2.1⟩]) ∧ 1 ≤ p.2.2 ∧ k + p.2.2 ≤ s.size := by
  obtain ⟨h1, h2⟩ := tokD_len hp
  rw [Rs_len] at h2
  refine ⟨?_, h1, by omega⟩
  unfold TkI at h ⊢
  obtain ⟨c, r1, _⟩ := Rs_cons hk
  have hr : skipR ((Rs s (k + 1)).drop (p.2.2 - 1)) = Rs s (blE s (k + p.2.2)) := by
    rw [Rs_drop, show k + 1 + (p.2.2 - 1) = k + p.2.2 by omega]
    exact (skip_r s _ (by omega)).1
  rw [h, r1, toksD_cons]
  rw [r1] at hp
  rw [hp]
  simp only [hr]
  cases toksD ln (depD d p.1 p.2.1) (Rs s (blE s (k + p.2.2))) with
  | none => rfl
  | some q => simp
theorem rowsD_d : ∀ {rs : List Bs} {ln : Int} {s : LxS} {p : List Tk × LxS}, OpOk s.op → 0 ≤ s.d → rowsD ln s rs = .ok p → 0 ≤ p.2.d ∧ p.2.d ≤ s.d + (rs.map List.length).sum
  | [], ln, s, p, hs, h0, h => by simp only [rowsD, Except.ok.injEq] at h; subst h; simp; exact h0
  | row :: rs, ln, s, p, hs, h0, h => by
    simp only [rowsD] at h
    cases hr : rowD ln s row with
    | error e => rw [hr] at h; cases h
    | ok x =>
      rw [hr] at h
      simp only at h
      cases hq : rowsD (ln + 1) x.2 rs with
      | error e => rw [hq] at h; cases h
      | ok y =>
        rw [hq] at h
        simp only [Except.ok.injEq] at h
        subst h
        have h1 := (rowD_size hs hr).2.1 h0
        have h2 := rowsD_d (rowD_op hs hr) h1.1 hq
        simp only [List.map_cons, List.sum_cons] at h2 ⊢
        omega
theorem take_sum (R : List Bs) (i : Nat) : ((R.take i).map List.length).sum ≤ (R.map List.length).sum := by
  have e : ((R.take i ++ R.drop i).map List.length).sum = (R.map List.length).sum := by rw [List.take_append_drop]
  rw [List.map_append, List.sum_append] at e
  omega
/-- What is known between rows. -/
theorem rows_bounds {l : Bs} (hl : l.length ≤ 20000) {i : Nat} {out : List Tk} {d : Int} {op : List Int} (h : rowsD 1 ⟨0, [0]⟩ ((splitB l).take i) = .ok (out, ⟨d, op⟩)) :
    OpOk op ∧ out.length + op.length ≤ 80001 ∧ 0 ≤ d ∧ d ≤ 20000 := by
  have h1 := take_sum (splitB l) i
  have h2 := splitB_sum l
  have h3 := rowsD_len OpOk.zero h
  have h4 := rowsD_d OpOk.zero (by simp) h
  have h5 := rowsD_op OpOk.zero h
  simp only [List.length_cons, List.length_nil] at h3 h4 h5
  exact ⟨h5, by omega, by omega, by omega⟩
theorem rows_step {R : List Bs} {i : Nat} {row : Bs} (hr : R[i]? = some row) {s0 : LxS} {p : List Tk × LxS} (h : rowsD 1 s0 (R.take i) = .ok p) {q : List Tk × LxS} (hq : rowD ((i : Int) + 1) p.2 row = .ok q) : rowsD 1 s0 (R.take (i + 1)) = .ok (p.1 ++ q.1, q.2) := by
  have hi := (List.getElem?_eq_some_iff.1 hr).1
  have e : R.take (i + 1) = R.take i ++ [row] := by rw [List.take_succ_eq_append_getElem hi, (List.getElem?_eq_some_iff.1 hr).2]
  have hl : ((R.take i).length : Int) = i := by rw [List.length_take]; omega
  rw [e, rowsD_append, h]
  simp only [hl, rowsD]
  rw [show (1 : Int) + (i : Int) = (i : Int) + 1 by omega, hq]
  simp
theorem rows_bad {R : List Bs} {i : Nat} {row : Bs} (hr : R[i]? = some row) {s0 : LxS} {p : List Tk × LxS} (h : rowsD 1 s0 (R.take i) = .ok p) {n : Int} (hq : rowD ((i : Int) + 1) p.2 row = .error n) : rowsD 1 s0 R = .error ((i : Int) + 1, n) := by
  have hi := (List.getElem?_eq_some_iff.1 hr).1
  have e : R = R.take i ++ (row :: R.drop (i + 1)) := by
    rw [← (List.getElem?_eq_some_iff.1 hr).2, ← List.drop_eq_getElem_cons hi, List.take_append_drop]
  have hl : ((R.take i).length : Int) = i := by rw [List.length_take]; omega
  rw [e, rowsD_append, h]
  simp only [hl, rowsD]
  rw [show (1 : Int) + (i : Int) = (i : Int) + 1 by omega, hq]
/-- The rows of indentations and of tokens. -/
structure RX (w : World) (B : Nat) (ov tv : Value) (op : List Int) (out : List Tk) : Prop where
  o : w.ownsRow B 3 1 ov op.length (op.reverse.map (Value.int .i64))
  t : w.ownsRow B 33 3 tv out.length (flatT out)
  ne : ∀ g, ov.ownBlock = some g → tv.ownBlock ≠ some g
theorem RX.keep {w w' : World} {B : Nat} {ov tv : Value} {op : List Int} {out : List Tk} (h : RX w B ov tv op out) (hb : Below w.heap.size w w') : RX w' B ov tv op out :=
  ⟨owns_of h.o fun g hg => hb.block g (owns_lt h.o hg).2, owns_of h.t fun g hg => hb.block g (owns_lt h.t hg).2, h.ne⟩
theorem RX.pushT {w : World} {B : Nat} {ov tv : Value} {op : List Int} {out : List Tk} (h : RX w B ov tv op out) (hB : B ≤ w.heap.size) (hl : out.length ≤ 1000000) (k ln : Int) (tx : Bs) (ty : TypeId) :
    ∃ v' w', (Builtin.append_ #[23, 23] ty #[tv, .slice (some ⟨w.heap.size, 0, none⟩) 1 1]).run Tryd.prog (w.alloc (.cells #[.int .i64 k, .int .i64 ln, .string (bsOf tx)] 33)) = .ok v' w' ∧ RX w' B ov v' op (out ++ [⟨k, ln, tx⟩]) ∧ Below B w w' ∧ KeepX w w' tv v' := by
  obtain ⟨W, hW⟩ : ∃ W, w.alloc (.cells #[.int .i64 k, .int .i64 ln, .string (bsOf tx)] 33) = W := ⟨_, rfl⟩
  have hb0 : Below w.heap.size w W := by rw [← hW]; exact (Below.refl _ _).alloc (Nat.le_refl _) _
  have hsz : w.heap.size < W.heap.size := by rw [← hW]; simp
  have hsrc : SrcS 3 W (.slice (some ⟨w.heap.size, 0, none⟩) 1 1) 1 (flatT [⟨k, ln, tx⟩]) := by
    rw [← hW]
    exact srcS_top (m := 1) (cs := #[.int .i64 k, .int .i64 ln, .string (bsOf tx)]) rfl rfl
  rw [hW]
  clear hW
  have hk := h.keep hb0
  obtain ⟨v', w', hrun, hap⟩ := run_appS (P := Tryd.prog) (w := W) (base := B) (ty := ty) (t := 23) (v := tv) Tryd.underlying23 infoTok rfl (by decide) hk.t hsrc tok_one (by unfold maxLen; omega) (by omega) (by omega)
  have hgr := hap.grown
  have hne : ∀ g, ov.ownBlock = some g → some g ≠ tv.ownBlock := fun g hg e => h.ne g hg e.symm
  refine ⟨v', w', hrun, ⟨owns_of hk.o fun g hg => hgr.block g (owns_lt hk.o hg).2 (hne g hg), ?_, fun g hg => ?_⟩, (hb0.mono hB).trans (hap.below (by omega) fun q hq => (owns_lt h.t hq).1), fun X hX hv => ⟨(hgr.block X (by omega) (fun e => hv e.symm)).trans (hb0.block X hX), ?_, by have := hgr.size; omega⟩⟩
  · rw [flatT_append, List.length_append]; exact hap.own
  · rcases hap.at_ with e | e
    · rw [e]; exact h.ne g hg
    · rw [e]; intro he; injection he with he; have := (owns_lt hk.o hg).2; omega
  · rcases hap.at_ with e | e
    · rw [e]; exact hv
    · rw [e]; intro he; injection he with he; omega
theorem RX.pushO {w : World} {B : Nat} {ov tv : Value} {op : List Int} {out : List Tk} (h : RX w B ov tv op out) (hB : B ≤ w.heap.size) (hl : op.length ≤ 1000000) (n : Int) (ty : TypeId) :
    ∃ v' w', (Builtin.append_ #[40, 40] ty #[ov, .slice (some ⟨w.heap.size, 0, none⟩) 1 1]).run Tryd.prog (w.alloc (.cells #[.int .i64 n] 3)) = .ok v' w' ∧ RX w' B v' tv (n :: op) out ∧ Below B w w' := by
  obtain ⟨W, hW⟩ : ∃ W, w.alloc (.cells #[.int .i64 n] 3) = W := ⟨_, rfl⟩
  have hb0 : Below w.heap.size w W := by rw [← hW]; exact (Below.refl _ _).alloc (Nat.le_refl _) _
  have hsz : w.heap.size < W.heap.size := by rw [← hW]; simp
  have hsrc : Src W (.slice (some ⟨w.heap.size, 0, none⟩) 1 1) 1 [.int .i64 n] := by rw [← hW]; exact src_oneL rfl
  rw [hW]
  clear hW
  have hk := h.keep hb0
  obtain ⟨v', w', hrun, hap⟩ := run_app (P := Tryd.prog) (w := W) (base := B) (ty := ty) (t := 40) (v := ov) Tryd.underlying40 infoIntL rfl hk.o hsrc (by simp [Value.oneCell']) (by unfold maxLen; omega) (by omega) (by omega)
  have hgr := hap.grown
  refine ⟨v', w', hrun, ⟨?_, owns_of hk.t fun g hg => hgr.block g (owns_lt hk.t hg).2 (fun e => h.ne g e.symm hg), fun g hg hg2 => ?_⟩, (hb0.mono hB).trans (hap.below (by omega) fun q hq => (owns_lt h.o hq).1)⟩
  · rw [List.reverse_cons, List.map_append, List.length_cons]; exact hap.own
  · rcases hap.at_ with e | e
    · rw [e] at hg; exact h.ne g hg hg2
    · rw [e] at hg; injection hg with hg; have := (owns_lt hk.t hg2).2; omega
theorem RX.pop {w : World} {B : Nat} {p : Option Addr} {n c : Nat} {tv : Value} {x : Int} {r : List Int} {out : List Tk} (h : RX w B (.slice p n c) tv (x :: r) out) : RX w B (.slice p r.length c) tv r out := by
  obtain ⟨ho, ht, hne⟩ := h
  refine ⟨?_, ht, fun g hg => hne g (by cases p <;> first | exact hg | cases hg)⟩
  rcases ho.2 with ⟨_, h2⟩ | ⟨g, cap, cur, hv, hB, hg, h1, h2, h3, h4⟩
  · simp at h2
  · injection hv with e1 e2 e3
    subst e1
    subst e3
    refine ⟨by simp, .inr ⟨g, c, cur, rfl, hB, hg, by simp at h1; omega, h2, h3, ?_⟩⟩
    have e1 : (List.take ((x :: r).length * 1) cur.toList).take r.length = cur.toList.take (r.length * 1) := by
      rw [List.take_take]
      congr 1
      simp only [List.length_cons]
      omega
    have e2 : (List.map (Value.int .i64) (x :: r).reverse).take r.length = List.map (Value.int .i64) r.reverse := by
      rw [List.reverse_cons, List.map_append, List.take_append_of_le_length (by simp), List.take_of_length_le (by simp)]
    rw [← e1, h4, e2]
theorem RX.top {w : World} {B : Nat} {ov tv : Value} {x : Int} {r : List Int} {out : List Tk} (h : RX w B ov tv (x :: r) out) : ∃ g c, ov = .slice (some ⟨g, 0, none⟩) (r.length + 1) c ∧ w.cell? ⟨g, r.length, none⟩ = some (.int .i64 x) ∧ r.length + 1 ≤ c := by
  rcases h.o.2 with ⟨_, h2⟩ | ⟨g, cap, cur, hv, hB, hg, h1, h2, h3, h4⟩
  · simp at h2
  · refine ⟨g, cap, hv, ?_, h1⟩
    have e := congrArg (fun l => l[r.length]?) h4
    simp only [List.getElem?_take] at e
    rw [if_pos (by simp), List.reverse_cons, List.map_append, List.getElem?_append_right (by simp), Array.getElem?_toList] at e
    simp at e
    rw [World.cell?, hg]
    simpa using e
end Go.Proofs.YtcjomeghcihecaaDoor
