/- Layer 4: what the laws ask of tokens: plain lists. -/
import Derived.Test.YtcjomeghcihecaaDoorPLxP4
namespace Go.Proofs.YtcjomeghcihecaaDoor
set_option linter.unusedVariables false
set_option linter.unusedSimpArgs false
/-! Blocks. -/
def dlt (t : Tk) : Int := if t.kind = 2 then 1 else if t.kind = 3 then -1 else 0
def dpt (l : List Tk) : Int := (l.map dlt).sum
theorem dpt_nil : dpt [] = 0 := rfl
theorem dpt_append (a b : List Tk) : dpt (a ++ b) = dpt a + dpt b := by simp [dpt]
theorem dpt_cons (t : Tk) (r : List Tk) : dpt (t :: r) = dlt t + dpt r := by simp [dpt]
/-- From so many blocks to so many, never below none. -/
def DpOk (k : Int) (l : List Tk) (k' : Int) : Prop := (∀ i, i ≤ l.length → 0 ≤ k + dpt (l.take i)) ∧ k + dpt l = k'
theorem DpOk.nil {k : Int} (h : 0 ≤ k) : DpOk k [] k := ⟨fun i _ => by simpa [dpt] using h, by simp [dpt]⟩
theorem DpOk.append {k k' k'' : Int} {a b : List Tk} (h1 : DpOk k a k') (h2 : DpOk k' b k'') : DpOk k (a ++ b) k'' := by
  refine ⟨fun i hi => ?_, by rw [dpt_append, ← h2.2, ← h1.2]; omega⟩
  by_cases h : i ≤ a.length
  · rw [List.take_append_of_le_length h]; exact h1.1 i h
  · have e : (a ++ b).take i = a ++ b.take (i - a.length) := by rw [List.take_append]; rw [List.take_of_length_le (by omega)]
    rw [e, dpt_append]
    have := h2.1 (i - a.length) (by rw [List.length_append] at hi; omega)
    rw [← h1.2] at this
    omega
theorem DpOk.cons {k k' : Int} {t : Tk} {r : List Tk} (h0 : 0 ≤ k) (h : DpOk (k + dlt t) r k') : DpOk k (t :: r) k' := by
  refine ⟨fun i hi => ?_, by rw [dpt_cons, ← h.2]; omega⟩
  cases i with
  | zero => simpa [dpt] using h0
  | succ i =>
    rw [List.take_succ_cons, dpt_cons]
    have := h.1 i (by simpa using hi)
    omega
theorem DpOk.flat {k : Int} (h : 0 ≤ k) : ∀ {l : List Tk}, (∀ t ∈ l, dlt t = 0) → DpOk k l k
  | [], _ => .nil h
  | t :: r, hl => by
    refine .cons h ?_
    rw [hl t (by simp), Int.add_zero]
    exact DpOk.flat h fun x hx => hl x (List.mem_cons_of_mem _ hx)
theorem DpOk.outs (ln : Int) : ∀ (j : Nat) (k : Int), (j : Int) ≤ k → DpOk k (outsD j ln) (k - j)
  | 0, k, h => by simpa [outsD] using DpOk.nil (k := k) (by omega)
  | j + 1, k, h => by
    unfold outsD
    rw [List.replicate_succ]
    refine .cons (by omega) ?_
    have := DpOk.outs ln j (k - 1) (by omega)
    rw [show k + dlt ⟨3, ln, []⟩ = k - 1 by simp [dlt]; omega, show k - ((j + 1 : Nat) : Int) = k - 1 - j by omega]
    exact this
theorem dlt_tok {t : Tk} (h : 4 ≤ t.kind) : dlt t = 0 := by unfold dlt; rw [if_neg (by omega), if_neg (by omega)]
theorem rowD_deep {ln : Int} {s : LxS} {row : Bs} {p : List Tk × LxS} (hs : OpOk s.op) (h : rowD ln s row = .ok p) : DpOk ((s.op.length : Int) - 1) p.1 ((p.2.op.length : Int) - 1) := by
  have hl := hs.len
  rcases rowD_ok h with ⟨_, rfl⟩ | ⟨h0, q, ts, hi, hts, rfl⟩
  · exact .nil (by omega)
  · have hq : OpOk q.2 := by
      split at hi
      · exact indD_ok hs (by omega) hi
      · simp only [Option.some.injEq] at hi; subst hi; exact hs
    have hql := hq.len
    have h1 : DpOk ((s.op.length : Int) - 1) q.1 ((q.2.length : Int) - 1) := by
      split at hi
      · rcases indD_len hs (by omega) hi with ⟨e1, e2⟩ | ⟨j, e1, e2⟩
        · rw [e1, e2]
          exact .cons (by omega) (by rw [show (s.op.length : Int) - 1 + dlt ⟨2, ln, []⟩ = ((s.op.length + 1 : Nat) : Int) - 1 by simp [dlt] <;> omega]; exact .nil (by omega))
        · rw [e1]
          have := DpOk.outs ln j ((s.op.length : Int) - 1) (by omega)
          rw [show (s.op.length : Int) - 1 - j = (q.2.length : Int) - 1 by omega] at this
          exact this
      · simp only [Option.some.injEq] at hi; subst hi; exact .nil (by omega)
    refine (h1.append (DpOk.flat (by omega) fun t ht => dlt_tok (toksD_all (Q := fun t => 4 ≤ t.kind) (fun l p hp => (tokD_kind hp).1) _ _ hts t ht))).append (DpOk.flat (by omega) fun t ht => ?_)
    unfold endD at ht
    split at ht
    · simp only [List.mem_singleton] at ht; subst ht; simp [dlt]
    · simp at ht
theorem rowsD_deep : ∀ {rs : List Bs} {ln : Int} {s : LxS} {p : List Tk × LxS}, OpOk s.op → rowsD ln s rs = .ok p → DpOk ((s.op.length : Int) - 1) p.1 ((p.2.op.length : Int) - 1)
  | [], ln, s, p, hs, h => by simp only [rowsD, Except.ok.injEq] at h; subst h; have := hs.len; exact .nil (by omega)
  | row :: rs, ln, s, p, hs, h => by
    simp only [rowsD] at h
    cases hr : rowD ln s row with
    | error x => rw [hr] at h; cases h
    | ok a =>
      rw [hr] at h
      simp only at h
      cases hq : rowsD (ln + 1) a.2 rs with
      | error x => rw [hq] at h; cases h
      | ok b =>
        rw [hq] at h
        simp only [Except.ok.injEq] at h
        subst h
        exact (rowD_deep hs hr).append (rowsD_deep (rowD_op hs hr) hq)
/-! Kinds and texts. -/
def isNameB (t : Bs) : Bool := match t with
  | [] => false
  | c :: _ => isL c && t.all isLD && !wordsB.contains t
def TxOk (t : Tk) : Prop := 1 ≤ t.kind ∧ t.kind ≤ 9 ∧ (t.kind < 4 → t.text = []) ∧ (t.kind = 4 → isNameB t.text = true) ∧ (t.kind = 8 → wordsB.contains t.text = true) ∧ (t.kind = 9 → symsB.contains t.text = true)
theorem takeWhile_all' (p : UInt8 → Bool) : ∀ l : Bs, (l.takeWhile p).all p = true
  | [] => rfl
  | c :: r => by
    rw [List.takeWhile_cons]
    split
    · rename_i h; simp [h]
    · rfl
theorem take_takeWhile (p : UInt8 → Bool) : ∀ l : Bs, l.take (l.takeWhile p).length = l.takeWhile p
  | [] => rfl
  | c :: r => by
    rw [List.takeWhile_cons]
    split
    · rw [List.length_cons, List.take_succ_cons, take_takeWhile p r]
    · rfl
theorem tokD_ok {l : Bs} {p : Pc} (h : tokD l = some p) (ln : Int) : TxOk ⟨p.1, ln, p.2.1⟩ := by
  have hk := tokD_kind h
  refine ⟨by simp only; omega, hk.2, fun h4 => by simp only at h4; omega, ?_⟩
  simp only
  cases l with
  | nil => cases h
  | cons c r =>
    simp only [tokD] at h
    by_cases hl : isL c = true
    · rw [if_pos hl] at h
      simp only [Option.some.injEq] at h
      subst h
      have ht : (c :: r).take (namN (c :: r)) = (c :: r).takeWhile isLD := take_takeWhile _ _
      have ht2 : (c :: r).takeWhile isLD = c :: r.takeWhile isLD := by rw [List.takeWhile_cons, if_pos (by unfold isLD; rw [hl]; rfl)]
      have hall := takeWhile_all' isLD (c :: r)
      simp only [namD, namK]
      rw [ht]
      rw [ht2] at hall ⊢
      split
      · rename_i hw
        exact ⟨fun h => by omega, fun _ => hw, fun h => by omega⟩
      · rename_i hw
        refine ⟨fun _ => ?_, fun h => by omega, fun h => by omega⟩
        unfold isNameB
        simp only [hl, hall, Bool.true_and]
        simpa using hw
    · rw [if_neg hl] at h
      by_cases hd : isD c = true
      · rw [if_pos hd] at h
        unfold numD at h
        split at h
        · cases h
        · simp only [Option.some.injEq] at h
          subst h
          simp only [numK]
          refine ⟨fun h => ?_, fun h => ?_, fun h => ?_⟩ <;> (split at h <;> omega)
      · rw [if_neg hd] at h
        by_cases hq : c.toNat = 39 ∨ c.toNat = 34
        · rw [if_pos hq] at h
          simp only [strD, Option.map_eq_some_iff] at h
          obtain ⟨a, _, rfl⟩ := h
          exact ⟨fun h => by simp at h, fun h => by simp at h, fun h => by simp at h⟩
        · rw [if_neg hq] at h
          simp only [symD, Option.map_eq_some_iff] at h
          obtain ⟨s, hs, rfl⟩ := h
          exact ⟨fun h => by simp at h, fun h => by simp at h, fun _ => by simpa using (symF_mem hs).1⟩
theorem outsD_mem {j : Nat} {ln : Int} {t : Tk} (h : t ∈ outsD j ln) : t = ⟨3, ln, []⟩ := List.eq_of_mem_replicate h
theorem rowD_all {ln : Int} {s : LxS} {row : Bs} {p : List Tk × LxS} (h : rowD ln s row = .ok p) : ∀ t ∈ p.1, TxOk t ∧ t.line = ln := by
  rcases rowD_ok h with ⟨_, rfl⟩ | ⟨h0, q, ts, hi, hts, rfl⟩
  · intro t ht; simp at ht
  · intro t ht
    simp only [List.mem_append] at ht
    rcases ht with (ht | ht) | ht
    · split at hi
      · unfold indD at hi
        split at hi
        · simp only [Option.some.injEq] at hi
          subst hi
          simp only [List.mem_singleton] at ht
          subst ht
          exact ⟨⟨by simp, by simp, fun _ => rfl, fun h => by simp at h, fun h => by simp at h, fun h => by simp at h⟩, rfl⟩
        · split at hi
          · simp only [Option.some.injEq] at hi
            subst hi
            rw [outsD_mem ht]
            exact ⟨⟨by simp, by simp, fun _ => rfl, fun h => by simp at h, fun h => by simp at h, fun h => by simp at h⟩, rfl⟩
          · cases hi
      · simp only [Option.some.injEq] at hi; subst hi; simp at ht
    · exact toksD_all (Q := fun t => TxOk t ∧ t.line = ln) (fun l p hp => ⟨tokD_ok hp ln, rfl⟩) _ _ hts t ht
    · unfold endD at ht
      split at ht
      · simp only [List.mem_singleton] at ht
        subst ht
        exact ⟨⟨by simp, by simp, fun _ => rfl, fun h => by simp at h, fun h => by simp at h, fun h => by simp at h⟩, rfl⟩
      · simp at ht
theorem rowsD_all : ∀ {rs : List Bs} {ln : Int} {s : LxS} {p : List Tk × LxS}, rowsD ln s rs = .ok p → (∀ t ∈ p.1, TxOk t ∧ ln ≤ t.line ∧ t.line < ln + rs.length) ∧ p.1.Pairwise (fun a b => a.line ≤ b.line)
  | [], ln, s, p, h => by simp only [rowsD, Except.ok.injEq] at h; subst h; exact ⟨fun t ht => by simp at ht, .nil⟩
  | row :: rs, ln, s, p, h => by
    simp only [rowsD] at h
    cases hr : rowD ln s row with
    | error x => rw [hr] at h; cases h
    | ok a =>
      rw [hr] at h
      simp only at h
      cases hq : rowsD (ln + 1) a.2 rs with
      | error x => rw [hq] at h; cases h
      | ok b =>
        rw [hq] at h
        simp only [Except.ok.injEq] at h
        subst h
        have h1 := rowD_all hr
        obtain ⟨h2, h3⟩ := rowsD_all hq
        refine ⟨fun t ht => ?_, ?_⟩
        · simp only [List.length_cons]
          rcases List.mem_append.1 ht with ht | ht
          · exact ⟨(h1 t ht).1, by rw [(h1 t ht).2]; omega, by rw [(h1 t ht).2]; omega⟩
          · have := h2 t ht
            exact ⟨this.1, by omega, by omega⟩
        · refine List.pairwise_append.2 ⟨?_, h3, fun x hx y hy => ?_⟩
          · refine List.pairwise_iff_getElem.2 fun i j hi hj _ => ?_
            rw [(h1 _ (List.getElem_mem hi)).2, (h1 _ (List.getElem_mem hj)).2]
            exact Int.le_refl _
          · rw [(h1 x hx).2]
            have := (h2 y hy).2.1
            omega
def tkZ : Tk := ⟨0, 0, []⟩
/-- What Blocks asks of tokens; n: the last line. -/
structure BlkOk (n : Int) (ts : List Tk) : Prop where
  last : ∃ p, ts = p ++ [⟨0, n, []⟩] ∧ ∀ t ∈ p, TxOk t
  low : ∀ i, i < ts.length → (if i = 0 then 1 else (ts.getD (i - 1) tkZ).line) ≤ (ts.getD i tkZ).line
  high : ∀ t ∈ ts, t.line ≤ n
  deep : ∀ i, i ≤ ts.length → 0 ≤ dpt (ts.take i)
  shut : dpt ts = 0
theorem lexD_blocks {src : Bs} {ts : List Tk} (h : lexD src = .ok ts) : BlkOk (splitB src).length ts := by
  unfold lexD at h
  split at h
  · cases h
  · cases hp : rowsD 1 ⟨0, [0]⟩ (splitB src) with
    | error e => rw [hp] at h; cases h
    | ok p =>
      rw [hp] at h
      simp only [Except.ok.injEq] at h
      have hop := rowsD_op OpOk.zero hp
      have hlen := hop.len
      obtain ⟨h1, h2⟩ := rowsD_all hp
      have hd := rowsD_deep OpOk.zero hp
      generalize hn : ((splitB src).length : Int) = n at *
      have hn1 : 1 ≤ n := by rw [← hn, splitB_len]; omega
      have hall : ∀ t ∈ p.1 ++ outsD (p.2.op.length - 1) n, TxOk t ∧ 1 ≤ t.line ∧ t.line ≤ n := by
        intro t ht
        rcases List.mem_append.1 ht with ht | ht
        · have := h1 t ht; exact ⟨this.1, this.2.1, by omega⟩
        · rw [outsD_mem ht]
          exact ⟨⟨by simp, by simp, fun _ => rfl, fun h => by simp at h, fun h => by simp at h, fun h => by simp at h⟩, hn1, Int.le_refl _⟩
      have hpw : List.Pairwise (fun a b : Tk => a.line ≤ b.line) (p.1 ++ outsD (p.2.op.length - 1) n ++ [(⟨0, n, []⟩ : Tk)]) := by
        refine List.pairwise_append.2 ⟨List.pairwise_append.2 ⟨h2, ?_, fun x hx y hy => ?_⟩, List.pairwise_singleton _ _, fun x hx y hy => ?_⟩
        · refine List.pairwise_iff_getElem.2 fun i j hi hj _ => ?_
          rw [outsD_mem (List.getElem_mem hi), outsD_mem (List.getElem_mem hj)]
          exact Int.le_refl _
        · rw [outsD_mem hy]
          have := (h1 x hx).2
          show x.line ≤ n
          omega
        · simp only [List.mem_singleton] at hy
          subst hy
          exact (hall x hx).2.2
      have hdeep : DpOk 0 ts 0 := by
        rw [← h]
        have hd0 : DpOk 0 p.1 ((p.2.op.length : Int) - 1) := hd
        have h5 := DpOk.outs n (p.2.op.length - 1) ((p.2.op.length : Int) - 1) (by omega)
        rw [show (p.2.op.length : Int) - 1 - ((p.2.op.length - 1 : Nat) : Int) = 0 by omega] at h5
        exact (hd0.append h5).append (DpOk.flat (Int.le_refl _) fun t ht => by simp only [List.mem_singleton] at ht; subst ht; rfl)
      refine ⟨⟨_, h.symm, fun t ht => (hall t ht).1⟩, fun i hi => ?_, fun t ht => ?_, fun i hi => ?_, ?_⟩
      · rw [h] at hpw
        by_cases h0 : i = 0
        · subst h0
          rw [if_pos rfl, List.getD_eq_getElem?_getD, List.getElem?_eq_getElem hi]
          simp only [Option.getD_some]
          have hmem := List.getElem_mem hi
          generalize ts[0] = u at hmem ⊢
          rw [← h] at hmem
          rcases List.mem_append.1 hmem with hm | hm
          · exact (hall _ hm).2.1
          · simp only [List.mem_singleton] at hm; rw [hm]; exact hn1
        · rw [if_neg h0, List.getD_eq_getElem?_getD, List.getD_eq_getElem?_getD, List.getElem?_eq_getElem hi, List.getElem?_eq_getElem (by omega)]
          exact List.pairwise_iff_getElem.1 hpw (i - 1) i (by omega) hi (by omega)
      · rw [← h] at ht
        rcases List.mem_append.1 ht with hm | hm
        · exact (hall t hm).2.2
        · simp only [List.mem_singleton] at hm; subst hm; exact Int.le_refl _
      · have := hdeep.1 i hi; omega
      · have := hdeep.2; omega
theorem lexD_err {src : Bs} {e : Int × Int} (h : lexD src = .error e) : (20000 < src.length ∧ e = (0, 24)) ∨ (src.length ≤ 20000 ∧ 1 ≤ e.1 ∧ e.1 ≤ (splitB src).length ∧ (e.2 = 20 ∨ e.2 = 21)) := by
  unfold lexD at h
  split at h
  · rename_i hl; simp only [Except.error.injEq] at h; exact .inl ⟨hl, h.symm⟩
  · rename_i hl
    refine .inr ⟨by omega, ?_⟩
    cases hp : rowsD 1 ⟨0, [0]⟩ (splitB src) with
    | ok p => rw [hp] at h; cases h
    | error x =>
      rw [hp] at h
      simp only [Except.error.injEq] at h
      subst h
      have := rows_err hp
      omega
/-! Spaces. -/
theorem splitB_clean : ∀ (l : Bs), ∀ r ∈ splitB l, NoNl r
  | [] => fun r hr => by simp only [splitB, List.mem_singleton] at hr; subst hr; intro h; simp at h
  | c :: l => fun r hr => by
    have ih := splitB_clean l
    simp only [splitB] at hr
    split at hr
    · rcases List.mem_cons.1 hr with rfl | hr
      · intro h; simp at h
      · exact ih r hr
    · rename_i hc
      split at hr
      · simp only [List.mem_singleton] at hr
        subst hr
        intro h
        simp only [List.mem_singleton] at h
        exact hc h.symm
      · rename_i x y hxy
        rw [hxy] at ih
        rcases List.mem_cons.1 hr with rfl | hr
        · intro h
          rcases List.mem_cons.1 h with h | h
          · exact hc h.symm
          · exact ih x (by simp) h
        · exact ih r (List.mem_cons_of_mem _ hr)
theorem lexD_spaces {src text : Bs} {ts : List Tk} (h : lexD src = .ok ts) (hw : wr 0 true ts = some text) (hl : text.length ≤ 20000) : ∃ us, lexD text = .ok us ∧ us.map stT = ts.map stT := by
  unfold lexD at h
  split at h
  · cases h
  · cases hp : rowsD 1 ⟨0, [0]⟩ (splitB src) with
    | error e => rw [hp] at h; cases h
    | ok p =>
      rw [hp] at h
      simp only [Except.ok.injEq] at h
      have hs := spaces _ (splitB_clean src) 1 (splitB src).length ⟨0, [0]⟩ p OpOk.zero hp
      rw [if_pos rfl] at hs
      rw [← h, List.append_assoc] at hw
      obtain ⟨us, s3, h1, h2⟩ := hs text hw 1
      refine ⟨us ++ outsD (s3.op.length - 1) (splitB text).length ++ [⟨0, (splitB text).length, []⟩], ?_, ?_⟩
      · unfold lexD
        rw [if_neg (by omega)]
        have h1' : rowsD 1 ⟨0, [0]⟩ (splitB text) = .ok (us, s3) := h1
        rw [h1']
      · have e : ts.map stT = (p.1 ++ (outsD (p.2.op.length - 1) (splitB src).length ++ [(⟨0, (splitB src).length, []⟩ : Tk)])).map stT := by rw [← h, List.append_assoc]
        rw [e, ← h2]
        simp [outsD, stT]
/-! Quiet. -/
theorem lexD_quiet {src m : Bs} (hm : NoNl m) (hl : (([10, 32, 32, 32, 10, 32, 32, 35, 32] ++ m ++ [10] : Bs) ++ src).length ≤ 20000) :
    lexD (([10, 32, 32, 32, 10, 32, 32, 35, 32] ++ m ++ [10] : Bs) ++ src) = match lexD src with
      | .error e => .error (e.1 + 3, e.2)
      | .ok ts => .ok (ts.map (shT 3)) := by
  have hl2 : src.length ≤ 20000 := by simp only [List.length_append] at hl; omega
  have hsp : splitB (([10, 32, 32, 32, 10, 32, 32, 35, 32] ++ m ++ [10] : Bs) ++ src) = [] :: [32, 32, 32] :: ([32, 32, 35, 32] ++ m) :: splitB src := by
    have e : (([10, 32, 32, 32, 10, 32, 32, 35, 32] ++ m ++ [10] : Bs) ++ src) = [] ++ 10 :: ([32, 32, 32] ++ 10 :: (([32, 32, 35, 32] ++ m) ++ 10 :: src)) := by simp
    rw [e, splitB_app, splitB_app, splitB_app]
    rw [splitB_row (a := []) (fun h => by simp at h), splitB_row (a := [32, 32, 32]) (by unfold NoNl; decide), splitB_row (a := [32, 32, 35, 32] ++ m) (fun h => by
      rcases List.mem_append.1 h with h | h
      · revert h; decide
      · exact hm h)]
    rfl
  unfold lexD
  rw [if_neg (by omega), if_neg (by omega), hsp]
  have e3 : skipR ([32, 32, 35, 32] ++ m) = [] := by
    show skipR (32 :: 32 :: 35 :: 32 :: m) = []
    rw [skip_blank, skip_blank]
    unfold skipR
    have e1 : List.dropWhile (fun x => x == (32 : UInt8)) (35 :: 32 :: m) = 35 :: 32 :: m := by rw [List.dropWhile_cons]; simp
    rw [e1]
    rfl
  have hr : rowsD 1 ⟨0, [0]⟩ ([] :: [32, 32, 32] :: ([32, 32, 35, 32] ++ m) :: splitB src) = rowsD (1 + 3) ⟨0, [0]⟩ (splitB src) := by
    simp only [rowsD, rowD_empty (show skipR [] = [] from rfl), rowD_empty (show skipR [32, 32, 32] = [] from rfl), rowD_empty e3]
    rw [show (1 : Int) + 1 + 1 + 1 = 1 + 3 by rfl]
    cases rowsD (1 + 3) ⟨0, [0]⟩ (splitB src) <;> simp
  rw [hr, rowsD_shift]
  cases rowsD 1 ⟨0, [0]⟩ (splitB src) with
  | error e => rfl
  | ok p =>
    simp only [shR, List.length_cons]
    simp [outsD, shT]
    omega
/-! Joins. -/
def tailOuts (l : List Tk) : Nat := (l.reverse.takeWhile fun t => decide (t.kind = 3)).length
theorem tailOuts_app {a : List Tk} (ha : a = [] ∨ ∃ q t, a = q ++ [t] ∧ t.kind ≠ 3) (k : Nat) (ln : Int) : tailOuts (a ++ outsD k ln) = k := by
  unfold tailOuts
  rw [List.reverse_append]
  have e : (outsD k ln).reverse = outsD k ln := by unfold outsD; rw [List.reverse_replicate]
  rw [e]
  induction k with
  | zero =>
    simp only [outsD, List.replicate_zero, List.nil_append]
    rcases ha with rfl | ⟨q, t, rfl, ht⟩
    · rfl
    · rw [List.reverse_append, List.reverse_singleton, List.singleton_append, List.takeWhile_cons, if_neg (by simpa using ht)]
      rfl
  | succ k ih =>
    have ih := ih (by unfold outsD; rw [List.reverse_replicate])
    unfold outsD at ih ⊢
    rw [List.replicate_succ, List.cons_append, List.takeWhile_cons, if_pos (by simp), List.length_cons, ih]
theorem lexD_joins {src more : Bs} {a b : List Tk} (ha : lexD (src ++ [10]) = .ok a) (hb : lexD more = .ok b) (h2 : ∀ t r, b = t :: r → t.kind ≠ 2) :
    ∃ (p : List Tk) (k n : Nat), a = p ++ outsD k (n + 1 : Nat) ++ [⟨0, (n + 1 : Nat), []⟩] ∧ (p = [] ∨ ∃ q t, p = q ++ [t] ∧ t.kind ≠ 3) ∧ ((p = [] ∨ ∃ q t, p = q ++ [t] ∧ t.kind = 1) → (src ++ [10]).length + more.length ≤ 20000 →
      ∃ os : List Tk, lexD (src ++ [10] ++ more) = .ok (p ++ os ++ b.map (shT n)) ∧ os.length = k ∧ ∀ t ∈ os, t.kind = 3) := by
  unfold lexD at ha hb
  split at ha
  · cases ha
  split at hb
  · cases hb
  have hs1 : splitB (src ++ [10]) = splitB src ++ [[]] := splitB_app src []
  rw [hs1, rowsD_append] at ha
  generalize hR : splitB src = R at *
  cases hp : rowsD 1 ⟨0, [0]⟩ R with
  | error e => rw [hp] at ha; cases ha
  | ok p =>
    rw [hp] at ha
    simp only [rowsD, rowD_empty (show skipR [] = [] from rfl), List.append_nil, Except.ok.injEq, List.length_append, List.length_cons, List.length_nil] at ha
    cases hq : rowsD 1 ⟨0, [0]⟩ (splitB more) with
    | error e => rw [hq] at hb; cases hb
    | ok q =>
      rw [hq] at hb
      simp only [Except.ok.injEq] at hb
      have hop := rowsD_op OpOk.zero hp
      have hlast := rows_last hp
      refine ⟨p.1, p.2.op.length - 1, R.length, ha.symm, ?_, fun hc hl => ?_⟩
      · rcases hlast with rfl | ⟨x, t, e1, e2, e3⟩
        · exact .inl rfl
        · refine .inr ⟨x, t, e1, ?_⟩
          by_cases hd : p.2.d = 0
          · rw [e2 hd]; decide
          · have := e3 hd; omega
      · have hd : p.2.d = 0 := by
          rcases hlast with rfl | ⟨x, t, e1, e2, e3⟩
          · rfl
          · by_cases hd : p.2.d = 0
            · exact hd
            · have h4 := e3 hd
              rcases hc with hc | ⟨y, u, e4, e5⟩
              · rw [hc] at e1; simp at e1
              · rw [e1] at e4
                have := (List.append_inj' e4 rfl).2
                simp only [List.cons.injEq, and_true] at this
                rw [this] at h4
                omega
        have hst : p.2 = ⟨0, p.2.op⟩ := by rw [← hd]
        have hs2 : splitB (src ++ [10] ++ more) = R ++ splitB more := by
          rw [List.append_assoc, List.singleton_append, splitB_app, hR]
        have h2q : ∀ t r, q.1 = t :: r → t.kind ≠ 2 := fun t r e => h2 t (r ++ outsD (q.2.op.length - 1) (splitB more).length ++ [⟨0, (splitB more).length, []⟩]) (by rw [← hb, e]; simp)
        have hfrom : (q = ([], ⟨0, [0]⟩) ∧ rowsD (1 + R.length) ⟨0, p.2.op⟩ (splitB more) = .ok ([], ⟨0, p.2.op⟩)) ∨ ∃ l, rowsD (1 + R.length) ⟨0, p.2.op⟩ (splitB more) = .ok (outsD (p.2.op.length - 1) l ++ q.1.map (shT R.length), q.2) := by
          rw [rowsD_shift]
          rcases rows_from hop hq h2q with ⟨e1, e2⟩ | ⟨l, e⟩
          · exact .inl ⟨e1, by rw [e2]; rfl⟩
          · exact .inr ⟨l + R.length, by rw [e]; simp [shR, outsD, shT]⟩
        unfold lexD
        rw [if_neg (by rw [List.length_append]; omega), hs2, rowsD_append, hp]
        simp only
        rw [hst]
        simp only
        rcases hfrom with ⟨rfl, e⟩ | ⟨l, e⟩
        · rw [e]
          refine ⟨outsD (p.2.op.length - 1) ((R.length + (splitB more).length : Nat) : Int), ?_, by simp [outsD], fun t ht => by rw [outsD_mem ht]⟩
          rw [← hb]
          simp [outsD, shT]
          omega
        · rw [e]
          refine ⟨outsD (p.2.op.length - 1) l, ?_, by simp [outsD], fun t ht => by rw [outsD_mem ht]⟩
          rw [← hb]
          simp [outsD, shT]
          omega
end Go.Proofs.YtcjomeghcihecaaDoor
