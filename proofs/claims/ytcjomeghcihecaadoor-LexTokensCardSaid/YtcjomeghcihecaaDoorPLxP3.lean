/- Layer 4: rows, lines counted on, what is open; what Quiet and Joins ask: plain lists. -/
import Derived.Test.YtcjomeghcihecaaDoorPLxP2
namespace Go.Proofs.YtcjomeghcihecaaDoor
set_option linter.unusedVariables false
set_option linter.unusedSimpArgs false
def shT (k : Int) (t : Tk) : Tk := ⟨t.kind, t.line + k, t.text⟩
theorem toksD_nil (ln d : Int) : toksD ln d [] = some ([], d) := by rw [toksD]
theorem toksD_cons (ln d : Int) (c : UInt8) (r : Bs) : toksD ln d (c :: r) = match tokD (c :: r) with
    | none => none
    | some p => match toksD ln (depD d p.1 p.2.1) (skipR (r.drop (p.2.2 - 1))) with
      | none => none
      | some q => some (⟨p.1, ln, p.2.1⟩ :: q.1, q.2) := by
  rw [toksD]
  cases tokD (c :: r) with
  | none => rfl
  | some p =>
    simp only
    cases toksD ln (depD d p.1 p.2.1) (skipR (r.drop (p.2.2 - 1))) with
    | none => rfl
    | some q => rfl
/-- Induction over the tokens of a row. -/
theorem toks_ind {M : Bs → Prop} (h0 : M []) (h1 : ∀ c r, (∀ n, M (skipR (r.drop n))) → M (c :: r)) : ∀ l, M l := by
  intro l
  induction h : l.length using Nat.strongRecOn generalizing l with
  | _ n ih =>
    cases l with
    | nil => exact h0
    | cons c r =>
      refine h1 c r fun m => ih _ ?_ _ rfl
      have h2 := skipR_len (r.drop m)
      rw [List.length_drop] at h2
      simp only [List.length_cons] at h
      omega
theorem toksD_shift (k ln : Int) : ∀ (l : Bs) (d : Int), toksD (ln + k) d l = (toksD ln d l).map fun q => (q.1.map (shT k), q.2) := by
  intro l
  induction l using toks_ind with
  | h0 => intro d; rw [toksD_nil, toksD_nil]; rfl
  | h1 c r ih =>
    intro d
    rw [toksD_cons, toksD_cons]
    cases tokD (c :: r) with
    | none => rfl
    | some p =>
      simp only [ih]
      cases toksD ln (depD d p.1 p.2.1) (skipR (r.drop (p.2.2 - 1))) with
      | none => rfl
      | some q => rfl
theorem indD_shift (k ln n : Int) (op : List Int) : indD (ln + k) n op = (indD ln n op).map fun q => (q.1.map (shT k), q.2) := by
  unfold indD
  split
  · rfl
  · split
    · simp [outsD, shT]
    · rfl
theorem endD_shift (k ln d : Int) : endD (ln + k) d = (endD ln d).map (shT k) := by
  unfold endD
  split <;> rfl
def shR (k : Int) : Except (Int × Int) (List Tk × LxS) → Except (Int × Int) (List Tk × LxS)
  | .error e => .error (e.1 + k, e.2)
  | .ok p => .ok (p.1.map (shT k), p.2)
theorem rowD_shift (k ln : Int) (s : LxS) (row : Bs) : rowD (ln + k) s row = (rowD ln s row).map fun p => (p.1.map (shT k), p.2) := by
  unfold rowD
  by_cases h : skipR row = []
  · rw [if_pos h, if_pos h]; rfl
  · rw [if_neg h, if_neg h]
    have e : (if s.d = 0 then indD (ln + k) (blkN row) s.op else some ([], s.op)) = (if s.d = 0 then indD ln (blkN row) s.op else some ([], s.op)).map fun q => (q.1.map (shT k), q.2) := by
      split
      · exact indD_shift _ _ _ _
      · rfl
    rw [e]
    cases (if s.d = 0 then indD ln (blkN row) s.op else some ([], s.op)) with
    | none => rfl
    | some q =>
      simp only [Option.map_some, toksD_shift]
      cases toksD ln s.d (skipR row) with
      | none => rfl
      | some p =>
        simp only [Option.map_some, endD_shift]
        simp [Except.map]
theorem rowsD_shift (k : Int) : ∀ (rs : List Bs) (ln : Int) (s : LxS), rowsD (ln + k) s rs = shR k (rowsD ln s rs)
  | [], ln, s => rfl
  | row :: rs, ln, s => by
    simp only [rowsD, rowD_shift]
    cases rowD ln s row with
    | error e => rfl
    | ok p =>
      simp only [Except.map]
      rw [show ln + k + 1 = ln + 1 + k by omega, rowsD_shift k rs (ln + 1) p.2]
      cases rowsD (ln + 1) p.2 rs with
      | error e => rfl
      | ok q => simp [shR]
theorem rowsD_append : ∀ (a b : List Bs) (ln : Int) (s : LxS), rowsD ln s (a ++ b) = match rowsD ln s a with
    | .error e => .error e
    | .ok p => match rowsD (ln + a.length) p.2 b with
      | .error e => .error e
      | .ok q => .ok (p.1 ++ q.1, q.2)
  | [], b, ln, s => by
    simp only [List.nil_append, rowsD, List.length_nil]
    rw [show ln + (0 : Nat) = ln by omega]
    cases rowsD ln s b <;> simp
  | row :: a, b, ln, s => by
    simp only [List.cons_append, rowsD]
    cases rowD ln s row with
    | error e => rfl
    | ok p =>
      simp only [rowsD_append a b (ln + 1) p.2, List.length_cons]
      rw [show ln + 1 + (a.length : Int) = ln + ((a.length + 1 : Nat) : Int) by omega]
      cases rowsD (ln + 1) p.2 a with
      | error e => rfl
      | ok q =>
        simp only
        cases rowsD (ln + ((a.length + 1 : Nat) : Int)) q.2 b with
        | error e => rfl
        | ok x => simp
theorem splitB_ne (l : Bs) : splitB l ≠ [] := by
  cases l with
  | nil => simp [splitB]
  | cons c r =>
    simp only [splitB]
    split
    · simp
    · split <;> simp
theorem splitB_app : ∀ (a b : Bs), splitB (a ++ 10 :: b) = splitB a ++ splitB b
  | [], b => by simp [splitB]
  | c :: a, b => by
    have ih := splitB_app a b
    simp only [List.cons_append, splitB]
    split
    · rw [ih]; rfl
    · rw [ih]
      cases h : splitB a with
      | nil => exact absurd h (splitB_ne a)
      | cons x y => rfl
theorem splitB_row : ∀ {a : Bs}, NoNl a → splitB a = [a]
  | [], _ => rfl
  | c :: a, h => by
    have hc : c ≠ 10 := fun e => h (by simp [e])
    simp only [splitB, if_neg hc, splitB_row (a := a) fun x => h (List.mem_cons_of_mem _ x)]
theorem splitB_len : ∀ (l : Bs), (splitB l).length = l.count 10 + 1
  | [] => rfl
  | c :: r => by
    have ih := splitB_len r
    simp only [splitB]
    split
    · rename_i h; subst h; simp [ih]
    · rename_i h
      rw [List.count_cons_of_ne (by simpa using h)]
      cases hs : splitB r with
      | nil => exact absurd hs (splitB_ne r)
      | cons x y => rw [hs] at ih; simpa using ih
theorem rowD_empty {row : Bs} (h : skipR row = []) (ln : Int) (s : LxS) : rowD ln s row = .ok ([], s) := by unfold rowD; rw [if_pos h]
theorem rowsD_empty : ∀ {rs : List Bs}, (∀ r ∈ rs, skipR r = []) → ∀ (ln : Int) (s : LxS), rowsD ln s rs = .ok ([], s)
  | [], _, _, _ => rfl
  | r :: rs, h, ln, s => by
    simp only [rowsD, rowD_empty (h r (by simp)), rowsD_empty (fun x hx => h x (List.mem_cons_of_mem _ hx))]
    rfl
/-- Lines of errors lie in the rows. -/
theorem rows_err : ∀ {rs : List Bs} {ln : Int} {s : LxS} {e : Int × Int}, rowsD ln s rs = .error e → ln ≤ e.1 ∧ e.1 < ln + rs.length ∧ (e.2 = 20 ∨ e.2 = 21)
  | row :: rs, ln, s, e, h => by
    simp only [rowsD] at h
    cases hr : rowD ln s row with
    | error x =>
      rw [hr] at h
      simp only [Except.error.injEq] at h
      subst h
      refine ⟨Int.le_refl _, by simp only [List.length_cons]; omega, ?_⟩
      unfold rowD at hr
      split at hr
      · cases hr
      · split at hr
        · simp only [Except.error.injEq] at hr; exact .inr hr.symm
        · split at hr
          · simp only [Except.error.injEq] at hr; exact .inl hr.symm
          · cases hr
    | ok p =>
      rw [hr] at h
      simp only at h
      cases hq : rowsD (ln + 1) p.2 rs with
      | error x =>
        rw [hq] at h
        simp only [Except.error.injEq] at h
        subst h
        obtain ⟨h1, h2, h3⟩ := rows_err hq
        simp only [List.length_cons]
        exact ⟨by omega, by omega, h3⟩
      | ok q => rw [hq] at h; cases h
/-! What is open. -/
def OpOk (op : List Int) : Prop := ∃ q, op = q ++ [0] ∧ ∀ x ∈ q, 0 < x
theorem OpOk.zero : OpOk [0] := ⟨[], rfl, fun x hx => by simp at hx⟩
theorem OpOk.head {op : List Int} (h : OpOk op) : 0 ≤ op.headD 0 := by
  obtain ⟨q, rfl, hq⟩ := h
  cases q with
  | nil => simp
  | cons x q => have := hq x (by simp); simpa using (by omega : 0 ≤ x)
theorem OpOk.pop {op : List Int} (h : OpOk op) {n : Int} (hn : 0 ≤ n) : OpOk (popD n op) := by
  obtain ⟨q, rfl, hq⟩ := h
  induction q with
  | nil =>
    simp only [List.nil_append, popD]
    rw [if_neg (by omega)]
    exact .zero
  | cons x q ih =>
    simp only [List.cons_append, popD]
    split
    · exact ih fun y hy => hq y (List.mem_cons_of_mem _ hy)
    · exact ⟨x :: q, rfl, hq⟩
theorem OpOk.push {op : List Int} (h : OpOk op) {n : Int} (hn : op.headD 0 < n) : OpOk (n :: op) := by
  have h0 := h.head
  obtain ⟨q, rfl, hq⟩ := h
  exact ⟨n :: q, rfl, fun x hx => by
    rcases List.mem_cons.1 hx with rfl | hx
    · omega
    · exact hq x hx⟩
theorem OpOk.len {op : List Int} (h : OpOk op) : 1 ≤ op.length := by
  obtain ⟨q, rfl, _⟩ := h; simp
theorem OpOk.pop0 {op : List Int} (h : OpOk op) : popD 0 op = [0] := by
  obtain ⟨q, rfl, hq⟩ := h
  induction q with
  | nil => simp [popD]
  | cons x q ih =>
    simp only [List.cons_append, popD]
    rw [if_pos (hq x (by simp))]
    exact ih fun y hy => hq y (List.mem_cons_of_mem _ hy)
theorem indD_ok {ln n : Int} {op : List Int} (h : OpOk op) (hn : 0 ≤ n) {q : List Tk × List Int} (hq : indD ln n op = some q) : OpOk q.2 := by
  unfold indD at hq
  split at hq
  · rename_i h1
    simp only [Option.some.injEq] at hq
    subst hq
    exact h.push h1
  · split at hq
    · simp only [Option.some.injEq] at hq
      subst hq
      exact h.pop hn
    · cases hq
/-- What a row leaves. -/
theorem rowD_ok {ln : Int} {s : LxS} {row : Bs} {p : List Tk × LxS} (h : rowD ln s row = .ok p) :
    (skipR row = [] ∧ p = ([], s)) ∨ (skipR row ≠ [] ∧ ∃ q ts, (if s.d = 0 then indD ln (blkN row) s.op else some ([], s.op)) = some q ∧ toksD ln s.d (skipR row) = some ts ∧ p = (q.1 ++ ts.1 ++ endD ln ts.2, ⟨ts.2, q.2⟩)) := by
  unfold rowD at h
  split at h
  · rename_i h0
    exact .inl ⟨h0, (Except.ok.inj h).symm⟩
  · rename_i h0
    refine .inr ⟨h0, ?_⟩
    split at h
    · cases h
    · rename_i q hq
      split at h
      · cases h
      · rename_i ts hts
        exact ⟨q, ts, hq, hts, (Except.ok.inj h).symm⟩
theorem rowD_op {ln : Int} {s : LxS} {row : Bs} {p : List Tk × LxS} (hs : OpOk s.op) (h : rowD ln s row = .ok p) : OpOk p.2.op := by
  rcases rowD_ok h with ⟨_, rfl⟩ | ⟨_, q, ts, hq, _, rfl⟩
  · exact hs
  · show OpOk q.2
    split at hq
    · exact indD_ok hs (by omega) hq
    · simp only [Option.some.injEq] at hq; subst hq; exact hs
theorem rowsD_op : ∀ {rs : List Bs} {ln : Int} {s : LxS} {p : List Tk × LxS}, OpOk s.op → rowsD ln s rs = .ok p → OpOk p.2.op
  | [], ln, s, p, hs, h => by simp only [rowsD, Except.ok.injEq] at h; subst h; exact hs
  | row :: rs, ln, s, p, hs, h => by
    simp only [rowsD] at h
    cases hr : rowD ln s row with
    | error x => rw [hr] at h; cases h
    | ok a =>
      rw [hr] at h
      simp only at h
      cases hq : rowsD (ln + 1) a.2 rs with
      | error x => rw [hq] at h; cases h
      | ok b =>
        rw [hq] at h
        simp only [Except.ok.injEq] at h
        subst h
        exact rowsD_op (p := b) (rowD_op hs hr) hq
/-- A token's kind. -/
theorem tokD_kind {l : Bs} {p : Pc} (h : tokD l = some p) : 4 ≤ p.1 ∧ p.1 ≤ 9 := by
  unfold tokD at h
  split at h
  · cases h
  · rename_i c r
    split at h
    · simp only [Option.some.injEq] at h
      subst h
      simp only [namD, namK]
      split <;> omega
    · split at h
      · unfold numD at h
        split at h
        · cases h
        · simp only [Option.some.injEq] at h
          subst h
          simp only [numK]
          split <;> omega
      · split at h
        · simp only [strD, Option.map_eq_some_iff] at h
          obtain ⟨a, _, rfl⟩ := h
          simp
        · simp only [symD, Option.map_eq_some_iff] at h
          obtain ⟨a, _, rfl⟩ := h
          simp
theorem toksD_all {Q : Tk → Prop} {ln : Int} (hQ : ∀ l p, tokD l = some p → Q ⟨p.1, ln, p.2.1⟩) : ∀ (l : Bs) (d : Int) {q : List Tk × Int}, toksD ln d l = some q → ∀ t ∈ q.1, Q t := by
  intro l
  induction l using toks_ind with
  | h0 => intro d q h; rw [toksD_nil] at h; cases h; intro t ht; simp at ht
  | h1 c r ih =>
    intro d q h
    rw [toksD_cons] at h
    cases hp : tokD (c :: r) with
    | none => rw [hp] at h; cases h
    | some p =>
      rw [hp] at h
      simp only at h
      cases hq : toksD ln (depD d p.1 p.2.1) (skipR (r.drop (p.2.2 - 1))) with
      | none => rw [hq] at h; cases h
      | some x =>
        rw [hq] at h
        simp only [Option.some.injEq] at h
        subst h
        intro t ht
        rcases List.mem_cons.1 ht with rfl | ht
        · exact hQ _ _ hp
        · exact ih _ _ hq t ht
theorem toksD_ne {ln d : Int} {l : Bs} (hl : l ≠ []) {q : List Tk × Int} (h : toksD ln d l = some q) : q.1 ≠ [] := by
  cases l with
  | nil => exact absurd rfl hl
  | cons c r =>
    rw [toksD_cons] at h
    split at h
    · cases h
    · split at h
      · cases h
      · simp only [Option.some.injEq] at h
        subst h
        simp
theorem last_of_ne {α : Type} {l : List α} (h : l ≠ []) : ∃ q t, l = q ++ [t] := ⟨l.dropLast, l.getLast h, (List.dropLast_concat_getLast h).symm⟩
/-- The last token of rows. -/
theorem rowD_last {ln : Int} {s : LxS} {row : Bs} {p : List Tk × LxS} (h : rowD ln s row = .ok p) : p = ([], s) ∨ ∃ q t, p.1 = q ++ [t] ∧ (p.2.d = 0 → t.kind = 1) ∧ (p.2.d ≠ 0 → 4 ≤ t.kind) := by
  rcases rowD_ok h with ⟨_, rfl⟩ | ⟨h0, q, ts, hq, hts, rfl⟩
  · exact .inl rfl
  · refine .inr ?_
    simp only
    by_cases hd : ts.2 = 0
    · exact ⟨q.1 ++ ts.1, ⟨1, ln, []⟩, by simp [endD, hd], fun _ => rfl, fun h => absurd hd h⟩
    · obtain ⟨a, t, ht⟩ := last_of_ne (toksD_ne h0 hts)
      refine ⟨q.1 ++ a, t, by simp [endD, hd, ht], fun h => absurd h hd, fun _ => ?_⟩
      exact toksD_all (Q := fun t => 4 ≤ t.kind) (fun l p hp => (tokD_kind hp).1) _ _ hts t (by rw [ht]; simp)
theorem rows_last : ∀ {rs : List Bs} {ln : Int} {s : LxS} {p : List Tk × LxS}, rowsD ln s rs = .ok p → p = ([], s) ∨ ∃ q t, p.1 = q ++ [t] ∧ (p.2.d = 0 → t.kind = 1) ∧ (p.2.d ≠ 0 → 4 ≤ t.kind)
  | [], ln, s, p, h => by simp only [rowsD, Except.ok.injEq] at h; exact .inl h.symm
  | row :: rs, ln, s, p, h => by
    simp only [rowsD] at h
    cases hr : rowD ln s row with
    | error x => rw [hr] at h; cases h
    | ok a =>
      rw [hr] at h
      simp only at h
      cases hq : rowsD (ln + 1) a.2 rs with
      | error x => rw [hq] at h; cases h
      | ok b =>
        rw [hq] at h
        simp only [Except.ok.injEq] at h
        subst h
        rcases rows_last hq with rfl | ⟨q, t, h1, h2, h3⟩
        · rcases rowD_last hr with rfl | ⟨q, t, h1, h2, h3⟩
          · exact .inl rfl
          · exact .inr ⟨q, t, by simp [h1], h2, h3⟩
        · exact .inr ⟨a.1 ++ q, t, by simp [h1], h2, h3⟩
/-- Rows gone through with more open than the 0. -/
theorem rows_from {op : List Int} (ho : OpOk op) : ∀ {rs : List Bs} {ln : Int} {p : List Tk × LxS}, rowsD ln ⟨0, [0]⟩ rs = .ok p → (∀ t r, p.1 = t :: r → t.kind ≠ 2) →
    (p = ([], ⟨0, [0]⟩) ∧ rowsD ln ⟨0, op⟩ rs = .ok ([], ⟨0, op⟩)) ∨ ∃ l, rowsD ln ⟨0, op⟩ rs = .ok (outsD (op.length - 1) l ++ p.1, p.2)
  | [], ln, p, h, _ => by simp only [rowsD, Except.ok.injEq] at h; exact .inl ⟨h.symm, rfl⟩
  | row :: rs, ln, p, h, hp => by
    simp only [rowsD] at h ⊢
    cases hr : rowD ln ⟨0, [0]⟩ row with
    | error x => rw [hr] at h; cases h
    | ok a =>
      rw [hr] at h
      simp only at h
      cases hq : rowsD (ln + 1) a.2 rs with
      | error x => rw [hq] at h; cases h
      | ok b =>
        rw [hq] at h
        simp only [Except.ok.injEq] at h
        subst h
        rcases rowD_ok hr with ⟨h0, rfl⟩ | ⟨h0, q, ts, hi, hts, rfl⟩
        · rw [rowD_empty h0]
          simp only [List.nil_append] at hp hq ⊢
          rcases rows_from ho hq hp with ⟨rfl, e⟩ | ⟨l, e⟩
          · exact .inl ⟨rfl, by rw [e]⟩
          · exact .inr ⟨l, by rw [e]⟩
        · refine .inr ⟨ln, ?_⟩
          simp only [if_true] at hi
          have hb : (blkN row : Int) = 0 ∧ q = ([], [0]) := by
            unfold indD at hi
            by_cases h1 : (List.headD [0] 0 : Int) < (blkN row : Int)
            · rw [if_pos h1] at hi
              simp only [Option.some.injEq] at hi
              subst hi
              exact absurd rfl (hp ⟨2, ln, []⟩ _ rfl)
            · have h2 : (blkN row : Int) = 0 := by simp only [List.headD_cons] at h1; omega
              rw [if_neg h1, h2, OpOk.zero.pop0] at hi
              simp only [List.headD_cons, if_true, Option.some.injEq] at hi
              exact ⟨h2, by rw [← hi]; rfl⟩
          obtain ⟨hb, rfl⟩ := hb
          have hr2 : rowD ln ⟨0, op⟩ row = .ok (outsD (op.length - 1) ln ++ ts.1 ++ endD ln ts.2, ⟨ts.2, [0]⟩) := by
            unfold rowD
            rw [if_neg h0]
            simp only [if_true, hts]
            unfold indD
            rw [hb, if_neg (by have := ho.head; omega), ho.pop0]
            simp
          rw [hr2]
          simp only
          rw [hq]
          simp
end Go.Proofs.YtcjomeghcihecaaDoor
