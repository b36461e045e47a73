/- Layer 4: the texts of a source's tokens are no longer than the source. -/
import Derived.Test.YtcjomeghcihecaaDoorPLxZ
namespace Go.Proofs.YtcjomeghcihecaaDoor
open Go Go.ChangeShapes Go.WideShapes Go.ChangeAt Go.RowKit Go.PlainAid Go.Maps
set_option linter.unusedVariables false
set_option linter.unusedSimpArgs false
theorem strS_txt (q : UInt8) : ∀ (l : Bs) (st : StM) {p : Bs × Nat}, strS q st l = some p → p.1.length ≤ p.2
  | [], st, p, h => by cases st <;> simp [strS] at h
  | c :: r, st, p, h => by
    have ih := fun st' {p'} (h' : strS q st' r = some p') => strS_txt q r st' h'
    cases st with
    | plain =>
      simp only [strS] at h
      split at h
      · simp only [Option.some.injEq] at h; subst h; simp
      · split at h
        · cases h
        · split at h
          · simp only [Option.map_eq_some_iff] at h; obtain ⟨p', h1, rfl⟩ := h; have := ih _ h1; simp only; omega
          · simp only [Option.map_eq_some_iff] at h; obtain ⟨p', h1, rfl⟩ := h; have := ih _ h1; simp only [List.length_cons]; omega
    | esc =>
      simp only [strS] at h
      split at h
      · simp only [Option.map_eq_some_iff] at h; obtain ⟨p', h1, rfl⟩ := h; have := ih _ h1; simp only; omega
      · split at h
        · cases h
        · simp only [Option.map_eq_some_iff] at h; obtain ⟨p', h1, rfl⟩ := h; have := ih _ h1; simp only [List.length_cons]; omega
    | hex =>
      simp only [strS] at h
      split at h
      · cases h
      · simp only [Option.map_eq_some_iff] at h; obtain ⟨p', h1, rfl⟩ := h; have := ih _ h1; simp only; omega
    | hex2 m =>
      simp only [strS] at h
      split at h
      · cases h
      · simp only [Option.map_eq_some_iff] at h; obtain ⟨p', h1, rfl⟩ := h; have := ih _ h1; simp only [List.length_cons]; omega
theorem tokD_txt {l : Bs} {p : Pc} (h : tokD l = some p) : p.2.1.length ≤ p.2.2 := by
  unfold tokD at h
  split at h
  · cases h
  · rename_i c r
    split at h
    · simp only [Option.some.injEq] at h
      subst h
      simp only [namD]
      exact List.length_take_le _ _
    · split at h
      · unfold numD at h
        split at h
        · cases h
        · simp only [Option.some.injEq] at h
          subst h
          exact List.length_take_le _ _
      · split at h
        · simp only [strD, Option.map_eq_some_iff] at h
          obtain ⟨a, h1, rfl⟩ := h
          have := strS_txt _ _ _ h1
          simp only
          omega
        · simp only [symD, Option.map_eq_some_iff] at h
          obtain ⟨a, _, rfl⟩ := h
          exact Nat.le_refl _
def txSum (ts : List Tk) : Nat := (ts.map fun t => t.text.length).sum
theorem txSum_app (a b : List Tk) : txSum (a ++ b) = txSum a + txSum b := by simp [txSum]
theorem txSum_cons (t : Tk) (r : List Tk) : txSum (t :: r) = t.text.length + txSum r := by simp [txSum]
theorem txSum_zero : ∀ {ts : List Tk}, (∀ t ∈ ts, t.text = []) → txSum ts = 0
  | [], _ => rfl
  | t :: r, h => by rw [txSum_cons, h t List.mem_cons_self, txSum_zero fun u hu => h u (List.mem_cons_of_mem _ hu)]; rfl
theorem txSum_mem {ts : List Tk} {t : Tk} (h : t ∈ ts) : t.text.length ≤ txSum ts := by
  induction ts with
  | nil => cases h
  | cons u r ih =>
    rw [txSum_cons]
    rcases List.mem_cons.1 h with rfl | h
    · omega
    · have := ih h; omega
theorem toksD_txt (ln : Int) : ∀ (l : Bs) (d : Int) {q : List Tk × Int}, toksD ln d l = some q → txSum q.1 ≤ l.length := by
  intro l
  induction l using toks_ind with
  | h0 => intro d q h; rw [toksD_nil] at h; cases h; simp [txSum]
  | h1 c r ih =>
    intro d q h
    rw [toksD_cons] at h
    cases hp : tokD (c :: r) with
    | none => rw [hp] at h; cases h
    | some p =>
      rw [hp] at h
      simp only at h
      cases hq : toksD ln (depD d p.1 p.2.1) (skipR (r.drop (p.2.2 - 1))) with
      | none => rw [hq] at h; cases h
      | some x =>
        rw [hq] at h
        simp only [Option.some.injEq] at h
        subst h
        have h1 := ih _ _ hq
        have h3 := skipR_len (r.drop (p.2.2 - 1))
        have h4 := tokD_txt hp
        have h5 := tokD_len hp
        rw [List.length_drop] at h3
        rw [txSum_cons]
        simp only [List.length_cons] at h5 ⊢
        omega
theorem rowD_txt {ln : Int} {s : LxS} {row : Bs} {p : List Tk × LxS} (h : rowD ln s row = .ok p) : txSum p.1 ≤ row.length := by
  rcases rowD_ok h with ⟨_, rfl⟩ | ⟨h0, q, ts, hi, hts, rfl⟩
  · simp [txSum]
  · have h1 := toksD_txt ln _ _ hts
    have hsl := skipR_len row
    have hend : txSum (endD ln ts.2) = 0 := txSum_zero (fun t ht => by unfold endD at ht; split at ht <;> simp at ht; rw [ht])
    have hq : txSum q.1 = 0 := txSum_zero (fun t ht => by
      split at hi
      · unfold indD at hi
        split at hi
        · simp only [Option.some.injEq] at hi
          subst hi
          simp only [List.mem_singleton] at ht
          rw [ht]
        · split at hi
          · simp only [Option.some.injEq] at hi
            subst hi
            rw [outsD_mem ht]
          · cases hi
      · simp only [Option.some.injEq] at hi
        subst hi
        simp at ht)
    simp only [txSum_app]
    omega
theorem rowsD_txt : ∀ {rs : List Bs} {ln : Int} {s : LxS} {p : List Tk × LxS}, rowsD ln s rs = .ok p → txSum p.1 ≤ (rs.map List.length).sum
  | [], ln, s, p, h => by simp only [rowsD, Except.ok.injEq] at h; subst h; simp [txSum]
  | row :: rs, ln, s, p, h => by
    simp only [rowsD] at h
    cases hr : rowD ln s row with
    | error e => rw [hr] at h; cases h
    | ok x =>
      rw [hr] at h
      simp only at h
      cases hq : rowsD (ln + 1) x.2 rs with
      | error e => rw [hq] at h; cases h
      | ok y =>
        rw [hq] at h
        simp only [Except.ok.injEq] at h
        subst h
        have h1 := rowD_txt hr
        have h2 := rowsD_txt hq
        rw [txSum_app, List.map_cons, List.sum_cons]
        omega
theorem splitB_sum : ∀ l : Bs, ((splitB l).map List.length).sum ≤ l.length
  | [] => by simp [splitB]
  | c :: r => by
    have ih := splitB_sum r
    simp only [splitB]
    split
    · simp; omega
    · cases h : splitB r with
      | nil => exact absurd h (splitB_ne r)
      | cons a t => rw [h] at ih; simp at ih ⊢; omega
theorem lexD_txt {src : Bs} {ts : List Tk} (h : lexD src = .ok ts) : txSum ts ≤ src.length ∧ src.length ≤ 20000 := by
  unfold lexD at h
  split at h
  · cases h
  · refine ⟨?_, by omega⟩
    cases hp : rowsD 1 ⟨0, [0]⟩ (splitB src) with
    | error e => rw [hp] at h; cases h
    | ok p =>
      rw [hp] at h
      simp only [Except.ok.injEq] at h
      subst h
      have h1 := rowsD_txt hp
      have h2 := splitB_sum src
      have h3 : txSum (outsD (p.2.op.length - 1) (splitB src).length) = 0 := txSum_zero (fun t ht => by rw [outsD_mem ht])
      rw [txSum_app, txSum_app, h3]
      simp only [txSum, List.map_cons, List.map_nil, List.sum_cons, List.sum_nil, List.length_nil]
      unfold txSum at h1
      omega
end Go.Proofs.YtcjomeghcihecaaDoor
