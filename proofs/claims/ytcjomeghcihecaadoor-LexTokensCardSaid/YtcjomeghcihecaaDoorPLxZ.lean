/- Layer 4: a whole source: sizes, rows one behind the other, what Lex answers. -/
import Derived.Test.YtcjomeghcihecaaDoorPLxY
namespace Go.Proofs.YtcjomeghcihecaaDoor
open Go Go.ChangeShapes Go.WideShapes Go.ChangeAt Go.RowKit Go.PlainAid Go.Maps
set_option linter.unusedVariables false
set_option linter.unusedSimpArgs false
theorem toksD_size (ln : Int) : ∀ (l : Bs) (d : Int) {q : List Tk × Int}, toksD ln d l = some q → q.1.length ≤ l.length ∧ (0 ≤ d → 0 ≤ q.2 ∧ q.2 ≤ d + l.length) := by
  intro l
  induction l using toks_ind with
  | h0 => intro d q h; rw [toksD_nil] at h; cases h; simp
  | h1 c r ih =>
    intro d q h
    rw [toksD_cons] at h
    cases hp : tokD (c :: r) with
    | none => rw [hp] at h; cases h
    | some p =>
      rw [hp] at h
      simp only at h
      cases hq : toksD ln (depD d p.1 p.2.1) (skipR (r.drop (p.2.2 - 1))) with
      | none => rw [hq] at h; cases h
      | some x =>
        rw [hq] at h
        simp only [Option.some.injEq] at h
        subst h
        obtain ⟨h1, h2⟩ := ih _ _ hq
        have h3 := skipR_len (r.drop (p.2.2 - 1))
        rw [List.length_drop] at h3
        simp only [List.length_cons]
        refine ⟨by omega, fun hd => ?_⟩
        have h4 := depD_lo (k := p.1) (t := p.2.1) hd
        have h5 := h2 h4.1
        omega
theorem rowD_size {ln : Int} {s : LxS} {row : Bs} {p : List Tk × LxS} (hs : OpOk s.op) (h : rowD ln s row = .ok p) : p.1.length + p.2.op.length ≤ s.op.length + 4 * row.length ∧ (0 ≤ s.d → 0 ≤ p.2.d ∧ p.2.d ≤ s.d + row.length) ∧ (∀ t ∈ p.2.op, t ∈ s.op ∨ t ≤ row.length) := by
  rcases rowD_ok h with ⟨_, rfl⟩ | ⟨h0, q, ts, hi, hts, rfl⟩
  · exact ⟨by simp, fun h => by simp only; omega, fun t ht => .inl ht⟩
  · obtain ⟨h1, h2⟩ := toksD_size ln _ _ hts
    have hsl := skipR_len row
    have hrl : 1 ≤ row.length := by
      cases row with
      | nil => exact absurd rfl h0
      | cons c r => simp
    have hend : (endD ln ts.2).length ≤ 1 := by unfold endD; split <;> simp
    have hq : q.1.length + q.2.length ≤ s.op.length + 2 ∧ ∀ t ∈ q.2, t ∈ s.op ∨ t ≤ row.length := by
      split at hi
      · have hpop : ∀ (n : Int) (op : List Int), ∀ t ∈ popD n op, t ∈ op := by
          intro n op
          induction op with
          | nil => intro t ht; simp [popD] at ht
          | cons x r ih =>
            intro t ht
            simp only [popD] at ht
            split at ht
            · exact List.mem_cons_of_mem _ (ih t ht)
            · exact ht
        have hb := blkN_le row
        unfold indD at hi
        split at hi
        · simp only [Option.some.injEq] at hi
          subst hi
          refine ⟨by simp only [List.length_cons, List.length_nil]; omega, fun t ht => ?_⟩
          rcases List.mem_cons.1 ht with rfl | ht
          · exact .inr (by omega)
          · exact .inl ht
        · split at hi
          · simp only [Option.some.injEq] at hi
            subst hi
            have := popD_len (blkN row : Int) s.op
            exact ⟨by simp only [outsD, List.length_replicate]; omega, fun t ht => .inl (hpop _ _ t ht)⟩
          · cases hi
      · simp only [Option.some.injEq] at hi
        subst hi
        exact ⟨by simp, fun t ht => .inl ht⟩
    refine ⟨by simp only [List.length_append]; omega, fun hd => ?_, hq.2⟩
    have := h2 hd
    simp only
    omega
theorem split_end {s : ByteArray} {a : Nat} (h : s.size ≤ a + (rowOf (Rs s a)).length) : splitB (Rs s a) = [rowOf (Rs s a)] := by
  have e : rowOf (Rs s a) = Rs s a := by
    obtain ⟨b, e, hb⟩ := row_split (Rs s a)
    have hl := congrArg List.length e
    rw [List.length_append, Rs_len] at hl
    have hb0 : b = [] := List.length_eq_zero_iff.1 (by omega)
    rw [hb0, List.append_nil] at e
    exact e.symm
  conv => lhs; rw [← e]
  exact splitB_row (rowOf_clean _)
theorem split_more {s : ByteArray} {a : Nat} (h : a + (rowOf (Rs s a)).length < s.size) : splitB (Rs s a) = rowOf (Rs s a) :: splitB (Rs s (a + (rowOf (Rs s a)).length + 1)) := by
  obtain ⟨b, e, hb⟩ := row_split (Rs s a)
  have hl := congrArg List.length e
  rw [List.length_append, Rs_len] at hl
  rcases hb with rfl | ⟨r, rfl⟩
  · simp only [List.length_nil] at hl; omega
  · have hr : r = Rs s (a + (rowOf (Rs s a)).length + 1) := by
      have h2 := congrArg (List.drop ((rowOf (Rs s a)).length + 1)) e
      rw [Rs_drop] at h2
      rw [← Nat.add_assoc] at h2
      rw [h2, List.drop_append, List.drop_of_length_le (by omega)]
      simp
    conv => lhs; rw [e]
    rw [splitB_app, splitB_row (rowOf_clean _), ← hr]
    rfl
/-- What has been gone through of a source, and what is left. -/
def Gone (s : ByteArray) (a ln : Nat) (d : Int) (op : List Int) (acc : List Tk) : Prop :=
  rowsD 1 ⟨0, [0]⟩ (splitB (Rs s 0)) = (match rowsD ln ⟨d, op⟩ (splitB (Rs s a)) with
    | .error e => .error e
    | .ok q => .ok (acc ++ q.1, q.2)) ∧ (splitB (Rs s 0)).length + 1 = ln + (splitB (Rs s a)).length
theorem Gone.start (s : ByteArray) : Gone s 0 1 0 [0] [] := by
  refine ⟨?_, by omega⟩
  show rowsD 1 ⟨0, [0]⟩ (splitB (Rs s 0)) = _
  cases rowsD 1 ⟨0, [0]⟩ (splitB (Rs s 0)) <;> rfl
theorem Gone.bad {s : ByteArray} {a ln : Nat} {d : Int} {op : List Int} {acc : List Tk} (h : Gone s a ln d op acc) (hl : a < s.size) {n : Int} (hr : rowD ln ⟨d, op⟩ (rowOf (Rs s a)) = .error n) : rowsD 1 ⟨0, [0]⟩ (splitB (Rs s 0)) = .error ((ln : Int), n) := by
  rw [h.1]
  by_cases hm : a + (rowOf (Rs s a)).length < s.size
  · rw [split_more (s := s) (a := a) hm]; simp only [rowsD, hr]
  · rw [split_end (s := s) (a := a) (by omega)]; simp only [rowsD, hr]
theorem Gone.last {s : ByteArray} {a ln : Nat} {d : Int} {op : List Int} {acc : List Tk} (h : Gone s a ln d op acc) (hm : a + (rowOf (Rs s a)).length = s.size) {p : List Tk × LxS} (hr : rowD ln ⟨d, op⟩ (rowOf (Rs s a)) = .ok p) : Gone s s.size ln p.2.d p.2.op (acc ++ p.1) := by
  obtain ⟨h1, h2⟩ := h
  rw [split_end (s := s) (a := a) (by omega)] at h1 h2
  have he : Rs s s.size = [] := Rs_end (Nat.le_refl _)
  refine ⟨?_, by rw [he]; simpa [splitB] using h2⟩
  rw [h1, he]
  have hr2 : rowD (ln : Int) ⟨p.2.d, p.2.op⟩ [] = .ok ([], ⟨p.2.d, p.2.op⟩) := rowD_empty rfl _ _
  simp only [splitB, rowsD, hr, hr2]
  simp
theorem Gone.next {s : ByteArray} {a ln : Nat} {d : Int} {op : List Int} {acc : List Tk} (h : Gone s a ln d op acc) (hm : a + (rowOf (Rs s a)).length < s.size) {p : List Tk × LxS} (hr : rowD ln ⟨d, op⟩ (rowOf (Rs s a)) = .ok p) : Gone s (a + (rowOf (Rs s a)).length + 1) (ln + 1) p.2.d p.2.op (acc ++ p.1) := by
  obtain ⟨h1, h2⟩ := h
  rw [split_more (s := s) (a := a) hm] at h1 h2
  refine ⟨?_, by simp only [List.length_cons] at h2; omega⟩
  rw [h1]
  simp only [rowsD, hr]
  rw [show (ln : Int) + 1 = ((ln + 1 : Nat) : Int) by omega]
  have e : (⟨p.2.d, p.2.op⟩ : LxS) = p.2 := rfl
  rw [e]
  cases rowsD ((ln + 1 : Nat) : Int) p.2 (splitB (Rs s (a + (rowOf (Rs s a)).length + 1))) with
  | error e => rfl
  | ok q => simp
theorem Gone.done {s : ByteArray} {ln : Nat} {d : Int} {op : List Int} {acc : List Tk} (h : Gone s s.size ln d op acc) : rowsD 1 ⟨0, [0]⟩ (splitB (Rs s 0)) = .ok (acc, ⟨d, op⟩) ∧ ln = (splitB (Rs s 0)).length := by
  obtain ⟨h1, h2⟩ := h
  rw [Rs_end (Nat.le_refl _)] at h1 h2
  have hr2 : rowD (ln : Int) ⟨d, op⟩ [] = .ok ([], ⟨d, op⟩) := rowD_empty rfl _ _
  simp only [splitB, rowsD, hr2, List.append_nil] at h1
  exact ⟨h1, by simp [splitB] at h2; omega⟩
/-- What Lex answers. -/
def LexP (W : World) (r : Except (Int × Int) (List Tk)) (e : Ending) (w' : World) : Prop := match r with
  | .ok ts => ∃ v, e = .returned (.tuple #[v, .int .i64 0, .int .i64 0]) ∧ w'.ownsRow W.heap.size 33 3 v ts.length (flatT ts) ∧ Below W.heap.size W w'
  | .error p => e = .returned (.tuple #[.slice none 0 0, .int .i64 p.1, .int .i64 p.2]) ∧ Below W.heap.size W w'
/-- The lexer as it is made. -/
theorem mkLX {D : DataW Unit} {w : World} {B mb kb g c : Nat} {s : ByteArray} {T : TypeId} (hm : w.ownsMap Tryd.prog 9 (plainElem Tryd.prog 3) mb 32 D) (hk : w.heap[kb]? = some (.cells (symsB.map fun l => Value.string (bsOf l)).toArray 9))
    (hg : w.heap[g]? = some (.cells #[.int .i64 0] 3)) (hgB : B ≤ g) (hwB : B ≤ w.heap.size) :
    LX D (w.alloc (.cells #[.string s, .int .i64 0, .int .i64 1, .int .i64 0, .slice (some ⟨g, 0, none⟩) 1 1, .map (some mb), .slice (some ⟨kb, 0, none⟩) 30 30, .slice none 0 0] T)) B w.heap.size mb kb ⟨s, 0, 1, 0, [0], []⟩ := by
  have hfx : Fx D w mb kb := ⟨hm, hk⟩
  have hlt := hfx.lt
  have hgl : g < w.heap.size := (Array.getElem?_eq_some_iff.1 hg).1
  have hold : ∀ b, b < w.heap.size → (w.alloc (.cells #[.string s, .int .i64 0, .int .i64 1, .int .i64 0, .slice (some ⟨g, 0, none⟩) 1 1, .map (some mb), .slice (some ⟨kb, 0, none⟩) 30 30, .slice none 0 0] T)).heap[b]? = w.heap[b]? := fun b hb => Below.heap_alloc _ _ _ hb
  have hgm : g ≠ mb := by
    intro e
    obtain ⟨es, clock, h1, _⟩ := hm
    rw [← e, hg] at h1
    cases h1
  have hgk : g ≠ kb := by
    intro e
    rw [← e, hg] at hk
    simp only [Option.some.injEq, Obj.cells.injEq] at hk
    exact absurd hk.2.1 (by decide)
  refine ⟨_, _, C8.new w _ _ _ _ _ _ _ _ T, hwB, ?_, World.ownsRow_nil _ _ _ _, hfx.of (hold _ hlt.1) (hold _ hlt.2), by omega, by omega, ?_, ?_, ?_, ?_, ?_, ?_, ?_⟩
  · exact ⟨rfl, .inr ⟨g, 1, #[.int .i64 0], rfl, hgB, (hold g hgl).trans hg, Nat.le_refl _, by unfold maxLen; omega, rfl, rfl⟩⟩
  · simp only [Value.ownBlock, ne_eq, Option.some.injEq]; omega
  · simpa [Value.ownBlock] using hgm
  · simpa [Value.ownBlock] using hgk
  · simp [Value.ownBlock]
  · simp [Value.ownBlock]
  · simp [Value.ownBlock]
  · simp [Value.ownBlock]
end Go.Proofs.YtcjomeghcihecaaDoor
