/- What Alloc and Set make of a memory in form, as plain lists: it stays in form. -/
import Derived.Test.YtilonacjmihglaaPGAlloc
import Derived.Test.YtilonacjmihglaaPGCheck
import Derived.Test.YtilonacjmihglaaPObjects
namespace Go.Proofs.Ytilonacjmihglaa
open Go.RowKit
set_option linter.unusedSimpArgs false
set_option linter.unusedVariables false
theorem getD_lt {ws : List Int} {i : Nat} (h : i < ws.length) : ws.getD i 0 = ws[i] := by simp [List.getD_eq_getElem?_getD, h]
theorem drop_all {ws : List Int} {n : Nat} : (ws.drop n).all (· == 0) = true ↔ ∀ i, n ≤ i → ws.getD i 0 = 0 := by
  rw [List.all_eq_true]
  constructor
  · intro h i hi
    by_cases hl : i < ws.length
    · have := h (ws.getD i 0) (by
        rw [getD_lt hl]
        have : (ws.drop n)[i - n]'(by rw [List.length_drop]; omega) = ws[i] := by rw [List.getElem_drop]; congr 1; omega
        rw [← this]; exact List.getElem_mem _)
      simpa using this
    · simp [List.getD_eq_getElem?_getD, List.getElem?_eq_none (by omega : ws.length ≤ i)]
  · intro h x hx
    obtain ⟨j, hj, rfl⟩ := List.getElem_of_mem hx
    rw [List.getElem_drop]
    rw [List.length_drop] at hj
    have := h (n + j) (by omega)
    rw [getD_lt (by omega)] at this
    simpa using this
theorem okAt_len {vs : List Int} {a : Nat} (h : okAt vs a = true) : a + 2 + (hT (headAt vs a)).toNat ≤ a + sz vs a ∧ a + sz vs a ≤ vs.length := by
  have h1 := okAt_sz h
  have := hT_lo (headAt vs a)
  omega
theorem tags_all {vs : List Int} {a : Nat} (h : okAt vs a = true) (p : Int → Bool) : (tags vs a).all p = true ↔ ∀ j : Nat, j < (hT (headAt vs a)).toNat → p (vs.getD (a + 2 + j) 0) = true := by
  have hl := okAt_len h
  have hlen : (tags vs a).length = (hT (headAt vs a)).toNat := by unfold tags; rw [List.length_take, List.length_drop]; omega
  have hget : ∀ j (hj : j < (tags vs a).length), (tags vs a)[j] = vs.getD (a + 2 + j) 0 := fun j hj => by
    rw [← getD_lt hj]
    rw [hlen] at hj
    unfold tags
    rw [getD_take, if_pos hj, getD_drop]
  rw [List.all_eq_true]
  constructor
  · intro h j hj
    rw [← hget j (by omega)]
    exact h _ (List.getElem_mem _)
  · intro h x hx
    obtain ⟨j, hj, rfl⟩ := List.getElem_of_mem hx
    rw [hget j hj]
    exact h j (by omega)
theorem head_ext {vs vs' : List Int} {k : Nat} (hl : vs.length ≤ vs'.length) (hk : k + 1 < vs.length) (he : vs'.getD k 0 = vs.getD k 0) : headAt vs' k = headAt vs k := by
  unfold headAt
  rw [Int.toNat_natCast, he]
  by_cases h : 1 ≤ (k : Int)
  · rw [if_pos ⟨h, by omega⟩, if_pos ⟨h, by omega⟩]
  · rw [if_neg (fun g => h g.1), if_neg (fun g => h g.1)]
theorem okAt_two {vs : List Int} {k : Nat} (h : okAt vs k = true) : k + 1 < vs.length := by have := okAt_sz h; omega
theorem okAt_ext {vs vs' : List Int} {k : Nat} (hl : vs.length ≤ vs'.length) (h0 : vs'.getD k 0 = vs.getD k 0) (h1 : vs'.getD (k + 1) 0 = vs.getD (k + 1) 0) (h : okAt vs k = true) : okAt vs' k = true ∧ headAt vs' k = headAt vs k := by
  have he := head_ext hl (okAt_two h) h0
  refine ⟨?_, he⟩
  unfold okAt there at h ⊢
  rw [he, h1]
  simp only [Bool.and_eq_true, decide_eq_true_eq] at h ⊢
  omega
theorem sz_ext {vs vs' : List Int} {k : Nat} (h : headAt vs' k = headAt vs k) : sz vs' k = sz vs k := by unfold sz; rw [h]
theorem scan_more {vs vs' : List Int} (hl : vs.length ≤ vs'.length) (he : ∀ i, i < vs.length → vs'.getD i 0 = vs.getD i 0) : ∀ (f k : Nat) (l : List Nat), k ≤ vs.length → vs.length ≤ f + k → scanF vs f k = some l → scan vs' k = (scan vs' vs.length).map (l ++ ·) := by
  intro f
  induction f with
  | zero =>
    intro k l h1 h2 h
    obtain rfl : k = vs.length := by omega
    simp only [scanF, if_neg (Nat.lt_irrefl _), Option.some.injEq] at h
    subst h
    simp
  | succ f ih =>
    intro k l h1 h2 h
    simp only [scanF] at h
    split at h
    · rename_i hk
      split at h
      · rename_i ho
        rw [Option.map_eq_some_iff] at h
        obtain ⟨r, hr, rfl⟩ := h
        have hs := okAt_sz ho
        obtain ⟨ho', hh⟩ := okAt_ext hl (he k hk) (he (k + 1) (okAt_two ho)) ho
        rw [scan_ok (by omega) ho', sz_ext hh, ih _ r (by omega) (by omega) hr, Option.map_map]
        congr 1
      · cases h
    · simp only [Option.some.injEq] at h
      subst h
      obtain rfl : k = vs.length := by omega
      simp
theorem scan_same {vs vs' : List Int} {q : Nat} (hl : vs'.length = vs.length) (he : ∀ i, i ≠ q → vs'.getD i 0 = vs.getD i 0) : ∀ (f k : Nat) (l : List Nat), scanF vs f k = some l → (∀ b ∈ l, q ≠ b ∧ q ≠ b + 1) → scanF vs' f k = some l := by
  intro f
  induction f with
  | zero =>
    intro k l h hb
    simp only [scanF, hl] at h ⊢
    exact h
  | succ f ih =>
    intro k l h hb
    simp only [scanF, hl] at h ⊢
    split at h
    · rename_i hk
      rw [if_pos hk]
      split at h
      · rename_i ho
        rw [Option.map_eq_some_iff] at h
        obtain ⟨r, hr, rfl⟩ := h
        have hq := hb k (by simp)
        obtain ⟨ho', hh⟩ := okAt_ext (Nat.le_of_eq hl.symm) (he k (fun e => hq.1 e.symm)) (he (k + 1) (fun e => hq.2 e.symm)) ho
        rw [if_pos ho', sz_ext hh, ih _ r hr (fun b hbr => hb b (List.mem_cons_of_mem _ hbr))]
        rfl
      · cases h
    · rename_i hk
      rw [if_neg hk]
      exact h
theorem scan_apart {vs : List Int} : ∀ (f k : Nat) (l : List Nat), scanF vs f k = some l → ∀ a ∈ l, ∀ b ∈ l, a = b ∨ a + sz vs a ≤ b ∨ b + sz vs b ≤ a := by
  intro f
  induction f with
  | zero =>
    intro k l h a ha
    simp only [scanF] at h
    split at h
    · cases h
    · simp only [Option.some.injEq] at h; subst h; simp at ha
  | succ f ih =>
    intro k l h a ha b hb
    simp only [scanF] at h
    split at h
    · split at h
      · rw [Option.map_eq_some_iff] at h
        obtain ⟨r, hr, rfl⟩ := h
        have hlo := fun x hx => (scanF_lt vs _ _ _ hr x hx).1
        rcases List.mem_cons.1 ha with ea | ha'
        · rcases List.mem_cons.1 hb with eb | hb'
          · exact .inl (ea.trans eb.symm)
          · exact .inr (.inl (by rw [ea]; exact hlo b hb'))
        · rcases List.mem_cons.1 hb with eb | hb'
          · exact .inr (.inr (by rw [eb]; exact hlo a ha'))
          · exact ih _ _ hr a ha' b hb'
      · cases h
    · simp only [Option.some.injEq] at h; subst h; simp at ha
theorem getD_set (ws : List Int) (q : Nat) (x : Int) (i : Nat) : (ws.set q x).getD i 0 = if i = q ∧ q < ws.length then x else ws.getD i 0 := by
  simp only [List.getD_eq_getElem?_getD, List.getElem?_set]
  by_cases h : q = i
  · subst h
    by_cases h2 : q < ws.length
    · simp [h2]
    · simp [h2]
  · rw [if_neg h, if_neg (fun g => h g.1.symm)]
/-- A memory in form: 'l' are its objects. -/
structure Form (ws : List Int) (top : Nat) (l : List Nat) : Prop where
  two : 2 ≤ ws.length
  most : ws.length ≤ 1048576
  one : 1 ≤ top
  le : top ≤ ws.length
  nought : ws.getD 0 0 = 0
  free : ∀ i, top ≤ i → ws.getD i 0 = 0
  scan : scan (ws.take top) 1 = some l
  words : ∀ a ∈ l, ∀ j : Nat, j < (hT (headAt (ws.take top) a)).toNat → rightW l ((ws.take top).getD (a + 2 + j) 0) = true
theorem Form.ok {ws : List Int} {top : Nat} {l : List Nat} (h : Form ws top l) : memOk ws top = true ∧ objList ws top = l := by
  have hm : memOk ws top = true := by
    unfold memOk sizesOk shapeOk
    rw [Int.toNat_natCast, h.scan]
    simp only [Bool.and_eq_true, decide_eq_true_eq]
    refine ⟨⟨h.two, h.most, by have := h.one; omega, by have := h.le; omega, h.nought⟩, drop_all.2 h.free, ?_⟩
    unfold wordsOk
    rw [List.all_eq_true]
    intro a ha
    exact (tags_all (scan_mem_ok h.scan a ha) _).2 (h.words a ha)
  refine ⟨hm, ?_⟩
  unfold objList
  rw [if_pos hm, Int.toNat_natCast, h.scan]
  rfl
theorem Form.len {ws : List Int} {top : Nat} {l : List Nat} (h : Form ws top l) : (ws.take top).length = top := by
  rw [List.length_take]; have := h.le; omega
end Go.Proofs.Ytilonacjmihglaa
