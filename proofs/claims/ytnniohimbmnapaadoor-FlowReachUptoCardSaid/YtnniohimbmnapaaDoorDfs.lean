/- Searching along ways for a place that reads, as plain data: a stack and marks. -/
import Derived.Test.YtnniohimbmnapaaDoorLvPure2
namespace Go.Proofs.YtnniohimbmnapaaDoor
open Go
set_option linter.unusedVariables false
set_option linter.unusedSimpArgs false
/-- What holds between two rounds of the search for a place that reads r. -/
structure DI (G : Gr) (fr r : Nat) (seen : List Bool) (todo : List Nat) : Prop where
  len : seen.length = G.n
  start : seen.getD fr true = true ∨ fr ∈ todo
  todo_lt : ∀ y ∈ todo, y < G.n
  noread : ∀ y, y < G.n → seen.getD y true = true → r ∉ G.reads y
  closed : ∀ y, y < G.n → seen.getD y true = true → ∀ w ∈ G.ways y, r ∉ w.2 → seen.getD w.1 true = true ∨ w.1 ∈ todo
  bound : todo.length + 4 * falses seen ≤ 4 * G.n + 1
def pushes (r : Nat) (ws : List (Nat × List Nat)) : List Nat := (ws.filter fun w => !decide (r ∈ w.2)).map (·.1)
theorem pushes_snoc (r : Nat) (ws : List (Nat × List Nat)) (w : Nat × List Nat) : pushes r (ws ++ [w]) = pushes r ws ++ (if r ∈ w.2 then [] else [w.1]) := by
  unfold pushes
  rw [List.filter_append, List.map_append]
  by_cases h : r ∈ w.2 <;> simp [h]
theorem pushes_len (r : Nat) (ws : List (Nat × List Nat)) : (pushes r ws).length ≤ ws.length := by
  unfold pushes
  rw [List.length_map]
  exact List.length_filter_le _ _
theorem DI.begin {G : Gr} {fr : Nat} (r : Nat) (hf : fr < G.n) : DI G fr r (List.replicate G.n false) [fr] := by
  have hg : ∀ y, y < G.n → (List.replicate G.n false).getD y true = true → False := fun y hy h => by
    rw [List.getD_eq_getElem?_getD, List.getElem?_replicate, if_pos hy] at h; simp at h
  refine ⟨by simp, .inr (by simp), fun y hy => by simp at hy; omega, fun y hy h => (hg y hy h).elim, fun y hy h => (hg y hy h).elim, ?_⟩
  have : falses (List.replicate G.n false) = G.n := by simp [falses, List.countP_replicate]
  simp; omega
theorem DI.skip {G : Gr} {fr r y : Nat} {seen : List Bool} {todo : List Nat} (h : DI G fr r seen (todo ++ [y])) (hy : seen.getD y true = true) : DI G fr r seen todo := by
  refine ⟨h.len, ?_, fun z hz => h.todo_lt z (by simp [hz]), h.noread, fun z hz hs w hw hr => ?_, ?_⟩
  · rcases h.start with h1 | h1
    · exact .inl h1
    · rcases List.mem_append.1 h1 with h2 | h2
      · exact .inr h2
      · simp at h2; subst h2; exact .inl hy
  · rcases h.closed z hz hs w hw hr with h1 | h1
    · exact .inl h1
    · rcases List.mem_append.1 h1 with h2 | h2
      · exact .inr h2
      · simp at h2; rw [h2]; exact .inl hy
  · have := h.bound
    simp at this
    omega
theorem DI.visit {G : Gr} (hG : G.Ok) {fr r y : Nat} {seen : List Bool} {todo : List Nat} (h : DI G fr r seen (todo ++ [y])) (hy : seen.getD y true = false) (hr : r ∉ G.reads y) :
    DI G fr r (seen.set y true) (todo ++ pushes r (G.ways y)) ∧ falses (seen.set y true) + 1 = falses seen := by
  have hyn := h.todo_lt y (by simp)
  have hf := falses_set seen y hy
  have hg : ∀ z, (seen.set y true).getD z true = true ↔ z = y ∨ seen.getD z true = true := fun z => by
    rw [getD_setL _ _ _ _ _ (by rw [h.len]; exact hyn)]
    by_cases e : y = z
    · simp [e]
    · rw [if_neg e]
      constructor
      · exact .inr
      · rintro (h | h)
        · exact absurd h.symm e
        · exact h
  refine ⟨⟨by simp [h.len], ?_, fun z hz => ?_, fun z hz hs => ?_, fun z hz hs w hw hn => ?_, ?_⟩, hf⟩
  · rw [hg]
    rcases h.start with h1 | h1
    · exact .inl (.inr h1)
    · rcases List.mem_append.1 h1 with h2 | h2
      · exact .inr (List.mem_append.2 (.inl h2))
      · simp at h2; exact .inl (.inl h2)
  · rcases List.mem_append.1 hz with h1 | h1
    · exact h.todo_lt z (by simp [h1])
    · unfold pushes at h1
      obtain ⟨w, hw, rfl⟩ := List.mem_map.1 h1
      exact hG.to_lt y hyn w (List.mem_filter.1 hw).1
  · rcases (hg z).1 hs with rfl | h1
    · exact hr
    · exact h.noread z hz h1
  · rw [hg]
    rcases (hg z).1 hs with rfl | h1
    · exact .inr (List.mem_append.2 (.inr (List.mem_map.2 ⟨w, List.mem_filter.2 ⟨hw, by simpa using hn⟩, rfl⟩)))
    · rcases h.closed z hz h1 w hw hn with h2 | h2
      · exact .inl (.inr h2)
      · rcases List.mem_append.1 h2 with h3 | h3
        · exact .inr (List.mem_append.2 (.inl h3))
        · simp at h3; exact .inl (.inl h3)
  · have h1 := h.bound
    have h2 := pushes_len r (G.ways y)
    have h3 := hG.few y hyn
    simp at h1 ⊢
    omega
theorem DI.none {G : Gr} (hG : G.Ok) {fr r : Nat} {seen : List Bool} (h : DI G fr r seen []) (hf : fr < G.n) : ¬ Lv G fr r := by
  have main : ∀ x q, Lv G x q → q = r → x < G.n → seen.getD x true = true → False := by
    intro x q hl
    induction hl with
    | read hr => rintro rfl hx hs; exact h.noread _ hx hs hr
    | way hw hn _ ih =>
      rintro rfl hx hs
      rcases h.closed _ hx hs _ hw hn with h1 | h1
      · exact ih rfl (hG.to_lt _ hx _ hw) h1
      · cases h1
  intro hl
  rcases h.start with h1 | h1
  · exact main fr r hl rfl hf h1
  · cases h1
end Go.Proofs.YtnniohimbmnapaaDoor
