/- Layer 19: what merging keeps: every list's order, each number once; the orders of classes. -/
import Derived.Test.YtfddcmapjnkhhaaMPure
namespace Go.Proofs.Ytfddcmapjnkhhaa
set_option linter.unusedVariables false
set_option linter.unusedSimpArgs false
theorem strip_mem {n x : Int} {l : List Int} (h : x ∈ strip n l) : x ∈ l := by
  cases l with
  | nil => exact h
  | cons y r =>
    simp only [strip] at h
    split at h
    · exact List.mem_cons_of_mem _ h
    · exact h
theorem strip_sub (n : Int) (l : List Int) : (strip n l).Sublist l := by
  cases l with
  | nil => exact List.Sublist.refl _
  | cons y r =>
    simp only [strip]
    split
    · exact List.sublist_cons_self _ _
    · exact List.Sublist.refl _
theorem merge_ind {P : List (List Int) → Prop} (h0 : ∀ ls, firstL ls = none → P ls) (h1 : ∀ ls n, firstL ls = some n → P (stepM ls n) → P ls) : ∀ (k : Nat) (ls : List (List Int)), total ls = k → P ls := by
  intro k
  induction k using Nat.strongRecOn with
  | _ k ih =>
    intro ls hk
    cases h : firstL ls with
    | none => exact h0 ls h
    | some n => exact h1 ls n h (ih _ (by have := step_lt h; omega) _ rfl)
theorem merge_from {ls : List (List Int)} : ∀ x ∈ (mergeL ls).1, ∃ l ∈ ls, x ∈ l := by
  refine merge_ind (P := fun ls => ∀ x ∈ (mergeL ls).1, ∃ l ∈ ls, x ∈ l) (fun ls h x hx => ?_) (fun ls n h ih x hx => ?_) _ ls rfl
  · rw [mergeL_none h] at hx; simp at hx
  · rw [mergeL_some h] at hx
    rcases List.mem_cons.1 hx with rfl | hx
    · obtain ⟨l, hl, r, rfl, _⟩ := firstL_some h
      exact ⟨_, hl, by simp⟩
    · obtain ⟨l', hl', hx'⟩ := ih x hx
      obtain ⟨l, hl, rfl⟩ := List.mem_map.1 hl'
      exact ⟨l, hl, strip_mem hx'⟩
theorem merge_sub {ls : List (List Int)} (h : allNil (mergeL ls).2 = true) : ∀ l ∈ ls, l.Sublist (mergeL ls).1 := by
  revert h
  refine merge_ind (P := fun ls => allNil (mergeL ls).2 = true → ∀ l ∈ ls, l.Sublist (mergeL ls).1) (fun ls h ha l hl => ?_) (fun ls n h ih ha l hl => ?_) _ ls rfl
  · rw [mergeL_none h] at ha ⊢
    have := List.all_eq_true.1 ha l hl
    simp at this
    subst this
    exact List.nil_sublist _
  · rw [mergeL_some h] at ha ⊢
    have h2 := ih ha (strip n l) (List.mem_map.2 ⟨l, hl, rfl⟩)
    cases l with
    | nil => exact List.nil_sublist _
    | cons x r =>
      simp only [strip] at h2
      split at h2
      · rename_i e; subst e; exact h2.cons_cons x
      · exact h2.cons _
theorem merge_nodup {ls : List (List Int)} (h : ∀ l ∈ ls, l.Nodup) : (mergeL ls).1.Nodup := by
  revert h
  refine merge_ind (P := fun ls => (∀ l ∈ ls, l.Nodup) → (mergeL ls).1.Nodup) (fun ls h hn => ?_) (fun ls n h ih hn => ?_) _ ls rfl
  · rw [mergeL_none h]; exact List.Pairwise.nil
  · rw [mergeL_some h]
    refine List.nodup_cons.2 ⟨fun hm => ?_, ih fun l hl => ?_⟩
    · obtain ⟨l', hl', hx⟩ := merge_from n hm
      obtain ⟨l, hl, rfl⟩ := List.mem_map.1 hl'
      obtain ⟨_, _, _, _, hin⟩ := firstL_some h
      have hnt : hasFrom l 1 n = false := by
        refine Bool.eq_false_iff.2 fun hc => ?_
        rw [Bool.eq_false_iff] at hin
        exact hin (List.any_eq_true.2 ⟨l, hl, hc⟩)
      cases l with
      | nil => simp [strip] at hx
      | cons y r =>
        have hr : n ∉ r := fun hr => by
          have : hasFrom (y :: r) 1 n = true := by unfold hasFrom; simpa using hr
          rw [this] at hnt; cases hnt
        simp only [strip] at hx
        split at hx
        · exact hr hx
        · rename_i hne
          rcases List.mem_cons.1 hx with e | hx
          · exact hne e.symm
          · exact hr hx
    · obtain ⟨l0, h0, rfl⟩ := List.mem_map.1 hl
      exact (hn l0 h0).sublist (strip_sub n l0)
theorem optAll_some : ∀ {os : List (Option (List Int))} {ls : List (List Int)}, optAll os = some ls → os = ls.map some
  | [], ls, h => by simp [optAll] at h; subst h; rfl
  | o :: r, ls, h => by
    simp only [optAll] at h
    cases o with
    | none => simp at h
    | some x =>
      cases hr : optAll r with
      | none => rw [hr] at h; simp at h
      | some xs =>
        rw [hr] at h
        simp only [Option.some.injEq] at h
        subst h
        rw [List.map_cons, ← optAll_some hr]
theorem optAll_map : ∀ (ls : List (List Int)), optAll (ls.map some) = some ls
  | [] => rfl
  | x :: r => by simp [optAll, optAll_map r]
theorem optAll_none {os : List (Option (List Int))} (h : none ∈ os) : optAll os = none := by
  cases e : optAll os with
  | none => rfl
  | some ls =>
    rw [optAll_some e] at h
    simp at h
theorem nextO_some {o : Int → Option (List Int)} {c : Int} {bs l : List Int} (h : nextO o c bs = some l) :
    ∃ ls, bs.map o = ls.map some ∧ allNil (mergeL (ls ++ [bs])).2 = true ∧ l = c :: (mergeL (ls ++ [bs])).1 := by
  unfold nextO at h
  cases e : optAll (bs.map o) with
  | none => rw [e] at h; cases h
  | some ls =>
    rw [e] at h
    simp only at h
    split at h
    · rename_i ha
      simp only [Option.some.injEq] at h
      exact ⟨ls, optAll_some e, ha, h.symm⟩
    · cases h
theorem nextO_eq {o : Int → Option (List Int)} {c : Int} {bs : List Int} {ls : List (List Int)} (h : bs.map o = ls.map some) : nextO o c bs = if allNil (mergeL (ls ++ [bs])).2 then some (c :: (mergeL (ls ++ [bs])).1) else none := by
  unfold nextO
  rw [h, optAll_map]
theorem nextO_none {o : Int → Option (List Int)} {c : Int} {bs : List Int} {b : Int} (hb : b ∈ bs) (h : o b = none) : nextO o c bs = none := by
  unfold nextO
  rw [optAll_none (List.mem_map.2 ⟨b, hb, h⟩)]
/-- An order's numbers: from 0 to its class, once each. -/
structure OrdOk (c : Int) (l : List Int) : Prop where
  head : ∃ r, l = c :: r
  nodup : l.Nodup
  lo : ∀ x ∈ l, 0 ≤ x ∧ x ≤ c
theorem ord_ok {bases : List (List Int)} (hf : FitP bases) : ∀ (n : Nat) (c : Int) (l : List Int), 0 ≤ c → c.toNat = n → ord bases c = some l → OrdOk c l := by
  intro n
  induction n using Nat.strongRecOn with
  | _ n ih =>
    intro c l hc hn h
    rw [ord_next hf hc] at h
    obtain ⟨ls, hls, ha, rfl⟩ := nextO_some h
    have hfa := hf.at c.toNat
    have hmem : ∀ l ∈ ls, ∃ b ∈ bases.getD c.toNat [], ord bases b = some l := by
      intro l hl
      have : some l ∈ (bases.getD c.toNat []).map (ord bases) := by rw [hls]; exact List.mem_map.2 ⟨l, hl, rfl⟩
      obtain ⟨b, hb, e⟩ := List.mem_map.1 this
      exact ⟨b, hb, e⟩
    have hlow : ∀ l ∈ ls ++ [bases.getD c.toNat []], l.Nodup ∧ ∀ x ∈ l, 0 ≤ x ∧ x < c := by
      intro l hl
      rcases List.mem_append.1 hl with hl | hl
      · obtain ⟨b, hb, e⟩ := hmem l hl
        have hb2 := hfa.1 b hb
        have hok := ih b.toNat (by omega) b l hb2.1 rfl e
        exact ⟨hok.nodup, fun x hx => by have := hok.lo x hx; omega⟩
      · simp at hl
        subst hl
        exact ⟨hfa.2, fun x hx => by have := hfa.1 x hx; omega⟩
    have hin : ∀ x ∈ (mergeL (ls ++ [bases.getD c.toNat []])).1, 0 ≤ x ∧ x < c := by
      intro x hx
      obtain ⟨l, hl, hxl⟩ := merge_from x hx
      exact (hlow l hl).2 x hxl
    refine ⟨⟨_, rfl⟩, List.nodup_cons.2 ⟨fun hm => by have := hin c hm; omega, merge_nodup fun l hl => (hlow l hl).1⟩, fun x hx => ?_⟩
    rcases List.mem_cons.1 hx with rfl | hx
    · omega
    · have := hin x hx; omega
theorem nodup_len : ∀ (n : Nat) (l : List Int), l.Nodup → (∀ x ∈ l, 0 ≤ x ∧ x < (n : Int)) → l.length ≤ n
  | 0, l, _, h => by
    cases l with
    | nil => simp
    | cons x r => have := h x (by simp); omega
  | n + 1, l, hn, h => by
    by_cases hm : (n : Int) ∈ l
    · have h1 := nodup_len n (l.erase (n : Int)) (hn.erase _) fun x hx => by
        have h2 := (hn.mem_erase_iff).1 hx
        have h3 := h x h2.2
        have h4 : x ≠ (n : Int) := h2.1
        omega
      rw [List.length_erase_of_mem hm] at h1
      omega
    · have := nodup_len n l hn fun x hx => by
        have h3 := h x hx
        have h4 : x ≠ (n : Int) := fun e => hm (e ▸ hx)
        omega
      omega
theorem ord_len {bases : List (List Int)} (hf : FitP bases) {c : Int} {l : List Int} (hc : 0 ≤ c) (h : ord bases c = some l) : l.length ≤ c.toNat + 1 := by
  have hok := ord_ok hf _ c l hc rfl h
  exact nodup_len _ l hok.nodup fun x hx => by have := hok.lo x hx; omega
theorem fit_len {bases : List (List Int)} (hf : FitP bases) (c : Nat) : (bases.getD c []).length ≤ c := nodup_len _ _ (hf.at c).2 fun x hx => (hf.at c).1 x hx
theorem total_bound {ls : List (List Int)} {k : Nat} (h : ∀ l ∈ ls, l.length ≤ k) : total ls ≤ ls.length * k := by
  induction ls with
  | nil => simp [total]
  | cons l r ih =>
    have h1 := ih fun x hx => h x (List.mem_cons_of_mem _ hx)
    have h2 := h l (by simp)
    simp only [total, List.map_cons, List.sum_cons, List.length_cons, Nat.add_mul] at h1 ⊢
    omega
end Go.Proofs.Ytfddcmapjnkhhaa
