/- Layer 19: merging lists and the orders of classes: plain lists of integers. -/
namespace Go.Proofs.Ytfddcmapjnkhhaa
set_option linter.unusedVariables false
set_option linter.unusedSimpArgs false
def hasFrom (l : List Int) (k : Nat) (n : Int) : Bool := (l.drop k).contains n
def inTail (ls : List (List Int)) (x : Int) : Bool := ls.any fun l => hasFrom l 1 x
def cand (ls : List (List Int)) (l : List Int) : Option Int := match l with
  | [] => none
  | x :: _ => if inTail ls x then none else some x
def firstL (ls : List (List Int)) : Option Int := ls.findSome? (cand ls)
def strip (n : Int) (l : List Int) : List Int := match l with
  | [] => []
  | x :: r => if x = n then r else x :: r
def stepM (ls : List (List Int)) (n : Int) : List (List Int) := ls.map (strip n)
def total (ls : List (List Int)) : Nat := (ls.map List.length).sum
def mergeF : Nat → List (List Int) → List Int × List (List Int)
  | 0, ls => ([], ls)
  | f + 1, ls => match firstL ls with
    | none => ([], ls)
    | some n => (n :: (mergeF f (stepM ls n)).1, (mergeF f (stepM ls n)).2)
def mergeL (ls : List (List Int)) : List Int × List (List Int) := mergeF (total ls) ls
theorem strip_le (n : Int) (l : List Int) : (strip n l).length ≤ l.length := by
  cases l with
  | nil => simp [strip]
  | cons x r => simp only [strip]; split <;> simp
theorem firstL_some {ls : List (List Int)} {n : Int} (h : firstL ls = some n) : ∃ l ∈ ls, ∃ r, l = n :: r ∧ inTail ls n = false := by
  obtain ⟨l, hl, hc⟩ := List.exists_of_findSome?_eq_some h
  refine ⟨l, hl, ?_⟩
  cases l with
  | nil => simp [cand] at hc
  | cons x r =>
    simp only [cand] at hc
    split at hc
    · cases hc
    · rename_i hi
      simp only [Option.some.injEq] at hc
      subst hc
      exact ⟨r, rfl, by simpa using hi⟩
theorem total_le (n : Int) : ∀ (ls : List (List Int)), total (stepM ls n) ≤ total ls
  | [] => Nat.le_refl _
  | l :: ls => by
    have h1 := strip_le n l
    have h2 := total_le n ls
    simp only [total, stepM, List.map_cons, List.sum_cons] at h2 ⊢
    omega
theorem total_lt {n : Int} : ∀ {ls : List (List Int)} {r : List Int}, (n :: r) ∈ ls → total (stepM ls n) < total ls
  | l :: ls, r, h => by
    rcases List.mem_cons.1 h with rfl | h
    · have h2 := total_le n ls
      simp only [total, stepM, List.map_cons, List.sum_cons, strip, if_true, List.length_cons] at h2 ⊢
      omega
    · have h1 := strip_le n l
      have h2 := total_lt h
      simp only [total, stepM, List.map_cons, List.sum_cons] at h2 ⊢
      omega
theorem step_lt {ls : List (List Int)} {n : Int} (h : firstL ls = some n) : total (stepM ls n) < total ls := by
  obtain ⟨l, hl, r, rfl, _⟩ := firstL_some h
  exact total_lt hl
theorem mergeF_fuel : ∀ (f : Nat) (ls : List (List Int)), total ls ≤ f → mergeF f ls = mergeL ls := by
  intro f
  induction f using Nat.strongRecOn with
  | _ f ih =>
    intro ls hf
    unfold mergeL
    cases f with
    | zero => rw [show total ls = 0 by omega]
    | succ f =>
      cases ht : total ls with
      | zero =>
        simp only [mergeF]
        cases h : firstL ls with
        | none => rfl
        | some n => have := step_lt h; omega
      | succ t =>
        simp only [mergeF]
        cases h : firstL ls with
        | none => rfl
        | some n =>
          have hl := step_lt h
          simp only
          rw [ih f (by omega) _ (by omega), ih t (by omega) _ (by omega)]
theorem mergeL_none {ls : List (List Int)} (h : firstL ls = none) : mergeL ls = ([], ls) := by
  unfold mergeL
  cases total ls with
  | zero => rfl
  | succ t => simp [mergeF, h]
theorem mergeL_some {ls : List (List Int)} {n : Int} (h : firstL ls = some n) : mergeL ls = (n :: (mergeL (stepM ls n)).1, (mergeL (stepM ls n)).2) := by
  have hl := step_lt h
  rw [← mergeF_fuel (total ls - 1) (stepM ls n) (by omega)]
  unfold mergeL
  obtain ⟨t, ht⟩ : ∃ t, total ls = t + 1 := ⟨total ls - 1, by omega⟩
  rw [ht]
  simp [mergeF, h]
theorem mergeL_len : ∀ (k : Nat) (ls : List (List Int)), total ls = k → (mergeL ls).1.length ≤ total ls := by
  intro k
  induction k using Nat.strongRecOn with
  | _ k ih =>
    intro ls hk
    cases h : firstL ls with
    | none => rw [mergeL_none h]; simp
    | some n =>
      have hl := step_lt h
      rw [mergeL_some h]
      have := ih (total (stepM ls n)) (by omega) (stepM ls n) rfl
      simp only [List.length_cons]
      omega
def allNil (ls : List (List Int)) : Bool := ls.all fun l => l.isEmpty
def optAll : List (Option (List Int)) → Option (List (List Int))
  | [] => some []
  | o :: r => match o, optAll r with
    | some x, some xs => some (x :: xs)
    | _, _ => none
def nextO (o : Int → Option (List Int)) (c : Int) (bs : List Int) : Option (List Int) :=
  match optAll (bs.map o) with
  | none => none
  | some ls => if allNil (mergeL (ls ++ [bs])).2 then some (c :: (mergeL (ls ++ [bs])).1) else none
def ordF (bases : List (List Int)) : Nat → Int → Option (List Int)
  | 0, _ => none
  | f + 1, c => nextO (ordF bases f) c (bases.getD c.toNat [])
def ord (bases : List (List Int)) (c : Int) : Option (List Int) := ordF bases (c.toNat + 1) c
/-- All bases fit: below their class, none twice. -/
def FitAt (c : Nat) (l : List Int) : Prop := (∀ b ∈ l, 0 ≤ b ∧ b < (c : Int)) ∧ l.Nodup
def FitP (bases : List (List Int)) : Prop := ∀ c, c < bases.length → FitAt c (bases.getD c [])
theorem FitP.at {bases : List (List Int)} (h : FitP bases) (c : Nat) : FitAt c (bases.getD c []) := by
  by_cases hc : c < bases.length
  · exact h c hc
  · rw [List.getD_eq_getElem?_getD, List.getElem?_eq_none (by omega)]
    exact ⟨fun b hb => (by simp at hb), List.Pairwise.nil⟩
theorem nextO_congr {o o' : Int → Option (List Int)} {c : Int} {bs : List Int} (h : ∀ b ∈ bs, o b = o' b) : nextO o c bs = nextO o' c bs := by
  unfold nextO
  rw [List.map_congr_left h]
theorem ordF_fuel {bases : List (List Int)} (hf : FitP bases) : ∀ (n : Nat) (c : Int), 0 ≤ c → c.toNat = n → ∀ f, n < f → ordF bases f c = ord bases c := by
  intro n
  induction n using Nat.strongRecOn with
  | _ n ih =>
    intro c hc hn f hlt
    obtain ⟨g, rfl⟩ : ∃ g, f = g + 1 := ⟨f - 1, by omega⟩
    unfold ord
    simp only [ordF]
    refine nextO_congr fun b hb => ?_
    have hb2 := (hf.at c.toNat).1 b hb
    rw [ih b.toNat (by omega) b hb2.1 rfl g (by omega), ih b.toNat (by omega) b hb2.1 rfl c.toNat (by omega)]
theorem ord_next {bases : List (List Int)} (hf : FitP bases) {c : Int} (hc : 0 ≤ c) : ord bases c = nextO (ord bases) c (bases.getD c.toNat []) := by
  rw [show ord bases c = nextO (ordF bases c.toNat) c (bases.getD c.toNat []) from rfl]
  refine nextO_congr fun b hb => ?_
  have hb2 := (hf.at c.toNat).1 b hb
  exact ordF_fuel hf b.toNat b hb2.1 rfl c.toNat (by omega)
end Go.Proofs.Ytfddcmapjnkhhaa
