/- Layer 10: how the search for what is live begins: rows of what is read, from where ways lead, who waits. -/
import Derived.Test.YtnniohimbmnapaaDoorFGr
namespace Go.Proofs.YtnniohimbmnapaaDoor
open Go Go.RowKit
set_option linter.unusedVariables false
set_option linter.unusedSimpArgs false
def pushF (x : Nat) (ff : Nat → List Nat) (w : Nat × List Nat) : Nat → List Nat := fun y => if y = w.1 then ff y ++ [x] else ff y
def ffAll (F : FuncD) (k : Nat) : Nat → List Nat := (List.range k).foldl (fun ff x => (waysN F x).foldl (pushF x) ff) (fun _ => [])
theorem ffAll_succ (F : FuncD) (k : Nat) : ffAll F (k + 1) = (waysN F k).foldl (pushF k) (ffAll F k) := by
  unfold ffAll
  rw [List.range_succ, List.foldl_append]; rfl
theorem push_mem {x z y : Nat} : ∀ (ws : List (Nat × List Nat)) (ff : Nat → List Nat), z ∈ (ws.foldl (pushF x) ff) y ↔ z ∈ ff y ∨ (z = x ∧ ∃ w ∈ ws, w.1 = y)
  | [], ff => by simp
  | w :: ws, ff => by
    rw [List.foldl_cons, push_mem ws (pushF x ff w)]
    unfold pushF
    by_cases e : y = w.1
    · rw [if_pos e]
      constructor
      · rintro (h | ⟨h, v, hv, hy⟩)
        · rcases List.mem_append.1 h with h | h
          · exact .inl h
          · simp at h; exact .inr ⟨h, w, by simp, e.symm⟩
        · exact .inr ⟨h, v, by simp [hv], hy⟩
      · rintro (h | ⟨h, v, hv, hy⟩)
        · exact .inl (List.mem_append.2 (.inl h))
        · exact .inl (List.mem_append.2 (.inr (by simp [h])))
    · rw [if_neg e]
      constructor
      · rintro (h | ⟨h, v, hv, hy⟩)
        · exact .inl h
        · exact .inr ⟨h, v, by simp [hv], hy⟩
      · rintro (h | ⟨h, v, hv, hy⟩)
        · exact .inl h
        · rcases List.mem_cons.1 hv with rfl | hv
          · exact absurd hy.symm e
          · exact .inr ⟨h, v, hv, hy⟩
theorem ffAll_mem {F : FuncD} {y z : Nat} : ∀ (k : Nat), z ∈ ffAll F k y ↔ z < k ∧ ∃ w ∈ waysN F z, w.1 = y
  | 0 => by simp [ffAll]
  | k + 1 => by
    rw [ffAll_succ, push_mem, ffAll_mem k]
    constructor
    · rintro (⟨h, hw⟩ | ⟨rfl, hw⟩)
      · exact ⟨by omega, hw⟩
      · exact ⟨by omega, hw⟩
    · rintro ⟨h, hw⟩
      by_cases e : z = k
      · exact .inr ⟨e, e ▸ hw⟩
      · exact .inl ⟨by omega, hw⟩
theorem ffAll_ok {F : FuncD} : FromOk (grOf F) (ffAll F F.ins.length) :=
  ⟨fun y hy w hw => (ffAll_mem _).2 ⟨hy, w, hw, rfl⟩, fun x hx y hy => ((ffAll_mem _).1 hy).1⟩
theorem lens_push (x : Nat) (ff : Nat → List Nat) (w : Nat × List Nat) : ∀ (m : Nat), lens (pushF x ff w) m ≤ lens ff m + 1 ∧ (m ≤ w.1 → lens (pushF x ff w) m = lens ff m)
  | 0 => by simp [lens]
  | m + 1 => by
    obtain ⟨h1, h2⟩ := lens_push x ff w m
    rw [lens, lens]
    have he : (pushF x ff w m).length = if m = w.1 then (ff m).length + 1 else (ff m).length := by
      unfold pushF
      by_cases e : m = w.1
      · rw [if_pos e, if_pos e]; simp
      · rw [if_neg e, if_neg e]
    rw [he]
    refine ⟨?_, fun h => ?_⟩
    · by_cases e : m = w.1
      · rw [if_pos e, h2 (by omega)]; omega
      · rw [if_neg e]; omega
    · rw [if_neg (by omega), h2 (by omega)]
theorem lens_pushes (x : Nat) (m : Nat) : ∀ (ws : List (Nat × List Nat)) (ff : Nat → List Nat), lens (ws.foldl (pushF x) ff) m ≤ lens ff m + ws.length
  | [], ff => by simp
  | w :: ws, ff => by
    rw [List.foldl_cons]
    have h1 := lens_pushes x m ws (pushF x ff w)
    have h2 := (lens_push x ff w m).1
    simp only [List.length_cons]; omega
theorem lens_all (F : FuncD) (m : Nat) : ∀ (k : Nat), lens (ffAll F k) m ≤ 3 * k
  | 0 => by
    have : ∀ m, lens (ffAll F 0) m = 0 := fun m => by
      induction m with
      | zero => rfl
      | succ m ih => rw [lens, ih]; simp [ffAll]
    rw [this]; omega
  | k + 1 => by
    rw [ffAll_succ]
    have h1 := lens_pushes k m (waysN F k) (ffAll F k)
    have h2 := lens_all F m k
    have h3 : (waysN F k).length ≤ 3 := by rw [waysN_len]; exact waysD_le F k
    omega
theorem len_le_lens {FF : Nat → List Nat} {x : Nat} : ∀ (m : Nat), x < m → (FF x).length ≤ lens FF m
  | m + 1, h => by
    rw [lens]
    by_cases e : x = m
    · subst e; omega
    · have := len_le_lens (FF := FF) (x := x) m (by omega); omega
/-- The row of what an instruction reads. -/
def rowR (F : FuncD) (s x : Nat) : List Nat := (readsN F x).foldl setW (List.replicate s 0)
def rowsR (F : FuncD) (s : Nat) : List (List Nat) := (List.range F.ins.length).map (rowR F s)
theorem rowsR_at {F : FuncD} {s x : Nat} (hx : x < F.ins.length) : (rowsR F s).getD x [] = rowR F s x := by
  unfold rowsR
  rw [List.getD_eq_getElem?_getD, List.getElem?_map, List.getElem?_range hx]; rfl
theorem rowsR_len (F : FuncD) (s : Nat) : (rowsR F s).length = F.ins.length := by simp [rowsR]
def downL (n k : Nat) : List Nat := ((List.range n).drop k).reverse
/-- The start of the work list: all wait, the last one first. -/
theorem wait_all (n : Nat) : ∀ (j : Nat), j ≤ n → ((List.range j).map (fun i => n - 1 - i)).foldl wait1 (List.replicate n false, []) = ((List.range n).map (fun i => decide (n - j ≤ i)), (List.range j).map (fun i => n - 1 - i))
  | 0, _ => by
    simp only [List.range_zero, List.map_nil, List.foldl_nil, Prod.mk.injEq, and_true]
    refine List.ext_getElem (by simp) fun i h1 h2 => ?_
    simp at h1 ⊢
    omega
  | j + 1, h => by
    rw [List.range_succ, List.map_append, List.foldl_append, wait_all n j (by omega)]
    simp only [List.map_cons, List.map_nil, List.foldl_cons, List.foldl_nil]
    have hg : ((List.range n).map fun i => decide (n - j ≤ i)).getD (n - 1 - j) true = false := by
      rw [List.getD_eq_getElem?_getD, List.getElem?_map, List.getElem?_range (by omega)]
      simp; omega
    unfold wait1
    rw [if_neg (by rw [hg]; simp)]
    simp only [Prod.mk.injEq, and_true]
    refine List.ext_getElem (by simp) fun i h1 h2 => ?_
    rw [List.getElem_set]
    simp only [List.getElem_map, List.getElem_range]
    by_cases e : n - 1 - j = i
    · rw [if_pos e]; simp; omega
    · rw [if_neg e]
      simp only [decide_eq_decide]
      omega
theorem inv_start {F : FuncD} (hS : SoundF F) {s : Nat} (hs : s = (grOf F).s) : Inv (grOf F) (ffAll F F.ins.length) (F.ins.length + 64 * (grOf F).s * lens (ffAll F F.ins.length) F.ins.length) (rowsR F s) (List.replicate F.ins.length true) ((List.range F.ins.length).map (fun i => F.ins.length - 1 - i)) 0 := by
  subst hs
  have hrd : ∀ y, y < F.ins.length → ∀ r ∈ readsN F y, r < 64 * (grOf F).s := fun y hy r hr => Nat.lt_of_lt_of_le (hS.gr.reads_lt y hy r hr) (grOf F).regs_s
  have hw : ∀ y, (List.replicate F.ins.length true).getD y true = true := fun y => by
    rw [List.getD_eq_getElem?_getD, List.getElem?_replicate]; split <;> rfl
  have hrow : ∀ y, y < F.ins.length → OkW (grOf F).s ((rowsR F (grOf F).s).getD y []) := fun y hy => by
    rw [rowsR_at hy]; exact OkW.setAll _ (OkW.zero _)
  have hh : ∀ y, y < F.ins.length → ∀ q, hasW ((rowsR F (grOf F).s).getD y []) q = true ↔ q ∈ readsN F y := fun y hy q => by
    rw [rowsR_at hy]
    unfold rowR
    rw [has_setAll _ (OkW.zero _) (hrd y hy), has_zero]
    simp
  refine ⟨⟨rowsR_len F _, hrow⟩, fun y hy q hq => .read ((hh y hy q).1 hq), fun y hy r hr => (hh y hy r).2 hr, by show (List.replicate F.ins.length true).length = F.ins.length; simp, fun y hy => ?_, fun y hy hf => ?_, fun y hy _ => ⟨F.ins.length - 1 - y, by omega, ?_, ?_⟩, ?_, by omega⟩
  · obtain ⟨i, hi, rfl⟩ := List.mem_map.1 hy
    have := List.mem_range.1 hi
    show F.ins.length - 1 - i < F.ins.length
    omega
  · rw [hw] at hf; cases hf
  · have : y < F.ins.length := hy
    simp; omega
  · have h : y < F.ins.length := hy
    rw [List.getD_eq_getElem?_getD, List.getElem?_map, List.getElem?_range (by omega)]
    simp; omega
  · have := pot_le (G := grOf F) (FF := ffAll F F.ins.length) (L := rowsR F (grOf F).s) F.ins.length
    show ((List.range F.ins.length).map _).length + pot _ _ _ F.ins.length ≤ _
    simp; omega
end Go.Proofs.YtnniohimbmnapaaDoor
