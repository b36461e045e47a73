/- Layer 14, plain: what the document's collection writes, told by the list of what is reached; what a collection leaves is one. Layer 14, plain: what a collection leaves is in form, all of it is reached. Layer 14, plain: collected twice. Layer 14, the document's Collect. -/
import Derived.Test.YtfhjpgbnojdlkaaPGSlRf
import Derived.Test.YtfhjpgbnojdlkaaPGRefAll
namespace Go.Proofs.Ytfhjpgbnojdlkaa
section
open Go.RowKit
set_option linter.unusedSimpArgs false
set_option linter.unusedVariables false
/-- Where the i-th of a list of objects lies, the sizes before it summed. -/
def frL (sz : Nat → Nat) (L : List Nat) (i : Nat) : Nat := 1 + ((L.take i).map sz).sum
theorem frL_zero (sz : Nat → Nat) (L : List Nat) : frL sz L 0 = 1 := by simp [frL]
theorem frL_succ {sz : Nat → Nat} {L : List Nat} {i : Nat} (h : i < L.length) : frL sz L (i + 1) = frL sz L i + sz (L.getD i 0) := by
  unfold frL
  have e : L.getD i 0 = L[i] := by rw [List.getD_eq_getElem?_getD, List.getElem?_eq_getElem h]; rfl
  rw [List.take_succ_eq_append_getElem h, List.map_append, List.sum_append, e]
  simp; omega
theorem frL_mono {sz : Nat → Nat} {L : List Nat} {i j : Nat} (h : i ≤ j) (hj : j ≤ L.length) : frL sz L i ≤ frL sz L j := by
  induction j with
  | zero => obtain rfl : i = 0 := by omega
            exact Nat.le_refl _
  | succ j ih =>
    rcases Nat.lt_or_ge i (j + 1) with h' | h'
    · have := ih (by omega) (by omega); have := frL_succ (sz := sz) (L := L) (i := j) hj; omega
    · obtain rfl : i = j + 1 := by omega
      exact Nat.le_refl _
theorem frK_sum (l : List Nat) (M : Nat → Bool) (sz : Nat → Nat) : ∀ k, k ≤ l.length → frK l M sz k = 1 + (((l.take k).filter M).map sz).sum := by
  intro k
  induction k with
  | zero => intro _; rfl
  | succ k ih =>
    intro hk
    have h : k < l.length := hk
    have e : l.getD k 0 = l[k] := by rw [List.getD_eq_getElem?_getD, List.getElem?_eq_getElem h]; rfl
    have e2 : frK l M sz (k + 1) = frK l M sz k + if M (l.getD k 0) = true then sz (l.getD k 0) else 0 := rfl
    rw [e2, ih (by omega), List.take_succ_eq_append_getElem h, List.filter_append, List.map_append, List.sum_append, ← e]
    cases hM : M (l.getD k 0)
    · rw [if_neg (by simp), List.filter_cons_of_neg (by rw [hM]; exact Bool.false_ne_true)]; simp
    · rw [if_pos rfl, List.filter_cons_of_pos hM]; simp; omega
/-- The i-th of the marked ones, among all. -/
theorem filt_at {M : Nat → Bool} : ∀ (l : List Nat) (i : Nat), i < (l.filter M).length → ∃ j, j < l.length ∧ l.getD j 0 = (l.filter M).getD i 0 ∧ M (l.getD j 0) = true ∧ (l.take j).filter M = (l.filter M).take i := by
  intro l
  induction l with
  | nil => intro i hi; simp at hi
  | cons a l ih =>
    intro i hi
    cases hM : M a
    · rw [List.filter_cons_of_neg (by simp [hM])] at hi ⊢
      obtain ⟨j, h1, h2, h3, h4⟩ := ih i hi
      exact ⟨j + 1, by simpa using h1, by simpa using h2, by simpa using h3, by rw [List.take_succ_cons, List.filter_cons_of_neg (by simp [hM])]; exact h4⟩
    · rw [List.filter_cons_of_pos hM] at hi ⊢
      cases i with
      | zero => exact ⟨0, by simp, by simp, by simpa using hM, by simp⟩
      | succ i =>
        obtain ⟨j, h1, h2, h3, h4⟩ := ih i (by simpa using hi)
        exact ⟨j + 1, by simpa using h1, by simpa using h2, by simpa using h3, by rw [List.take_succ_cons, List.filter_cons_of_pos hM, List.take_succ_cons, h4]⟩
theorem filt_idx {M : Nat → Bool} {l : List Nat} {j : Nat} (hl : l.Pairwise (· < ·)) (hj : j < l.length) (hM : M (l.getD j 0) = true) : ∃ i, i < (l.filter M).length ∧ (l.filter M).getD i 0 = l.getD j 0 := by
  have : l.getD j 0 ∈ l.filter M := List.mem_filter.2 ⟨mem_getD hj, hM⟩
  exact getD_of_mem this
theorem dst_L {l : List Nat} {M : Nat → Bool} {sz : Nat → Nat} (hl : l.Pairwise (· < ·)) {i : Nat} (hi : i < (l.filter M).length) : dstA l M sz ((l.filter M).getD i 0) = frL sz (l.filter M) i := by
  obtain ⟨j, h1, h2, h3, h4⟩ := filt_at l i hi
  rw [← h2, dst_at hl h1, frK_sum l M sz j (by omega), h4]; rfl
theorem frK_L {l : List Nat} {M : Nat → Bool} {sz : Nat → Nat} : frK l M sz l.length = frL sz (l.filter M) (l.filter M).length := by
  rw [frK_sum l M sz _ (Nat.le_refl _), List.take_length]; unfold frL; rw [List.take_length]
/-- The new places while they are laid. -/
def toL (tn : Nat) (l : List Nat) (M : Nat → Bool) (sz : Nat → Nat) (i : Nat) : List Int := (List.range tn).map fun a => if a ∈ (l.filter M).take i then ((dstA l M sz a : Nat) : Int) else 0
theorem toL_len (tn : Nat) (l : List Nat) (M : Nat → Bool) (sz : Nat → Nat) (i : Nat) : (toL tn l M sz i).length = tn := by unfold toL; simp
theorem toL_getD (tn : Nat) (l : List Nat) (M : Nat → Bool) (sz : Nat → Nat) (i a : Nat) (ha : a < tn) : (toL tn l M sz i).getD a 0 = if a ∈ (l.filter M).take i then ((dstA l M sz a : Nat) : Int) else 0 := by
  unfold toL
  rw [List.getD_eq_getElem?_getD, List.getElem?_map, List.getElem?_range ha]; rfl
theorem toL_zero (tn : Nat) (l : List Nat) (M : Nat → Bool) (sz : Nat → Nat) : toL tn l M sz 0 = List.replicate tn 0 := by
  refine list_ext_getD (by rw [toL_len, List.length_replicate]) fun i hi => ?_
  rw [toL_len] at hi
  rw [toL_getD _ _ _ _ _ _ hi, List.take_zero, if_neg (by simp), List.getD_eq_getElem?_getD, List.getElem?_replicate, if_pos hi]; rfl
theorem toL_set {tn : Nat} {l : List Nat} {M : Nat → Bool} {sz : Nat → Nat} (hl : l.Pairwise (· < ·)) {i : Nat} (hi : i < (l.filter M).length) (ht : (l.filter M).getD i 0 < tn) :
    (toL tn l M sz i).set ((l.filter M).getD i 0) ((frL sz (l.filter M) i : Nat) : Int) = toL tn l M sz (i + 1) := by
  refine list_ext_getD (by rw [List.length_set, toL_len, toL_len]) fun a ha => ?_
  rw [List.length_set, toL_len] at ha
  rw [getD_set, toL_getD _ _ _ _ _ _ ha, toL_getD _ _ _ _ _ _ ha, toL_len]
  have e : (l.filter M).getD i 0 = (l.filter M)[i] := by rw [List.getD_eq_getElem?_getD, List.getElem?_eq_getElem hi]; rfl
  have hm : a ∈ (l.filter M).take (i + 1) ↔ a ∈ (l.filter M).take i ∨ a = (l.filter M).getD i 0 := by
    rw [List.take_succ_eq_append_getElem hi, List.mem_append, List.mem_singleton, e]
  by_cases e2 : a = (l.filter M).getD i 0
  · rw [if_pos ⟨e2, ht⟩, if_pos (hm.2 (.inr e2)), e2, dst_L hl hi]
  · rw [if_neg (fun h => e2 h.1)]
    by_cases e3 : a ∈ (l.filter M).take i
    · rw [if_pos e3, if_pos (hm.2 (.inl e3))]
    · rw [if_neg e3, if_neg (fun h => (hm.1 h).elim e3 e2)]
theorem toL_all {tn : Nat} {l : List Nat} {M : Nat → Bool} {sz : Nat → Nat} {a : Nat} (ha : a < tn) (hal : a ∈ l) (hM : M a = true) : (toL tn l M sz (l.filter M).length).getD a 0 = ((dstA l M sz a : Nat) : Int) := by
  rw [toL_getD _ _ _ _ _ _ ha, List.take_length, if_pos (List.mem_filter.2 ⟨hal, hM⟩)]
/-- A word turned by the list of new places. -/
def trT (ts : List Int) (x : Int) : Int := if kindOf x = 0 then 4 * ts.getD (x / 4).toNat 0 else x
/-- The words of the new memory while the i-th object is written, k of its words done. -/
structure WO (ws : List Int) (l : List Nat) (M : Nat → Bool) (i k : Nat) (xs : List Int) : Prop where
  len : xs.length = ws.length
  old : ∀ j, j < i → ∀ p, p < szN ws ((l.filter M).getD j 0) → xs.getD (frL (szN ws) (l.filter M) j + p) 0 = outT ws l M ((l.filter M).getD j 0) p
  now : ∀ p, p < k → xs.getD (frL (szN ws) (l.filter M) i + p) 0 = outT ws l M ((l.filter M).getD i 0) p
  rest : ∀ q, q = 0 ∨ frL (szN ws) (l.filter M) i + k ≤ q → xs.getD q 0 = 0
theorem WO.start (ws : List Int) (l : List Nat) (M : Nat → Bool) : WO ws l M 0 0 (List.replicate ws.length 0) :=
  ⟨by simp, fun j hj => absurd hj (Nat.not_lt_zero _), fun p hp => absurd hp (Nat.not_lt_zero _), fun q _ => by rw [List.getD_eq_getElem?_getD, List.getElem?_replicate]; split <;> rfl⟩
theorem WO.next {ws : List Int} {l : List Nat} {M : Nat → Bool} {i : Nat} {xs : List Int} (hi : i < (l.filter M).length) (h : WO ws l M i (szN ws ((l.filter M).getD i 0)) xs) : WO ws l M (i + 1) 0 xs := by
  refine ⟨h.len, fun j hj p hp => ?_, fun p hp => absurd hp (Nat.not_lt_zero _), fun q hq => h.rest q ?_⟩
  · rcases Nat.lt_or_ge j i with h' | h'
    · exact h.old j h' p hp
    · obtain rfl : j = i := by omega
      exact h.now p hp
  · rcases hq with hq | hq
    · exact .inl hq
    · rw [frL_succ hi] at hq; exact .inr (by omega)
theorem WO.put {ws : List Int} {l : List Nat} {M : Nat → Bool} {i k : Nat} {xs : List Int} (hi : i < (l.filter M).length) (h : WO ws l M i k xs) (hk : k < szN ws ((l.filter M).getD i 0)) (hle : frL (szN ws) (l.filter M) i + k < ws.length) :
    WO ws l M i (k + 1) (xs.set (frL (szN ws) (l.filter M) i + k) (outT ws l M ((l.filter M).getD i 0) k)) := by
  have hlen := h.len
  have hg : ∀ q, (xs.set (frL (szN ws) (l.filter M) i + k) (outT ws l M ((l.filter M).getD i 0) k)).getD q 0 = if q = frL (szN ws) (l.filter M) i + k then outT ws l M ((l.filter M).getD i 0) k else xs.getD q 0 := fun q => by
    rw [getD_set]
    by_cases e : q = frL (szN ws) (l.filter M) i + k
    · rw [if_pos ⟨e, by omega⟩, if_pos e]
    · rw [if_neg (fun g => e g.1), if_neg e]
  have h1 : ∀ q, 1 ≤ frL (szN ws) (l.filter M) q := fun q => by unfold frL; omega
  refine ⟨by rw [List.length_set]; exact hlen, fun j hj p hp => ?_, fun p hp => ?_, fun q hq => ?_⟩
  · have h2 := frL_succ (sz := szN ws) (L := l.filter M) (i := j) (by omega)
    have h3 := frL_mono (sz := szN ws) (L := l.filter M) (i := j + 1) (j := i) hj (by omega)
    rw [hg, if_neg (by omega)]; exact h.old j hj p hp
  · rw [hg]
    rcases Nat.lt_or_ge p k with h' | h'
    · rw [if_neg (by omega)]; exact h.now p h'
    · obtain rfl : p = k := by omega
      rw [if_pos rfl]
  · have := h1 i
    rw [hg, if_neg (by omega)]
    exact h.rest q (by rcases hq with h' | h'; exact .inl h'; exact .inr (by omega))
theorem WO.co {ws : List Int} {tn : Nat} {l : List Nat} {M : Nat → Bool} {xs : List Int} (h : WO ws l M (l.filter M).length 0 xs) (ho : Ob ws tn l) (hn : ws.getD 0 0 = 0) : CO ws l M xs := by
  refine ⟨h.len, by rw [h.rest 0 (.inl rfl), hn], fun j hj hm p hp => ?_, fun i hi => h.rest i (.inr ?_)⟩
  · obtain ⟨i, h1, h2⟩ := filt_idx ho.rising hj hm
    have := h.old i h1 p (by rw [h2]; exact hp)
    rw [h2] at this
    rw [← this, ← dst_L ho.rising h1, h2, dst_at ho.rising hj]
  · rw [frK_L] at hi; omega
/-- Each place below the new top is some object's. -/
theorem frK_cover {l : List Nat} {M : Nat → Bool} {sz : Nat → Nat} : ∀ (k i : Nat), k ≤ l.length → 1 ≤ i → i < frK l M sz k → ∃ j p, j < k ∧ M (l.getD j 0) = true ∧ p < sz (l.getD j 0) ∧ i = frK l M sz j + p := by
  intro k
  induction k with
  | zero => intro i _ h1 h2; have : frK l M sz 0 = 1 := rfl; omega
  | succ k ih =>
    intro i hk h1 h2
    have e2 : frK l M sz (k + 1) = frK l M sz k + if M (l.getD k 0) = true then sz (l.getD k 0) else 0 := rfl
    rcases Nat.lt_or_ge i (frK l M sz k) with h | h
    · obtain ⟨j, p, h3, h4⟩ := ih i (by omega) h1 h
      exact ⟨j, p, by omega, h4⟩
    · cases hM : M (l.getD k 0)
      · rw [hM] at e2; simp at e2; omega
      · rw [hM, if_pos rfl] at e2
        exact ⟨k, i - frK l M sz k, Nat.lt_succ_self k, hM, by omega, by omega⟩
theorem CO.unique {ws : List Int} {l : List Nat} {M : Nat → Bool} {xs ys : List Int} (h : CO ws l M xs) (k : CO ws l M ys) : xs = ys := by
  refine list_ext_getD (h.len.trans k.len.symm) fun i hi => ?_
  rcases Nat.lt_or_ge i (frK l M (szN ws) l.length) with h1 | h1
  · rcases Nat.eq_zero_or_pos i with rfl | h2
    · rw [h.nought, k.nought]
    · obtain ⟨j, p, h3, h4, h5, rfl⟩ := frK_cover (M := M) (sz := szN ws) l.length i (Nat.le_refl _) h2 h1
      rw [h.low j h3 h4 p h5, k.low j h3 h4 p h5]
  · rw [h.zero i h1, k.zero i h1]
/-- The tagged words and all others, turned by the list of new places, are what the collection lays. -/
theorem out_trT {ws : List Int} {tn : Nat} {l : List Nat} {M : Nat → Bool} {rs : List Int} (ho : Ob ws tn l) (hr : rs.all (rightW l) = true) (hM : ∀ a, M a = true ↔ Rch ws rs a) {a k : Nat} (ha : M a = true) (hk : k < szN ws a) :
    (if 2 ≤ k ∧ k < 2 + tgN ws a then trT (toL tn l M (szN ws) (l.filter M).length) (ws.getD (a + k) 0) else ws.getD (a + k) 0) = outT ws l M a k := by
  have hal := Rch.mem ho hr ((hM a).1 ha)
  have hi := ho.in1 a hal
  unfold outT
  by_cases h0 : k = 0
  · subst h0; rw [if_neg (by omega), if_pos rfl, Nat.add_zero]
  · rw [if_neg h0]
    by_cases h1 : k = 1
    · subst h1; rw [if_neg (by omega), if_pos rfl, ho.fwd a hal]
    · rw [if_neg h1]
      by_cases h2 : k < 2 + tgN ws a
      · rw [if_pos ⟨by omega, h2⟩]
        by_cases h3 : ws.getD (a + k) 0 % 4 = 0
        · rw [if_pos ⟨h2, h3⟩]
          have hia : a + k ∈ adrP ws a (tgN ws a) := adrP_mem.2 ⟨k - 2, by omega, by omega, h3⟩
          have h4 := ho.adr hal hia
          have h5 : Rch ws rs (ws.getD (a + k) 0 / 4).toNat := .step ((hM a).1 ha) (by unfold sucs; exact List.mem_map.2 ⟨_, hia, rfl⟩)
          have h6 := ho.in1 _ h4.2.1
          unfold trT trn
          rw [if_pos h4.1, toL_all (by omega) h4.2.1 ((hM _).2 h5)]
        · rw [if_neg (fun h => h3 h.2)]
          unfold trT
          rw [if_neg (fun h => h3 (by have := kind_nat h; omega))]
      · rw [if_neg (fun h => h2 h.2), if_neg (fun h => h2 h.1)]
theorem roots_trT {ws : List Int} {tn : Nat} {l : List Nat} {M : Nat → Bool} {rs : List Int} (ho : Ob ws tn l) (hr : rs.all (rightW l) = true) (hM : ∀ a, M a = true ↔ Rch ws rs a) {x : Int} (hx : x ∈ rs) : trT (toL tn l M (szN ws) (l.filter M).length) x = trR ws l M x := by
  unfold trT trR
  by_cases h : kindOf x = 0
  · rw [if_pos h, if_pos h]
    have h1 := Rch.root (ws := ws) hx h
    have h2 := Rch.mem ho hr h1
    have h3 := ho.in1 _ h2
    rw [toL_all (by omega) h2 ((hM _).2 h1)]
  · rw [if_neg h, if_neg h]
end
section
open Go.RowKit
set_option linter.unusedSimpArgs false
set_option linter.unusedVariables false
/-- Where the survivors lie. -/
def nwL (ws : List Int) (l : List Nat) (M : Nat → Bool) : List Nat := (List.range (l.filter M).length).map (frL (szN ws) (l.filter M))
theorem nw_len (ws : List Int) (l : List Nat) (M : Nat → Bool) : (nwL ws l M).length = (l.filter M).length := by unfold nwL; simp
theorem nw_getD {ws : List Int} {l : List Nat} {M : Nat → Bool} {i : Nat} (hi : i < (l.filter M).length) : (nwL ws l M).getD i 0 = frL (szN ws) (l.filter M) i := by
  unfold nwL
  rw [List.getD_eq_getElem?_getD, List.getElem?_map, List.getElem?_range hi]; rfl
theorem nw_mem {ws : List Int} {l : List Nat} {M : Nat → Bool} {b : Nat} : b ∈ nwL ws l M ↔ ∃ i, i < (l.filter M).length ∧ frL (szN ws) (l.filter M) i = b := by
  unfold nwL
  rw [List.mem_map]
  constructor
  · rintro ⟨i, hi, rfl⟩; exact ⟨i, List.mem_range.1 hi, rfl⟩
  · rintro ⟨i, hi, rfl⟩; exact ⟨i, List.mem_range.2 hi, rfl⟩
/-- All that is said of a memory in form whose reached objects are marked, and of what a collection leaves. -/
structure Cl (ws : List Int) (tn : Nat) (l : List Nat) (M : Nat → Bool) (res : List Int) : Prop where
  ob : Ob ws tn l
  kd : ∀ a ∈ l, 0 < hK (ws.getD a 0)
  n0 : ws.getD 0 0 = 0
  two : 2 ≤ ws.length
  sub : ∀ a, M a = true → a ∈ l
  cls : ∀ a, M a = true → ∀ i ∈ adrP ws a (tgN ws a), M (ws.getD i 0 / 4).toNat = true
  co : CO ws l M res
section
variable {ws : List Int} {tn : Nat} {l : List Nat} {M : Nat → Bool} {res : List Int}
theorem Cl.lm (h : Cl ws tn l M res) {i : Nat} (hi : i < (l.filter M).length) : (l.filter M).getD i 0 ∈ l ∧ M ((l.filter M).getD i 0) = true := by
  have := List.mem_filter.1 (mem_getD hi)
  exact ⟨this.1, this.2⟩
theorem Cl.top (h : Cl ws tn l M res) {i : Nat} (hi : i ≤ (l.filter M).length) : frL (szN ws) (l.filter M) i ≤ tn := by
  have h1 := frL_mono (sz := szN ws) (L := l.filter M) hi (Nat.le_refl _)
  rw [← frK_L] at h1
  have h2 := frK_le (M := M) h.ob.objs l.length (Nat.le_refl _)
  rw [nxO_ge (Nat.lt_irrefl _)] at h2
  omega
theorem frL_one (sz : Nat → Nat) (L : List Nat) (i : Nat) : 1 ≤ frL sz L i := by unfold frL; omega
theorem Cl.word (h : Cl ws tn l M res) {i p : Nat} (hi : i < (l.filter M).length) (hp : p < szN ws ((l.filter M).getD i 0)) : res.getD (frL (szN ws) (l.filter M) i + p) 0 = outT ws l M ((l.filter M).getD i 0) p := by
  obtain ⟨j, h1, h2, h3, _⟩ := filt_at l i hi
  have := h.co.low j h1 h3 p (by rw [h2]; exact hp)
  rw [← dst_L h.ob.rising hi, ← h2, dst_at h.ob.rising h1]
  exact this
theorem Cl.head (h : Cl ws tn l M res) {i : Nat} (hi : i < (l.filter M).length) : res.getD (frL (szN ws) (l.filter M) i) 0 = ws.getD ((l.filter M).getD i 0) 0 := by
  have h1 := h.ob.in1 _ (h.lm hi).1
  have := h.word hi (p := 0) (by omega)
  rw [Nat.add_zero] at this
  rw [this]; unfold outT; rw [if_pos rfl]
theorem Cl.sz (h : Cl ws tn l M res) {i : Nat} (hi : i < (l.filter M).length) : szN res (frL (szN ws) (l.filter M) i) = szN ws ((l.filter M).getD i 0) := by unfold szN at *; rw [show hS (res.getD (frL (fun a => (hS (ws.getD a 0)).toNat) (List.filter M l) i) 0) = hS (ws.getD ((l.filter M).getD i 0) 0) from congrArg hS (h.head hi)]
theorem Cl.tg (h : Cl ws tn l M res) {i : Nat} (hi : i < (l.filter M).length) : tgN res (frL (szN ws) (l.filter M) i) = tgN ws ((l.filter M).getD i 0) := by unfold tgN; rw [h.head hi]
/-- The tagged words behind the collection. -/
theorem Cl.tagged (h : Cl ws tn l M res) {i j : Nat} (hi : i < (l.filter M).length) (hj : j < tgN ws ((l.filter M).getD i 0)) :
    res.getD (frL (szN ws) (l.filter M) i + 2 + j) 0 = if ws.getD ((l.filter M).getD i 0 + 2 + j) 0 % 4 = 0 then trn ws l M ((l.filter M).getD i 0 + 2 + j) else ws.getD ((l.filter M).getD i 0 + 2 + j) 0 := by
  have h1 := h.ob.in1 _ (h.lm hi).1
  have := h.word hi (p := 2 + j) (by omega)
  rw [← Nat.add_assoc] at this
  rw [this]
  unfold outT
  rw [if_neg (by omega), if_neg (by omega), ← Nat.add_assoc]
  by_cases h3 : ws.getD ((l.filter M).getD i 0 + 2 + j) 0 % 4 = 0
  · rw [if_pos ⟨by omega, h3⟩, if_pos h3]
  · rw [if_neg (fun g => h3 g.2), if_neg h3]
theorem Cl.raw (h : Cl ws tn l M res) {i p : Nat} (hi : i < (l.filter M).length) (hp : p < szN ws ((l.filter M).getD i 0)) (hp2 : 2 + tgN ws ((l.filter M).getD i 0) ≤ p) : res.getD (frL (szN ws) (l.filter M) i + p) 0 = ws.getD ((l.filter M).getD i 0 + p) 0 := by
  rw [h.word hi hp]
  unfold outT
  rw [if_neg (by omega), if_neg (by omega), if_neg (fun g => by omega)]
theorem Cl.dst (h : Cl ws tn l M res) {a : Nat} (ha : M a = true) : ∃ i, i < (l.filter M).length ∧ (l.filter M).getD i 0 = a ∧ dstA l M (szN ws) a = frL (szN ws) (l.filter M) i := by
  obtain ⟨i, hi, e⟩ := getD_of_mem (List.mem_filter.2 ⟨h.sub a ha, ha⟩ : a ∈ l.filter M)
  exact ⟨i, hi, e, by rw [← dst_L h.ob.rising hi, e]⟩
theorem Cl.dst_lt (h : Cl ws tn l M res) {a : Nat} (ha : M a = true) : 1 ≤ dstA l M (szN ws) a ∧ dstA l M (szN ws) a < tn ∧ dstA l M (szN ws) a ∈ nwL ws l M := by
  obtain ⟨i, hi, e, e2⟩ := h.dst ha
  have h1 := h.top (i := i + 1) hi
  have h2 := h.ob.in1 _ (h.lm hi).1
  rw [frL_succ hi] at h1
  rw [e2]
  exact ⟨frL_one _ _ _, by omega, nw_mem.2 ⟨i, hi, rfl⟩⟩
theorem kind_four {d : Nat} (h1 : 1 ≤ d) (h2 : d < 1048576) : kindOf (4 * (d : Int)) = 0 ∧ (4 * (d : Int) / 4).toNat = d := by
  refine ⟨?_, by omega⟩
  unfold kindOf
  repeat' split
  all_goals omega
theorem Cl.four (h : Cl ws tn l M res) {a : Nat} (ha : M a = true) : kindOf (4 * (dstA l M (szN ws) a : Int)) = 0 ∧ (4 * (dstA l M (szN ws) a : Int) / 4).toNat = dstA l M (szN ws) a := by
  have h1 := h.dst_lt ha
  have := h.ob.objs.top
  exact kind_four h1.1 (by omega)
theorem Cl.right (h : Cl ws tn l M res) {a : Nat} (ha : M a = true) : rightW (nwL ws l M) (4 * (dstA l M (szN ws) a : Int)) = true := by
  have h1 := h.four ha
  unfold rightW
  rw [h1.1, h1.2]
  simp [(h.dst_lt ha).2.2]
theorem Cl.okAt (h : Cl ws tn l M res) {i : Nat} (hi : i < (l.filter M).length) : Go.Proofs.Ytfhjpgbnojdlkaa.okAt (res.take (frL (szN ws) (l.filter M) (l.filter M).length)) (frL (szN ws) (l.filter M) i) = true ∧ Go.Proofs.Ytfhjpgbnojdlkaa.sz (res.take (frL (szN ws) (l.filter M) (l.filter M).length)) (frL (szN ws) (l.filter M) i) = szN ws ((l.filter M).getD i 0) ∧
    headAt (res.take (frL (szN ws) (l.filter M) (l.filter M).length)) (frL (szN ws) (l.filter M) i) = ws.getD ((l.filter M).getD i 0) 0 := by
  have hlen : (res.take (frL (szN ws) (l.filter M) (l.filter M).length)).length = frL (szN ws) (l.filter M) (l.filter M).length := by
    have := h.top (Nat.le_refl _); have := h.ob.le; have := h.co.len
    rw [List.length_take]; omega
  have ha := (h.lm hi).1
  have h1 := h.ob.in1 _ ha
  have h2 := frL_mono (sz := szN ws) (L := l.filter M) (i := i + 1) (j := (l.filter M).length) hi (Nat.le_refl _)
  rw [frL_succ hi] at h2
  have h3 := frL_one (szN ws) (l.filter M) i
  have hh : headAt (res.take (frL (szN ws) (l.filter M) (l.filter M).length)) (frL (szN ws) (l.filter M) i) = ws.getD ((l.filter M).getD i 0) 0 := by
    unfold headAt
    rw [hlen, if_pos (by omega), Int.toNat_natCast, getD_take, if_pos (by omega), h.head hi]
  have h4 := h.ob.head _ ha
  have h5 := h.kd _ ha
  have h6 := hS_lo (ws.getD ((l.filter M).getD i 0) 0)
  have h7 := hT_lo (ws.getD ((l.filter M).getD i 0) 0)
  have hfw : res.getD (frL (szN ws) (l.filter M) i + 1) 0 = 0 := by
    rw [h.word hi (p := 1) (by omega)]; unfold outT; rw [if_neg (by omega), if_pos rfl]
  have hsz : (szN ws ((l.filter M).getD i 0) : Int) = hS (ws.getD ((l.filter M).getD i 0) 0) := by unfold szN; omega
  have htg : (tgN ws ((l.filter M).getD i 0) : Int) = hT (ws.getD ((l.filter M).getD i 0) 0) := by unfold tgN; omega
  refine ⟨?_, by unfold Go.Proofs.Ytfhjpgbnojdlkaa.sz; rw [hh]; rfl, hh⟩
  unfold Go.Proofs.Ytfhjpgbnojdlkaa.okAt there
  rw [hh, hlen]
  simp only [Bool.and_eq_true, decide_eq_true_eq]
  refine ⟨⟨by omega, by omega, h5, by omega, by omega⟩, by omega, ?_⟩
  rw [getD_take, if_pos (by omega), hfw]
theorem Cl.scan (h : Cl ws tn l M res) : ∀ n, n ≤ (l.filter M).length → Go.Proofs.Ytfhjpgbnojdlkaa.scan (res.take (frL (szN ws) (l.filter M) (l.filter M).length)) (frL (szN ws) (l.filter M) ((l.filter M).length - n)) = some ((nwL ws l M).drop ((l.filter M).length - n)) := by
  have hlen : (res.take (frL (szN ws) (l.filter M) (l.filter M).length)).length = frL (szN ws) (l.filter M) (l.filter M).length := by
    have := h.top (Nat.le_refl _); have := h.ob.le; have := h.co.len
    rw [List.length_take]; omega
  intro n
  induction n with
  | zero =>
    intro _
    rw [Nat.sub_zero, scan_end (by rw [hlen]; exact Nat.le_refl _), List.drop_eq_nil_of_le (by rw [nw_len]; exact Nat.le_refl _)]
  | succ n ih =>
    intro hn
    obtain ⟨i, hi⟩ : ∃ i, i = (l.filter M).length - (n + 1) := ⟨_, rfl⟩
    have hi1 : i < (l.filter M).length := by omega
    have e : (l.filter M).length - n = i + 1 := by omega
    have h1 := ih (by omega)
    rw [e] at h1
    rw [← hi]
    have ho := h.okAt hi1
    have h2 := frL_mono (sz := szN ws) (L := l.filter M) (i := i + 1) (j := (l.filter M).length) hi1 (Nat.le_refl _)
    have h3 := h.ob.in1 _ (h.lm hi1).1
    have h4 := frL_succ (sz := szN ws) hi1
    rw [scan_ok (by rw [hlen]; omega) ho.1, ho.2.1, ← h4, h1]
    have hl2 : i < (nwL ws l M).length := by rw [nw_len]; exact hi1
    have e3 : (nwL ws l M)[i] = frL (szN ws) (l.filter M) i := by
      have := nw_getD (ws := ws) hi1
      rwa [List.getD_eq_getElem?_getD, List.getElem?_eq_getElem hl2] at this
    rw [Option.map_some, List.drop_eq_getElem_cons hl2, e3]
theorem Cl.form (h : Cl ws tn l M res) : Form res (frL (szN ws) (l.filter M) (l.filter M).length) (nwL ws l M) := by
  have h1 := h.top (Nat.le_refl _)
  have h2 := h.ob.le
  have h3 := h.co.len
  have hs := h.scan _ (Nat.le_refl _)
  rw [Nat.sub_self, frL_zero, List.drop_zero] at hs
  refine ⟨by rw [h3]; exact h.two, by rw [h3]; exact h.ob.most, frL_one _ _ _, by omega, by rw [h.co.nought, h.n0], fun i hi => h.co.zero i (by rw [frK_L]; exact hi), hs, fun a ha j hj => ?_⟩
  obtain ⟨i, hi, rfl⟩ := nw_mem.1 ha
  have ho := h.okAt hi
  rw [ho.2.2] at hj
  have hj' : j < tgN ws ((l.filter M).getD i 0) := hj
  have h4 := h.ob.in1 _ (h.lm hi).1
  have h5 := frL_mono (sz := szN ws) (L := l.filter M) (i := i + 1) (j := (l.filter M).length) hi (Nat.le_refl _)
  rw [frL_succ hi] at h5
  rw [getD_take, if_pos (by omega), h.tagged hi hj']
  by_cases h6 : ws.getD ((l.filter M).getD i 0 + 2 + j) 0 % 4 = 0
  · rw [if_pos h6]
    have hia : (l.filter M).getD i 0 + 2 + j ∈ adrP ws ((l.filter M).getD i 0) (tgN ws ((l.filter M).getD i 0)) := adrP_mem.2 ⟨j, hj', rfl, h6⟩
    unfold trn
    exact h.right (h.cls _ (h.lm hi).2 _ hia)
  · rw [if_neg h6]
    have h7 := h.ob.words _ (h.lm hi).1 j hj'
    unfold rightW at h7 ⊢
    simp only [Bool.and_eq_true, Bool.or_eq_true, Bool.not_eq_true', decide_eq_false_iff_not, decide_eq_true_eq] at h7 ⊢
    exact ⟨h7.1, .inl fun g => h6 (by have := kind_nat g; omega)⟩
/-- What is reached in what a collection leaves. -/
theorem Cl.fwd (h : Cl ws tn l M res) {qs : List Int} (hq : ∀ a, Rch ws qs a → M a = true) {a : Nat} (ha : Rch ws qs a) : Rch res (qs.map (trR ws l M)) (dstA l M (szN ws) a) := by
  induction ha with
  | @root x hx hk =>
    have hM := hq _ (.root hx hk)
    have h1 := h.four hM
    have e : trR ws l M x = 4 * (dstA l M (szN ws) (x / 4).toNat : Int) := by unfold trR; rw [if_pos hk]
    have := Rch.root (ws := res) (rs := qs.map (trR ws l M)) (List.mem_map.2 ⟨x, hx, rfl⟩) (by rw [e]; exact h1.1)
    rw [e, h1.2] at this
    exact this
  | @step a b h1 hb ih =>
    obtain ⟨i, hi, e1, e2⟩ := h.dst (hq _ h1)
    unfold sucs at hb
    obtain ⟨q, hqa, rfl⟩ := List.mem_map.1 hb
    obtain ⟨j, hj, rfl, hm⟩ := adrP_mem.1 hqa
    have hMb := h.cls a (hq _ h1) _ hqa
    subst e1
    have ht := h.tagged hi hj
    rw [if_pos hm] at ht
    unfold trn at ht
    have h4 := h.four hMb
    refine .step ih ?_
    unfold sucs
    rw [e2, h.tg hi]
    refine List.mem_map.2 ⟨_, adrP_mem.2 ⟨j, hj, rfl, by rw [ht]; omega⟩, ?_⟩
    rw [ht, h4.2]
theorem Cl.bwd (h : Cl ws tn l M res) {qs : List Int} (hq : ∀ a, Rch ws qs a → M a = true) (hr : ∀ x ∈ qs, kindOf x ≠ 0 → kindOf (trR ws l M x) ≠ 0) {b : Nat} (hb : Rch res (qs.map (trR ws l M)) b) : ∃ a, Rch ws qs a ∧ b = dstA l M (szN ws) a := by
  induction hb with
  | root hx hk =>
    obtain ⟨x, hx2, rfl⟩ := List.mem_map.1 hx
    by_cases h0 : kindOf x = 0
    · have hM := hq _ (.root hx2 h0)
      refine ⟨_, .root hx2 h0, ?_⟩
      unfold trR
      rw [if_pos h0, (h.four hM).2]
    · exact absurd hk (hr x hx2 h0)
  | step h1 hb ih =>
    obtain ⟨a, ha, rfl⟩ := ih
    obtain ⟨i, hi, e1, e2⟩ := h.dst (hq _ ha)
    unfold sucs at hb
    rw [e2, h.tg hi] at hb
    obtain ⟨q, hqa, rfl⟩ := List.mem_map.1 hb
    obtain ⟨j, hj, rfl, hm⟩ := adrP_mem.1 hqa
    have ht := h.tagged hi hj
    subst e1
    by_cases h6 : ws.getD ((l.filter M).getD i 0 + 2 + j) 0 % 4 = 0
    · rw [if_pos h6] at ht
      have hia : (l.filter M).getD i 0 + 2 + j ∈ adrP ws ((l.filter M).getD i 0) (tgN ws ((l.filter M).getD i 0)) := adrP_mem.2 ⟨j, hj, rfl, h6⟩
      refine ⟨_, .step ha (by unfold sucs; exact List.mem_map.2 ⟨_, hia, rfl⟩), ?_⟩
      rw [ht]
      unfold trn
      rw [(h.four (h.cls _ (hq _ ha) _ hia)).2]
    · rw [if_neg h6] at ht
      rw [ht] at hm
      exact absurd hm h6
theorem out_fit (h : Cl ws tn l M res) {a p : Nat} (ha : M a = true) (hp : p < szN ws a) : 0 ≤ outT ws l M a p ∧ outT ws l M a p ≤ 18446744073709551615 := by
  have h1 := h.ob.in1 a (h.sub a ha)
  have h2 := h.ob.fit a
  have h3 := h.ob.fit (a + p)
  unfold outT
  split
  · exact h2
  · split
    · omega
    · split
      · rename_i hc
        have hia : a + p ∈ adrP ws a (tgN ws a) := adrP_mem.2 ⟨p - 2, by omega, by omega, hc.2⟩
        have := h.dst_lt (h.cls a ha _ hia)
        have := h.ob.objs.top
        unfold trn
        omega
      · exact h3
theorem Cl.fit (h : Cl ws tn l M res) : Fit res := by
  intro i
  rcases Nat.lt_or_ge i (frK l M (szN ws) l.length) with h1 | h1
  · rcases Nat.eq_zero_or_pos i with rfl | h2
    · rw [h.co.nought, h.n0]; omega
    · obtain ⟨j, p, h3, h4, h5, rfl⟩ := frK_cover (M := M) (sz := szN ws) l.length i (Nat.le_refl _) h2 h1
      rw [h.co.low j h3 h4 p h5]
      exact out_fit h h4 h5
  · rw [h.co.zero i h1]; omega
theorem Cl.mem (h : Cl ws tn l M res) : memOk res (frK l M (szN ws) l.length : Nat) = true ∧ objList res (frK l M (szN ws) l.length : Nat) = nwL ws l M := by
  have := h.form.ok
  rw [frK_L]; exact this
/-- The roots behind the collection. -/
theorem Cl.rootR (h : Cl ws tn l M res) {qs : List Int} (hq : ∀ a, Rch ws qs a → M a = true) (hr : qs.all (rightW l) = true) : (qs.map (trR ws l M)).all (rightW (nwL ws l M)) = true ∧ ∀ x ∈ qs, kindOf x ≠ 0 → kindOf (trR ws l M x) ≠ 0 := by
  refine ⟨List.all_eq_true.2 fun y hy => ?_, fun x hx h0 => by unfold trR; rw [if_neg h0]; exact h0⟩
  obtain ⟨x, hx, rfl⟩ := List.mem_map.1 hy
  by_cases h0 : kindOf x = 0
  · have := h.right (hq _ (.root hx h0))
    unfold trR
    rw [if_pos h0]; exact this
  · have h1 := List.all_eq_true.1 hr x hx
    unfold trR
    rw [if_neg h0]
    unfold rightW at h1 ⊢
    simp only [Bool.and_eq_true, Bool.or_eq_true, Bool.not_eq_true', decide_eq_false_iff_not, decide_eq_true_eq] at h1 ⊢
    exact ⟨h1.1, .inl h0⟩
theorem Cl.fitR (h : Cl ws tn l M res) {qs : List Int} (hf : Fit qs) (hq : ∀ a, Rch ws qs a → M a = true) : Fit (qs.map (trR ws l M)) := by
  intro i
  rw [List.getD_eq_getElem?_getD, List.getElem?_map]
  cases hi : qs[i]? with
  | none => simp
  | some x =>
    have hx : x ∈ qs := List.mem_iff_getElem?.2 ⟨i, hi⟩
    have hxb := hf i
    rw [List.getD_eq_getElem?_getD, hi] at hxb
    simp only [Option.map_some, Option.getD_some] at hxb ⊢
    unfold trR
    by_cases h0 : kindOf x = 0
    · rw [if_pos h0]
      have := h.dst_lt (hq _ (.root hx h0))
      have := h.ob.objs.top
      omega
    · rw [if_neg h0]; exact hxb
theorem Cl.rootsB (h : Cl ws tn l M res) {rs : List Int} (hM : ∀ a, M a = true ↔ Rch ws rs a) (hr : rs.all (rightW l) = true) : Go.Proofs.Ytfhjpgbnojdlkaa.rootsB res (frK l M (szN ws) l.length : Nat) (rs.map (trR ws l M)) = true := by
  unfold Go.Proofs.Ytfhjpgbnojdlkaa.rootsB
  rw [h.mem.1, h.mem.2, Bool.true_and]
  exact (h.rootR (fun a ha => (hM a).2 ha) hr).1
/-- All that is left is reached. -/
theorem Cl.whole (h : Cl ws tn l M res) {rs : List Int} (hM : ∀ a, M a = true ↔ Rch ws rs a) (hr : rs.all (rightW l) = true) (b : Nat) : Rch res (rs.map (trR ws l M)) b ↔ b ∈ nwL ws l M := by
  have hq : ∀ a, Rch ws rs a → M a = true := fun a ha => (hM a).2 ha
  constructor
  · intro hb
    obtain ⟨a, ha, rfl⟩ := h.bwd hq (h.rootR hq hr).2 hb
    exact (h.dst_lt (hq a ha)).2.2
  · intro hb
    obtain ⟨i, hi, rfl⟩ := nw_mem.1 hb
    have := h.fwd hq ((hM _).1 (h.lm hi).2)
    rwa [dst_L h.ob.rising hi] at this
theorem Cl.filt (h : Cl ws tn l M res) {rs : List Int} (hM : ∀ a, M a = true ↔ Rch ws rs a) (hr : rs.all (rightW l) = true) {M2 : Nat → Bool} (h2 : ∀ b, M2 b = true ↔ Rch res (rs.map (trR ws l M)) b) : (objList res (frK l M (szN ws) l.length : Nat)).filter M2 = nwL ws l M := by
  rw [h.mem.2]
  exact List.filter_eq_self.2 fun b hb => (h2 b).2 ((h.whole hM hr b).2 hb)
end
/-- The memory and its collection. -/
theorem cl_of {ws : List Int} {top : Int} {rs : List Int} {M : Nat → Bool} {res : List Int} (h : rootsB ws top rs = true) (hf : Fit ws) (hM : ∀ a, M a = true ↔ Rch ws rs a) (hco : CO ws (objList ws top) M res) : ∃ tn : Nat, top = (tn : Int) ∧ Cl ws tn (objList ws top) M res := by
  have hm : memOk ws top = true := by unfold rootsB at h; rw [Bool.and_eq_true] at h; exact h.1
  have hy : rs.all (rightW (objList ws top)) = true := by unfold rootsB at h; rw [Bool.and_eq_true] at h; exact h.2
  obtain ⟨tn, e, hfo⟩ := form_of hm
  have hml := mem_len hm
  have ho := ob_of hfo hf ws (fun _ _ => rfl) hfo.le hml hf
  refine ⟨tn, e, ho, fun a ha => ?_, hfo.nought, hfo.two, fun a ha => Rch.mem ho hy ((hM a).1 ha), fun a ha i hi => clo_of hM a ha i hi, hco⟩
  have h1 := scan_mem_ok hfo.scan a ha
  have h2 := (ok_head h1).1
  have h3 := okAt_two h1
  have h4 := hfo.len
  unfold okAt there at h1
  simp only [Bool.and_eq_true, decide_eq_true_eq] at h1
  have h5 := h1.1.2.2.1
  rw [h2, getD_take, if_pos (by omega)] at h5
  exact h5
end
section
open Go.RowKit
set_option linter.unusedSimpArgs false
set_option linter.unusedVariables false
/-! ### All marked: nothing moves -/
theorem frK_full {ws : List Int} {tn : Nat} {l : List Nat} {M : Nat → Bool} (ho : Ob ws tn l) (ha : ∀ a ∈ l, M a = true) : ∀ k, k ≤ l.length → frK l M (szN ws) k = nxO l tn k := by
  intro k
  induction k with
  | zero => intro _; rw [ho.one]; rfl
  | succ k ih =>
    intro hk
    have h : k < l.length := hk
    have e : frK l M (szN ws) (k + 1) = frK l M (szN ws) k + if M (l.getD k 0) = true then szN ws (l.getD k 0) else 0 := rfl
    rw [e, if_pos (ha _ (mem_getD h)), ih (by omega), nxO_lt h, ho.step k h]
theorem dst_full {ws : List Int} {tn : Nat} {l : List Nat} {M : Nat → Bool} (ho : Ob ws tn l) (ha : ∀ a ∈ l, M a = true) {b : Nat} (hb : b ∈ l) : dstA l M (szN ws) b = b := by
  obtain ⟨i, hi, rfl⟩ := getD_of_mem hb
  rw [dst_at ho.rising hi, frK_full ho ha i (Nat.le_of_lt hi), nxO_lt hi]
theorem co_full {ws : List Int} {tn : Nat} {l : List Nat} {M : Nat → Bool} (ho : Ob ws tn l) (ha : ∀ a ∈ l, M a = true) (hfree : ∀ i, tn ≤ i → ws.getD i 0 = 0) : CO ws l M ws := by
  refine ⟨rfl, rfl, fun j hj _ p hp => ?_, fun i hi => hfree i ?_⟩
  · have hal := mem_getD hj
    have h1 := ho.in1 _ hal
    rw [frK_full ho ha j (Nat.le_of_lt hj), nxO_lt hj]
    unfold outT
    by_cases p0 : p = 0
    · subst p0; rw [if_pos rfl, Nat.add_zero]
    · rw [if_neg p0]
      by_cases p1 : p = 1
      · subst p1; rw [if_pos rfl, ho.fwd _ hal]
      · rw [if_neg p1]
        by_cases h2 : p < 2 + tgN ws (l.getD j 0) ∧ ws.getD (l.getD j 0 + p) 0 % 4 = 0
        · rw [if_pos h2]
          have hia : l.getD j 0 + p ∈ adrP ws (l.getD j 0) (tgN ws (l.getD j 0)) := adrP_mem.2 ⟨p - 2, by omega, by omega, h2.2⟩
          have h3 := ho.adr hal hia
          have h4 := kind_nat h3.1
          unfold trn
          rw [dst_full ho ha h3.2.1]
          omega
        · rw [if_neg h2]
  · rwa [frK_full ho ha l.length (Nat.le_refl _), nxO_ge (Nat.lt_irrefl _)] at hi
section
variable {ws : List Int} {tn : Nat} {l : List Nat} {M : Nat → Bool} {res : List Int} {rs : List Int}
theorem Cl.ob2 (h : Cl ws tn l M res) : Ob res (frK l M (szN ws) l.length) (nwL ws l M) := by
  have hf := h.form
  rw [← frK_L] at hf
  exact ob_of hf h.fit res (fun _ _ => rfl) hf.le hf.most h.fit
theorem Cl.again (h : Cl ws tn l M res) (hM : ∀ a, M a = true ↔ Rch ws rs a) (hr : rs.all (rightW l) = true) {M2 : Nat → Bool} {res2 : List Int} (h2 : ∀ b, M2 b = true ↔ Rch res (rs.map (trR ws l M)) b) (hc : CO res (nwL ws l M) M2 res2) :
    res2 = res ∧ frK (nwL ws l M) M2 (szN res) (nwL ws l M).length = frK l M (szN ws) l.length ∧ (rs.map (trR ws l M)).map (trR res (nwL ws l M) M2) = rs.map (trR ws l M) := by
  have hall : ∀ b ∈ nwL ws l M, M2 b = true := fun b hb => (h2 b).2 ((h.whole hM hr b).2 hb)
  have ho := h.ob2
  refine ⟨CO.unique hc (co_full ho hall (fun i hi => h.co.zero i hi)), ?_, ?_⟩
  · rw [frK_full ho hall _ (Nat.le_refl _), nxO_ge (Nat.lt_irrefl _)]
  · rw [List.map_map]
    refine List.map_congr_left fun x hx => ?_
    show trR res (nwL ws l M) M2 (trR ws l M x) = trR ws l M x
    by_cases h0 : kindOf x = 0
    · have hMx := (hM _).2 (.root hx h0)
      have h4 := h.four hMx
      have e : trR ws l M x = 4 * (dstA l M (szN ws) (x / 4).toNat : Int) := by unfold trR; rw [if_pos h0]
      rw [e]
      unfold trR
      rw [if_pos h4.1, h4.2, dst_full ho hall (h.dst_lt hMx).2.2]
    · have e : trR ws l M x = x := by unfold trR; rw [if_neg h0]
      rw [e]
      unfold trR
      rw [if_neg h0]
/-! ### With fewer roots -/
theorem frL_inj (h : Cl ws tn l M res) {i j : Nat} (hi : i < (l.filter M).length) (hj : j < (l.filter M).length) (e : frL (szN ws) (l.filter M) i = frL (szN ws) (l.filter M) j) : i = j := by
  rcases Nat.lt_trichotomy i j with h1 | h1 | h1
  · have h2 := frL_mono (sz := szN ws) (L := l.filter M) (i := i + 1) (j := j) h1 (by omega)
    rw [frL_succ hi] at h2
    have := h.ob.in1 _ (h.lm hi).1
    omega
  · exact h1
  · have h2 := frL_mono (sz := szN ws) (L := l.filter M) (i := j + 1) (j := i) h1 (by omega)
    rw [frL_succ hj] at h2
    have := h.ob.in1 _ (h.lm hj).1
    omega
/-- Fewer roots, before and behind. -/
structure Fw (ws : List Int) (tn : Nat) (l : List Nat) (M : Nat → Bool) (res : List Int) (qs : List Int) (M3 M4 : Nat → Bool) : Prop where
  cl : Cl ws tn l M res
  le : ∀ a, Rch ws qs a → M a = true
  right : qs.all (rightW l) = true
  m4 : ∀ a, M4 a = true ↔ Rch ws qs a
  m3 : ∀ b, M3 b = true ↔ Rch res (qs.map (trR ws l M)) b
variable {qs : List Int} {M3 M4 : Nat → Bool}
theorem Fw.same (h : Fw ws tn l M res qs M3 M4) {i : Nat} (hi : i < (l.filter M).length) : M3 (frL (szN ws) (l.filter M) i) = M4 ((l.filter M).getD i 0) := by
  rw [Bool.eq_iff_iff, h.m3, h.m4]
  constructor
  · intro hb
    obtain ⟨a, ha, e⟩ := h.cl.bwd h.le (h.cl.rootR h.le h.right).2 hb
    obtain ⟨j, hj, e1, e2⟩ := h.cl.dst (h.le a ha)
    rw [e2] at e
    obtain rfl := frL_inj h.cl hi hj e
    rwa [e1]
  · intro ha
    have := h.cl.fwd h.le ha
    rwa [dst_L h.cl.ob.rising hi] at this
theorem Fw.sum (h : Fw ws tn l M res qs M3 M4) : ∀ i, i ≤ (l.filter M).length → ((((nwL ws l M).take i).filter M3).map (szN res)) = ((((l.filter M).take i).filter M4).map (szN ws)) := by
  intro i
  induction i with
  | zero => intro _; simp
  | succ i ih =>
    intro hi
    have h1 : i < (l.filter M).length := hi
    have h2 : i < (nwL ws l M).length := by rw [nw_len]; exact h1
    have e1 : (nwL ws l M)[i] = frL (szN ws) (l.filter M) i := by
      have := nw_getD (ws := ws) h1
      rwa [List.getD_eq_getElem?_getD, List.getElem?_eq_getElem h2] at this
    have e2 : (l.filter M).getD i 0 = (l.filter M)[i] := by rw [List.getD_eq_getElem?_getD, List.getElem?_eq_getElem h1]; rfl
    rw [List.take_succ_eq_append_getElem h2, List.take_succ_eq_append_getElem h1, List.filter_append, List.filter_append, List.map_append, List.map_append, ih (by omega), e1, ← e2]
    congr 1
    have hs := h.same h1
    cases hm : M4 ((l.filter M).getD i 0)
    · rw [hm] at hs
      rw [List.filter_cons_of_neg (by rw [hs]; exact Bool.false_ne_true), List.filter_cons_of_neg (by rw [hm]; exact Bool.false_ne_true)]; rfl
    · rw [hm] at hs
      rw [List.filter_cons_of_pos hs, List.filter_cons_of_pos hm]
      show [szN res (frL (szN ws) (l.filter M) i)] = [szN ws ((l.filter M).getD i 0)]
      rw [h.cl.sz h1]
theorem Fw.sub (h : Fw ws tn l M res qs M3 M4) {a : Nat} (ha : M4 a = true) : M a = true := h.le a ((h.m4 a).1 ha)
theorem Fw.ff (h : Fw ws tn l M res qs M3 M4) (xs : List Nat) : (xs.filter M).filter M4 = xs.filter M4 := by
  rw [List.filter_filter]
  refine List.filter_congr fun x _ => ?_
  cases hx : M4 x
  · simp
  · simp [h.sub hx]
theorem Fw.rise (h : Fw ws tn l M res qs M3 M4) : (nwL ws l M).Pairwise (· < ·) := h.cl.ob2.rising
/-- The place of the i-th survivor. -/
theorem Fw.frK (h : Fw ws tn l M res qs M3 M4) {i j : Nat} (hi : i < (l.filter M).length) (hj : j < l.length) (ht : (l.take j).filter M = (l.filter M).take i) : Go.Proofs.Ytfhjpgbnojdlkaa.frK (nwL ws l M) M3 (szN res) i = Go.Proofs.Ytfhjpgbnojdlkaa.frK l M4 (szN ws) j := by
  rw [frK_sum _ _ _ i (by rw [nw_len]; omega), frK_sum _ _ _ j (by omega), h.sum i (by omega), ← ht, h.ff]
theorem Fw.top (h : Fw ws tn l M res qs M3 M4) : Go.Proofs.Ytfhjpgbnojdlkaa.frK (nwL ws l M) M3 (szN res) (nwL ws l M).length = Go.Proofs.Ytfhjpgbnojdlkaa.frK l M4 (szN ws) l.length := by
  rw [frK_sum _ _ _ _ (Nat.le_refl _), frK_sum _ _ _ _ (Nat.le_refl _), nw_len, h.sum _ (Nat.le_refl _), List.take_length, List.take_length, h.ff]
theorem Fw.dst (h : Fw ws tn l M res qs M3 M4) {a : Nat} (ha : M a = true) : dstA (nwL ws l M) M3 (szN res) (dstA l M (szN ws) a) = dstA l M4 (szN ws) a := by
  obtain ⟨i, hi, e1, e2⟩ := h.cl.dst ha
  obtain ⟨j, h1, h2, h3, h4⟩ := filt_at l i hi
  rw [e2, ← nw_getD (ws := ws) hi, dst_at h.rise (by rw [nw_len]; exact hi), ← e1, ← h2, dst_at h.cl.ob.rising h1]
  exact h.frK hi h1 h4
theorem Fw.co (h : Fw ws tn l M res qs M3 M4) {d : List Int} (hc : CO res (nwL ws l M) M3 d) : CO ws l M4 d := by
  refine ⟨hc.len.trans h.cl.co.len, hc.nought.trans h.cl.co.nought, fun j hj hm p hp => ?_, fun i hi => hc.zero i (by rw [h.top]; exact hi)⟩
  have hMj := h.sub hm
  obtain ⟨i, hi, e1⟩ := filt_idx h.cl.ob.rising hj hMj
  obtain ⟨j2, g1, g2, g3, g4⟩ := filt_at l i hi
  have ej : j2 = j := by
    have e : l.getD j2 0 = l.getD j 0 := g2.trans e1
    rcases Nat.lt_trichotomy j2 j with h1 | h1 | h1
    · have := rising_lt h.cl.ob.rising h1 hj; omega
    · exact h1
    · have := rising_lt h.cl.ob.rising h1 g1; omega
  subst ej
  have hin := h.cl.ob.in1 _ (h.cl.lm hi).1
  have hnl : i < (nwL ws l M).length := by rw [nw_len]; exact hi
  have hm3 : M3 ((nwL ws l M).getD i 0) = true := by rw [nw_getD hi, h.same hi, e1]; exact hm
  have h1 := hc.low i hnl hm3 p (by rw [nw_getD hi, h.cl.sz hi, e1]; exact hp)
  rw [h.frK hi hj g4, nw_getD hi] at h1
  rw [h1]
  have hp' : p < szN ws ((l.filter M).getD i 0) := by rw [e1]; exact hp
  rw [← e1]
  unfold outT
  by_cases p0 : p = 0
  · rw [if_pos p0, if_pos p0, h.cl.head hi]
  · rw [if_neg p0, if_neg p0]
    by_cases p1 : p = 1
    · rw [if_pos p1, if_pos p1]
    · rw [if_neg p1, if_neg p1, h.cl.tg hi]
      by_cases hT : p < 2 + tgN ws ((l.filter M).getD i 0)
      · obtain ⟨q, rfl⟩ : ∃ q, p = 2 + q := ⟨p - 2, by omega⟩
        have ht := h.cl.tagged hi (j := q) (by omega)
        rw [← Nat.add_assoc, ← Nat.add_assoc]
        by_cases h6 : ws.getD ((l.filter M).getD i 0 + 2 + q) 0 % 4 = 0
        · rw [if_pos h6] at ht
          have hia : (l.filter M).getD i 0 + 2 + q ∈ adrP ws ((l.filter M).getD i 0) (tgN ws ((l.filter M).getD i 0)) := adrP_mem.2 ⟨q, by omega, rfl, h6⟩
          have hMb := h.cl.cls _ (h.cl.lm hi).2 _ hia
          have h4 := h.cl.four hMb
          rw [if_pos ⟨hT, by rw [ht]; unfold trn; omega⟩, if_pos ⟨hT, h6⟩]
          unfold trn at ht ⊢
          rw [ht, h4.2, h.dst hMb]
        · rw [if_neg h6] at ht
          rw [if_neg (fun g => h6 (by rw [← ht]; exact g.2)), if_neg (fun g => h6 g.2), ht]
      · rw [if_neg (fun g => hT g.1), if_neg (fun g => hT g.1), h.cl.raw hi hp' (by omega)]
theorem Fw.roots (h : Fw ws tn l M res qs M3 M4) : (qs.map (trR ws l M)).map (trR res (nwL ws l M) M3) = qs.map (trR ws l M4) := by
  rw [List.map_map]
  refine List.map_congr_left fun x hx => ?_
  show trR res (nwL ws l M) M3 (trR ws l M x) = trR ws l M4 x
  by_cases h0 : kindOf x = 0
  · have hMx := h.le _ (.root hx h0)
    have h4 := h.cl.four hMx
    have e : trR ws l M x = 4 * (dstA l M (szN ws) (x / 4).toNat : Int) := by unfold trR; rw [if_pos h0]
    rw [e]
    unfold trR
    rw [if_pos h4.1, h4.2, if_pos h0, h.dst hMx]
  · have e : trR ws l M x = x := by unfold trR; rw [if_neg h0]
    rw [e]
    unfold trR
    rw [if_neg h0, if_neg h0]
end
end
section
open Go Go.ChangeShapes Go.WideShapes Go.ChangeAt Go.RowKit
set_option linter.unusedVariables false
set_option linter.unusedSimpArgs false
theorem ret_u {a b : Int} (h : a = b) : Ending.returned (Value.int .u64 a) = .returned (.int .u64 b) := by rw [h]
set_option maxRecDepth 100000 in
theorem turned_any {ts : List Int} {gt : Nat} {w : World} (ht : LR .i64 3 w gt ts) (x : Int) (hx : 0 ≤ x ∧ x ≤ 18446744073709551615) (hin : kindOf x = 0 → (x / 4).toNat < ts.length ∧ 0 ≤ ts.getD (x / 4).toNat 0 ∧ ts.getD (x / 4).toNat 0 ≤ 1048576) (hl : ts.length ≤ 1048576) :
    Calls Try.prog 54 #[.int .u64 x, .slice (some ⟨gt, 0, none⟩) ts.length ts.length] w fun e w' => e = .returned (.int .u64 (trT ts x)) ∧ w' = w := by
  have hwf := wfu_mk hx
  by_cases hk : kindOf x = 0
  · obtain ⟨h1, h2, h3⟩ := hin hk
    have hkn := kind_nat hk
    obtain ⟨b, hb⟩ : ∃ b : Nat, x / 4 = (b : Int) := ⟨(x / 4).toNat, by omega⟩
    have hbn : (x / 4).toNat = b := by rw [hb, Int.toNat_natCast]
    have e1 : atV x = (b : Int) := by unfold atV; rw [if_pos hk, hb]
    have e2 : atE x = 0 := by unfold atE; rw [if_pos hk]
    rw [hbn] at h1 h2 h3
    have hc := ht.cell h1
    have HE := Lib.hid (show 4 * ts.getD b 0 = trT ts x by unfold trT; rw [if_pos hk, hbn])
    generalize ts.getD b 0 = y at *
    have hbz : (b : Int) < (ts.length : Int) := Int.ofNat_lt.2 h1
    have hw1 : IntKind.u64.wrap y = y := by rw [u64w]; omega
    have hw2 : IntKind.u64.wrap (4 * y) = 4 * y := by rw [u64w]; omega
    clear hk hkn hb hbn hin ht
    go_enter Try.func54, Try.ntmps54
    go_wp2_with (go_at_call 47; (with_reducible refine (at_ref x hwf _).mono ?_); rintro e w9 ⟨rfl, rfl⟩; rw [e1, e2])
    go_ret
    exact ⟨ret_u HE.out, rfl⟩
  · have e2 : atE x = 9 := by unfold atE; rw [if_neg hk]
    have HE := Lib.hid (show x = trT ts x by unfold trT; rw [if_neg hk])
    clear hk hin ht
    go_enter Try.func54, Try.ntmps54
    go_wp2_with (go_at_call 47; (with_reducible refine (at_ref x hwf _).mono ?_); rintro e w9 ⟨rfl, rfl⟩; rw [e2])
    go_ret
    exact ⟨ret_u HE.out, rfl⟩
theorem three_all {w : World} {B : Nat} {x0 x1 x2 y1 y2 : Value} (h1 : w.cell? ⟨B, 1, none⟩ = some y1) (h2 : w.cell? ⟨B, 2, none⟩ = some y2) :
    (((w.setCell ⟨B, 0, none⟩ x0).setCell ⟨B, 1, none⟩ x1).setCell ⟨B, 2, none⟩ x2).cell? ⟨B, 1, none⟩ = some x1 ∧ (((w.setCell ⟨B, 0, none⟩ x0).setCell ⟨B, 1, none⟩ x1).setCell ⟨B, 2, none⟩ x2).cell? ⟨B, 2, none⟩ = some x2 := by
  have n0 : (⟨B, 0, none⟩ : Addr) ≠ ⟨B, 2, none⟩ := by simp
  have n1 : (⟨B, 1, none⟩ : Addr) ≠ ⟨B, 2, none⟩ := by simp
  exact ⟨three_set h1, World.cell?_setCell_same _ _ _ ((World.cell?_setCell_other _ _ _ _ n1).trans ((World.cell?_setCell_other _ _ _ _ n0).trans h2))⟩
/-- An object's description in a box of its own. -/
def OBx (wr wx : World) (bx : Nat) (t s : Int) : Prop := wr.heap.size ≤ bx ∧ wx.cell? ⟨bx, 1, none⟩ = some (.int .i64 t) ∧ wx.cell? ⟨bx, 2, none⟩ = some (.int .i64 s) ∧ Below wr.heap.size wr wx
theorem obx_late {wr w1 : World} {k t s : Int} {T : TypeId} (hb : Below wr.heap.size wr w1) : OBx wr (w1.alloc (.cells #[.int .i64 k, .int .i64 t, .int .i64 s] T)) w1.heap.size t s :=
  ⟨hb.size, by simp, by simp, hb.alloc hb.size _⟩
theorem obx_early {wr w1 : World} {k t s : Int} {T : TypeId} {z0 z1 z2 : Value} (hb : Below (wr.alloc (.cells #[z0, z1, z2] T)).heap.size (wr.alloc (.cells #[z0, z1, z2] T)) w1) :
    OBx wr (((w1.setCell ⟨wr.heap.size, 0, none⟩ (.int .i64 k)).setCell ⟨wr.heap.size, 1, none⟩ (.int .i64 t)).setCell ⟨wr.heap.size, 2, none⟩ (.int .i64 s)) wr.heap.size t s := by
  have h := three_all (x0 := .int .i64 k) (x1 := .int .i64 t) (x2 := .int .i64 s) (below_cell hb (a := ⟨wr.heap.size, 1, none⟩) (v := z1) (by simp)) (below_cell hb (a := ⟨wr.heap.size, 2, none⟩) (v := z2) (by simp))
  have q0 : Below wr.heap.size wr w1 := ((Below.refl wr.heap.size wr).alloc (Nat.le_refl _) _).trans (hb.mono (by simp))
  exact ⟨Nat.le_refl _, h.1, h.2, ((q0.setCell (by simp) _).setCell (by simp) _).setCell (by simp) _⟩
def RcPost (ws : List Int) (l : List Nat) (rs : List Int) (w : World) (e : Ending) (w' : World) : Prop :=
  ∃ go M res rv', e = .returned (.tuple #[.agg #[.slice (some ⟨go, 0, none⟩) ws.length ws.length, .int .i64 (frK l M (szN ws) l.length)], rv']) ∧ (∀ a, M a = true ↔ Rch ws rs a) ∧ CO ws l M res ∧ LU w' go res ∧ OW .u64 46 w' w.heap.size rv' (rs.map (trR ws l M)) ∧ Below w.heap.size w w'
/-- While the new places are laid. -/
structure C1 (ws : List Int) (tn : Nat) (l : List Nat) (M : Nat → Bool) (w3 : World) (i : Nat) (wr : World) : Prop where
  tw : LR .i64 3 wr (w3.heap.size + 2) (toL tn l M (szN ws) i)
  b0 : wr.cell? ⟨w3.heap.size + 1, 0, none⟩ = some (.slice (some ⟨w3.heap.size, 0, none⟩) ws.length ws.length)
  b1 : wr.cell? ⟨w3.heap.size + 1, 1, none⟩ = some (.int .i64 (frL (szN ws) (l.filter M) i))
  fz : wr.frozen? ⟨w3.heap.size + 1, 1, none⟩ = false
  ow : LU wr w3.heap.size (List.replicate ws.length 0)
  bel : Below w3.heap.size w3 wr
theorem C1.keep {ws : List Int} {tn : Nat} {l : List Nat} {M : Nat → Bool} {w3 : World} {i : Nat} {wr w1 : World} (h : C1 ws tn l M w3 i wr) (hb : Below wr.heap.size wr w1) : C1 ws tn l M w3 i w1 := by
  refine ⟨LR.keep h.tw hb, below_cell hb h.b0, below_cell hb h.b1, ?_, LR.keep h.ow hb, h.bel.trans (hb.mono h.bel.size)⟩
  have h1 := World.block_lt_of_cell? wr _ h.b1
  have h3 := h.fz
  unfold World.frozen? at h3 ⊢
  rwa [hb.block _ h1]
theorem frL_le {ws : List Int} {tn : Nat} {l : List Nat} {M : Nat → Bool} (ho : Ob ws tn l) {i : Nat} (hi : i ≤ (l.filter M).length) : frL (szN ws) (l.filter M) i ≤ tn := by
  have h1 := frL_mono (sz := szN ws) (L := l.filter M) hi (Nat.le_refl _)
  rw [← frK_L] at h1
  have h2 := frK_le (M := M) ho.objs l.length (Nat.le_refl _)
  rw [nxO_ge (Nat.lt_irrefl _)] at h2
  omega
theorem rc_ak {a k : Nat} (h : a + k ≤ 1048576) : IntKind.i64.wrap ((a : Int) + (k : Int)) = (a : Int) + (k : Int) := IntWalk.i64_in _ (by omega)
theorem rc_sum {f s tn : Nat} (h : f + s ≤ tn) (h2 : tn ≤ 1048576) : IntKind.i64.wrap ((f : Int) + (s : Int)) = ((f + s : Nat) : Int) := by rw [IntWalk.i64_in _ (by omega)]; push_cast; rfl
theorem C1.step {ws : List Int} {tn : Nat} {l : List Nat} {M : Nat → Bool} {w3 : World} {i : Nat} {wr wx : World} (h : C1 ws tn l M w3 i wr) (ho : Ob ws tn l) (hi : i < (l.filter M).length) {a s : Nat} (ha : (l.filter M).getD i 0 = a) (hs : szN ws a = s) (hat : a < tn)
    (hx : wx = wr.setCell ⟨w3.heap.size + 2, a, none⟩ (.int .i64 (frL (szN ws) (l.filter M) i))) : wx.cell? ⟨w3.heap.size + 1, 1, none⟩ = some (.int .i64 (frL (szN ws) (l.filter M) i)) ∧ wx.frozen? ⟨w3.heap.size + 1, 1, none⟩ = false ∧
      C1 ws tn l M w3 (i + 1) (wx.setCell ⟨w3.heap.size + 1, 1, none⟩ (.int .i64 ((frL (szN ws) (l.filter M) i + s : Nat) : Int))) := by
  subst hx
  have hset : ∀ q, q ≠ w3.heap.size + 2 → (wr.setCell ⟨w3.heap.size + 2, a, none⟩ (.int .i64 (frL (szN ws) (l.filter M) i))).heap[q]? = wr.heap[q]? := fun q hq => Below.heap_setCell _ _ _ q hq
  have c1 : (wr.setCell ⟨w3.heap.size + 2, a, none⟩ (.int .i64 (frL (szN ws) (l.filter M) i))).cell? ⟨w3.heap.size + 1, 1, none⟩ = some (.int .i64 (frL (szN ws) (l.filter M) i)) := (World.cell?_of_block (a := ⟨w3.heap.size + 1, 1, none⟩) (hset _ (by dsimp only; omega))).trans h.b1
  have z1 : (wr.setCell ⟨w3.heap.size + 2, a, none⟩ (.int .i64 (frL (szN ws) (l.filter M) i))).frozen? ⟨w3.heap.size + 1, 1, none⟩ = false := by rw [World.frozen?_setCell]; exact h.fz
  refine ⟨c1, z1, ?_⟩
  have hset2 : ∀ (wy : World) (x : Value) q, q ≠ w3.heap.size + 1 → (wy.setCell ⟨w3.heap.size + 1, 1, none⟩ x).heap[q]? = wy.heap[q]? := fun wy x q hq => Below.heap_setCell _ _ _ q hq
  have hto := LR.set h.tw a ((frL (szN ws) (l.filter M) i : Nat) : Int)
  rw [← ha] at hto hat
  rw [toL_set ho.rising hi hat, ha] at hto
  refine ⟨LR.block hto (hset2 _ _ _ (by omega)), (World.cell?_setCell_other _ _ _ _ (by simp)).trans ((World.cell?_of_block (a := ⟨w3.heap.size + 1, 0, none⟩) (hset _ (by dsimp only; omega))).trans h.b0), ?_, by rw [World.frozen?_setCell]; exact z1, LR.block h.ow ((hset2 _ _ _ (by omega)).trans (hset _ (by omega))), (h.bel.setCell (by dsimp only; omega) _).setCell (by dsimp only; omega) _⟩
  rw [frL_succ hi, ha, hs]
  exact World.cell?_setCell_same _ _ _ c1
theorem C1.drewN {ws : List Int} {tn : Nat} {l : List Nat} {M : Nat → Bool} {w3 : World} {i : Nat} {wr : World} (h : C1 ws tn l M w3 i wr) (q : Nat) : C1 ws tn l M w3 i (wr.drewN q) :=
  ⟨h.tw, h.b0, h.b1, h.fz, h.ow, below_drewN h.bel q⟩
theorem C1.drew {ws : List Int} {tn : Nat} {l : List Nat} {M : Nat → Bool} {w3 : World} {i : Nat} {wr : World} (h : C1 ws tn l M w3 i wr) : C1 ws tn l M w3 i wr.drew :=
  ⟨h.tw, h.b0, h.b1, h.fz, h.ow, h.bel.drew⟩
theorem dst_le {ws : List Int} {tn : Nat} {l : List Nat} {M : Nat → Bool} (ho : Ob ws tn l) {b : Nat} (hb : b ∈ l) : dstA l M (szN ws) b ≤ 1048576 := by
  obtain ⟨i, hi, rfl⟩ := getD_of_mem hb
  rw [dst_at ho.rising hi]
  have h1 := frK_le (M := M) ho.objs i (Nat.le_of_lt hi)
  have h2 := ho.objs.le i
  have := ho.objs.top
  omega
theorem rc_adr {ws : List Int} {tn : Nat} {l : List Nat} {M : Nat → Bool} {rs : List Int} (ho : Ob ws tn l) (hM : ∀ a, M a = true ↔ Rch ws rs a) {a k : Nat} (ha : M a = true) (hal : a ∈ l) (hk : 2 ≤ k ∧ k < 2 + tgN ws a) (h0 : kindOf (ws.getD (a + k) 0) = 0) :
    (ws.getD (a + k) 0 / 4).toNat < (toL tn l M (szN ws) (l.filter M).length).length ∧ 0 ≤ (toL tn l M (szN ws) (l.filter M).length).getD (ws.getD (a + k) 0 / 4).toNat 0 ∧ (toL tn l M (szN ws) (l.filter M).length).getD (ws.getD (a + k) 0 / 4).toNat 0 ≤ 1048576 := by
  have hkn := kind_nat h0
  have hia : a + k ∈ adrP ws a (tgN ws a) := adrP_mem.2 ⟨k - 2, by omega, by omega, hkn.2.2⟩
  have h4 := ho.adr hal hia
  have h5 : Rch ws rs (ws.getD (a + k) 0 / 4).toNat := .step ((hM a).1 ha) (by unfold sucs; exact List.mem_map.2 ⟨_, hia, rfl⟩)
  have h6 := ho.in1 _ h4.2.1
  rw [toL_len, toL_all (by omega) h4.2.1 ((hM _).2 h5)]
  have := dst_le (M := M) ho h4.2.1
  omega
theorem rc_adr2 {ws : List Int} {tn : Nat} {l : List Nat} {M : Nat → Bool} {rs : List Int} (ho : Ob ws tn l) (hr : rs.all (rightW l) = true) (hM : ∀ a, M a = true ↔ Rch ws rs a) {x : Int} (hx : x ∈ rs) (h0 : kindOf x = 0) :
    (x / 4).toNat < (toL tn l M (szN ws) (l.filter M).length).length ∧ 0 ≤ (toL tn l M (szN ws) (l.filter M).length).getD (x / 4).toNat 0 ∧ (toL tn l M (szN ws) (l.filter M).length).getD (x / 4).toNat 0 ≤ 1048576 := by
  have h1 := Rch.root (ws := ws) hx h0
  have h2 := Rch.mem ho hr h1
  have h3 := ho.in1 _ h2
  rw [toL_len, toL_all (by omega) h2 ((hM _).2 h1)]
  have := dst_le (M := M) ho h2
  omega
/-- While the new memory is written. -/
structure C2 (ws : List Int) (tn : Nat) (l : List Nat) (M : Nat → Bool) (w3 : World) (i k : Nat) (wr : World) : Prop where
  tw : LR .i64 3 wr (w3.heap.size + 2) (toL tn l M (szN ws) (l.filter M).length)
  b0 : wr.cell? ⟨w3.heap.size + 1, 0, none⟩ = some (.slice (some ⟨w3.heap.size, 0, none⟩) ws.length ws.length)
  b1 : wr.cell? ⟨w3.heap.size + 1, 1, none⟩ = some (.int .i64 (frL (szN ws) (l.filter M) (l.filter M).length))
  ow : ∃ xs, LU wr w3.heap.size xs ∧ WO ws l M i k xs
  bel : Below w3.heap.size w3 wr
theorem C2.keep {ws : List Int} {tn : Nat} {l : List Nat} {M : Nat → Bool} {w3 : World} {i k : Nat} {wr w1 : World} (h : C2 ws tn l M w3 i k wr) (hb : Below wr.heap.size wr w1) : C2 ws tn l M w3 i k w1 := by
  obtain ⟨xs, h1, h2⟩ := h.ow
  exact ⟨LR.keep h.tw hb, below_cell hb h.b0, below_cell hb h.b1, ⟨xs, LR.keep h1 hb, h2⟩, h.bel.trans (hb.mono h.bel.size)⟩
theorem C1.two {ws : List Int} {tn : Nat} {l : List Nat} {M : Nat → Bool} {w3 : World} {wr : World} (h : C1 ws tn l M w3 (l.filter M).length wr) : C2 ws tn l M w3 0 0 wr :=
  ⟨h.tw, h.b0, h.b1, ⟨_, h.ow, WO.start ws l M⟩, h.bel⟩
theorem C2.next {ws : List Int} {tn : Nat} {l : List Nat} {M : Nat → Bool} {w3 : World} {i k : Nat} {wr : World} (h : C2 ws tn l M w3 i k wr) (hi : i < (l.filter M).length) (hk : k = szN ws ((l.filter M).getD i 0)) : C2 ws tn l M w3 (i + 1) 0 wr := by
  subst hk
  obtain ⟨xs, h1, h2⟩ := h.ow
  exact ⟨h.tw, h.b0, h.b1, ⟨xs, h1, h2.next hi⟩, h.bel⟩
/-- One word is written. -/
theorem C2.put {ws : List Int} {tn : Nat} {l : List Nat} {M : Nat → Bool} {w3 : World} {i k : Nat} {wr : World} (h : C2 ws tn l M w3 i k wr) (hi : i < (l.filter M).length) {a f : Nat} {y : Int} (ha : (l.filter M).getD i 0 = a) (hk : k < szN ws a) (hf : frL (szN ws) (l.filter M) i = f) (hle : f + k < ws.length) (hy : outT ws l M a k = y) :
    (∃ z, wr.cell? ⟨w3.heap.size, f + k, none⟩ = some (.int .u64 z)) ∧ wr.frozen? ⟨w3.heap.size, f + k, none⟩ = false ∧ C2 ws tn l M w3 i (k + 1) (wr.setCell ⟨w3.heap.size, f + k, none⟩ (.int .u64 y)).drew := by
  obtain ⟨xs, h1, h2⟩ := h.ow
  have hset : ∀ q, q ≠ w3.heap.size → (wr.setCell ⟨w3.heap.size, f + k, none⟩ (.int .u64 y)).heap[q]? = wr.heap[q]? := fun q hq => Below.heap_setCell _ _ _ q hq
  refine ⟨⟨_, LR.cell h1 (by rw [h2.len]; exact hle)⟩, LR.frozen h1 _, LR.block h.tw (hset _ (by omega)), (World.cell?_of_block (a := ⟨w3.heap.size + 1, 0, none⟩) (hset _ (by dsimp only; omega))).trans h.b0, (World.cell?_of_block (a := ⟨w3.heap.size + 1, 1, none⟩) (hset _ (by dsimp only; omega))).trans h.b1, ⟨_, LR.set h1 (f + k) y, ?_⟩, (h.bel.setCell (Nat.le_refl _) _).drew⟩
  have := h2.put hi (by rw [ha]; exact hk) (by rw [hf]; exact hle)
  rwa [hf, ha, hy] at this
set_option maxRecDepth 100000 in
set_option maxHeartbeats 8000000 in
theorem rcollect_any {ws : List Int} {tn : Nat} {l : List Nat} (ho : Ob ws tn l) (v : Value) (w : World) (hr : Rd w v ws) (rv : Value) (rs : List Int) (hrr : Rd w rv rs) (hfr : Fit rs) (hyes : rs.all (rightW l) = true) (h1 : 1 ≤ tn) (hn0 : ws.getD 0 0 = 0) (hm : rs.length ≤ 1048576) (hpot : potN l (tgN ws) (fun _ => false) ≤ 1048576 + 1048576) :
    Calls Try.prog 19 #[.agg #[v, .int .i64 tn], rv] w (RcPost ws l rs w) := by
  have htl := ho.le
  have hmost := ho.most
  obtain ⟨pb, off, cv, rfl, hlc, hmv, hcell⟩ := hr.some (by omega)
  obtain ⟨pr, cr, rfl, hcr, hmr, hpr⟩ := rd_form hrr
  have HR := Lib.hid hr
  have HCELL := Lib.hid hcell
  have HRR := Lib.hid hrr
  have HFR := Lib.hid hfr
  have HO := Lib.hid ho
  have HY := Lib.hid hyes
  have HN0 := Lib.hid hn0
  have HCR := Lib.hid (fun (wx : World) (hb : Below w.heap.size w wx) => rreach14_any ho _ wx (hr.keep hb) _ rs (hrr.keep hb) hfr hyes h1 hm hpot)
  have hmk1 := run_make_row' (P := Try.prog) 22 46 (.int .u64 0) 8 Try.underlying22 infoU64 rfl .i64 .i64 ws.length (by omega) (by omega)
  have hmk2 := run_make_row' (P := Try.prog) 26 3 (.int .i64 0) 8 Try.underlying26 infoI64 rfl .i64 .i64 tn (by omega) (by omega)
  clear hcell hr hrr hfr ho hyes hpot hpr hn0
  go_enter Try.func19, Try.ntmps19
  go_wp2_with fail
  have HB0 := Lib.hid (show Below w.heap.size w ((w.alloc (Obj.cells #[.slice (some ⟨pb, off, none⟩) ws.length cv, .int .i64 (tn : Int)] 24)).alloc (Obj.cells #[.slice none 0 0, .int .i64 0] 24)) from ((Below.refl _ _).alloc (Nat.le_refl _) _).alloc (by simp) _)
  refine (HCR.out _ HB0.out).mono ?_
  rintro e w3 ⟨u, M, rfl, hM, hu, hb⟩
  have y0 := below_cell hb (a := ⟨w.heap.size, 0, none⟩) (v := .slice (some ⟨pb, off, none⟩) ws.length cv) (alloc_cell (by simp) _)
  have y1 := below_cell hb (a := ⟨w.heap.size, 1, none⟩) (v := .int .i64 (tn : Int)) (alloc_cell (by simp) _)
  have q0 := below_cell hb (a := ⟨w.heap.size + 1, 0, none⟩) (v := .slice none 0 0) (by simp)
  have q1 := below_cell hb (a := ⟨w.heap.size + 1, 1, none⟩) (v := .int .i64 0) (by simp)
  have HQF := Lib.hid (show ∀ i, w3.frozen? ⟨w.heap.size + 1, i, none⟩ = false from fun i => by
    have h2 : w3.heap[w.heap.size + 1]? = some (.cells #[.slice none 0 0, .int .i64 0] 24 (0, 0)) := (hb.block _ (by simp)).trans (by
      have := World.alloc_heap_new (w.alloc (Obj.cells #[.slice (some ⟨pb, off, none⟩) ws.length cv, .int .i64 (tn : Int)] 24)) (Obj.cells #[.slice none 0 0, .int .i64 0] 24)
      rwa [World.size_alloc] at this)
    simp [World.frozen?, h2])
  have HB3 := Lib.hid (HB0.out.trans (hb.mono HB0.out.size))
  have HM := Lib.hid hM
  have HU := Lib.hid hu
  have hs3 : w.heap.size + 1 < w3.heap.size := World.block_lt_of_cell? w3 _ q1
  obtain ⟨pu, cu, rfl⟩ := ow_form hu
  have HLL := Lib.hid (show (l.filter M).length ≤ 1048576 by
    have := rising_len HO.out.rising (fun x hx => by have := HO.out.in1 x hx; exact (by omega : x < tn))
    have := List.length_filter_le M l
    omega)
  rw [List.length_map]
  clear hb hM hu HB0
  have y1a := fun o o' => alloc_cell (alloc_cell y1 o) o'
  go_wp2_with fail
  obtain ⟨w6, hw6⟩ : ∃ w6, ((w3.alloc (Obj.cells (madeCells #[Value.int .u64 0] ws.length) 46)).alloc (Obj.cells #[.slice (some ⟨w3.heap.size, 0, none⟩) ws.length ws.length, .int .i64 1] 24)).alloc (Obj.cells (madeCells #[Value.int .i64 0] tn) 3) = w6 := ⟨_, rfl⟩
  rw [hw6]
  have HC0 := Lib.hid (show C1 ws tn l M w3 0 w6 by
    have hA : Below w3.heap.size w3 w6 := by rw [← hw6]; exact (((Below.refl _ _).alloc (Nat.le_refl _) _).alloc (by simp) _).alloc (by simp; omega) _
    have hbx : w6.heap[w3.heap.size + 1]? = some (.cells #[.slice (some ⟨w3.heap.size, 0, none⟩) ws.length ws.length, .int .i64 1] 24 (0, 0)) := by
      rw [← hw6]
      refine (Below.heap_alloc _ _ _ (by simp)).trans ?_
      have := World.alloc_heap_new (w3.alloc (Obj.cells (madeCells #[Value.int .u64 0] ws.length) 46)) (Obj.cells #[.slice (some ⟨w3.heap.size, 0, none⟩) ws.length ws.length, .int .i64 1] 24)
      rwa [World.size_alloc] at this
    refine ⟨?_, by simp [World.cell?, hbx], by rw [frL_zero]; simp [World.cell?, hbx], by simp [World.frozen?, hbx], ?_, hA⟩
    · rw [toL_zero, ← hw6]
      have := LR.made (k := .i64) (T := 3) ((w3.alloc (Obj.cells (madeCells #[Value.int .u64 0] ws.length) 46)).alloc (Obj.cells #[.slice (some ⟨w3.heap.size, 0, none⟩) ws.length ws.length, .int .i64 1] 24)) tn
      rwa [World.size_alloc, World.size_alloc] at this
    · have := LR.made (k := .u64) (T := 46) w3 ws.length
      rw [← hw6]
      exact LR.block this ((Below.heap_alloc _ _ _ (by simp; omega)).trans (Below.heap_alloc _ _ _ (by simp))))
  have HUL := Lib.hid (show ∀ (wx : World), Below w3.heap.size w3 wx → ∀ i, i < (l.filter M).length → ∃ g, pu = some ⟨g, 0, none⟩ ∧ g < w3.heap.size ∧ wx.cell? ⟨g, i, none⟩ = some (.int .i64 (((l.filter M).getD i 0 : Nat) : Int)) from fun wx hb i hi => by
    have ho := HU.out
    rcases ho.2 with ⟨e, e2⟩ | ⟨g, cap, cur, e, _, hgb, _⟩
    · rw [List.length_map] at e2; omega
    · have hgl := (Array.getElem?_eq_some_iff.1 hgb).1
      injection e with e1 e2 e3
      subst e1; subst e3
      refine ⟨g, rfl, hgl, below_cell hb ?_⟩
      unfold OW at ho
      rw [List.length_map] at ho
      have := World.ownsRow.cellAt (g := g) ho i (by omega)
      rw [this, List.map_map, List.getElem?_map, List.getElem?_eq_getElem hi, List.getD_eq_getElem?_getD, List.getElem?_eq_getElem hi]
      rfl)
  have HY0 := Lib.hid (And.intro y0 y1)
  have HQQ := Lib.hid (And.intro q0 q1)
  clear hw6 y1a hmk1 hmk2 y0 y1 q0 q1 HU
  go_loopw [9, 10, 11] (fun s _ _ wr => ∃ i : Nat, s = .int .i64 i ∧ i ≤ (l.filter M).length ∧ C1 ws tn l M w3 i wr) (fun s _ _ _ => (l.filter M).length - (intOf s).toNat)
  case atStart => exact ⟨0, by go_num, Nat.zero_le _, HC0.out⟩
  case round =>
    obtain ⟨i, rfl, hi, hc⟩ := hrel
    have HC := Lib.hid hc
    clear hc
    by_cases hlt : i < (l.filter M).length
    · have hlz : (i : Int) < ((l.filter M).length : Int) := Int.ofNat_lt.2 hlt
      have hll := HLL.out
      obtain ⟨g, rfl, hgl, hcg⟩ := HUL.out wr HC.out.bel i hlt
      have ham := mem_getD hlt
      have haM := (List.mem_filter.1 ham).2
      have hal := (List.mem_filter.1 ham).1
      obtain ⟨a, haa⟩ : ∃ a, (l.filter M).getD i 0 = a := ⟨_, rfl⟩
      have HAA := Lib.hid haa
      rw [haa] at ham hcg haM hal
      have hai := HO.out.in1 a hal
      have y0 := below_cell HC.out.bel HY0.out.1
      have y1 := below_cell HC.out.bel HY0.out.2
      have hat := fun (wx : World) (hb : Below w.heap.size w wx) => refat_any _ ws tn a wx (HR.out.keep hb) HO.out.fit (by omega) ⟨by omega, by omega⟩
      unfold objAt obj at hat
      rw [Int.toNat_natCast, at_obj HO.out hal] at hat
      have hT : hT (ws.getD a 0) = ((tgN ws a : Nat) : Int) := by have := hT_lo (ws.getD a 0); unfold tgN; omega
      have hS : hS (ws.getD a 0) = ((szN ws a : Nat) : Int) := by have := hS_lo (ws.getD a 0); unfold szN; omega
      rw [hT, hS] at hat
      have HAT := Lib.hid hat
      generalize hK (ws.getD a 0) = kk at HAT
      generalize there (ws.take tn) (a : Int) = th at HAT
      have HBW := Lib.hid (HB3.out.trans (HC.out.bel.mono HB3.out.size))
      clear haa haM ham hat hT hS
      go_wp2_with fail
      go_cut [10] (fun s wx => ∃ bx, s = .pointer (some ⟨bx, 0, none⟩) ∧ OBx wr wx bx (tgN ws a) (szN ws a))
      case first =>
        have n4 : w3.heap.size + 2 < wr.heap.size := LR.lt HC.out.tw
        have hSb := HBW.out
        have hSz := hSb.size
        have n1 := World.new_ne wr _ y0
        have n2 := World.new_ne wr _ y1
        have n3 := World.new_ne wr _ hcg
        have hws : w.heap.size < wr.heap.size := by omega
        go_region_held3 (fun w' => w'.cell? ⟨w.heap.size, 0, none⟩ = some (Value.slice (some ⟨pb, off, none⟩) ws.length cv) ∧ w'.cell? ⟨w.heap.size, 1, none⟩ = some (.int .i64 tn) ∧ w'.cell? ⟨g, i, none⟩ = some (.int .i64 a))
            (first | go_keep | (refine ⟨?_, ?_, ?_⟩ <;> (first | exact below_cell hb1 y0 | exact alloc_cell (below_cell hb1 y0) _ | exact below_cell hb1 (alloc_cell y0 _) | exact set_cell (below_cell hb1 (alloc_cell y0 _)) (by simp; omega) | exact below_cell hb1 y1 | exact alloc_cell (below_cell hb1 y1) _ | exact below_cell hb1 (alloc_cell y1 _) | exact set_cell (below_cell hb1 (alloc_cell y1 _)) (by simp; omega) | exact below_cell hb1 hcg | exact alloc_cell (below_cell hb1 hcg) _ | exact below_cell hb1 (alloc_cell hcg _) | exact set_cell (below_cell hb1 (alloc_cell hcg _)) (by simp; omega))))
            ((go_at_call 49; refine (HAT.out _ (by first | exact hSb | exact hSb.drew | exact (hSb.alloc hSz _) | exact (hSb.alloc hSz _).drew)).mono ?_; rintro e w1 ⟨rfl, hb1⟩; obtain ⟨hc1, hf1⟩ := bcell hb1; have hz1 := hb1.size))
        all_goals go_wp2_with fail
        all_goals go_meet
        · exact ⟨_, rfl, obx_late ⟨hb1.os, hb1.tape, hb1.output, hb1.size, hb1.block⟩⟩
        · exact ⟨_, rfl, obx_early (z0 := .int .i64 0) (z1 := .int .i64 0) (z2 := .int .i64 0) (T := 84) ⟨hb1.os, hb1.tape, hb1.output, hb1.size, hb1.block⟩⟩
      case rest =>
        obtain ⟨bx, rfl, hox⟩ := hcut
        have HC2 := Lib.hid (HC.out.keep hox.2.2.2)
        have hcg := below_cell hox.2.2.2 hcg
        have o2 := hox.2.2.1
        have hat' : a < tn := by omega
        have ct := HC2.out.tw.cell (i := a) (by rw [toL_len]; exact hat')
        have ft := HC2.out.tw.frozen a
        have b1 := HC2.out.b1
        have hfl := frL_le (M := M) HO.out (i := i + 1) hlt
        have HBXN := Lib.hid (show bx ≠ w3.heap.size + 1 ∧ bx ≠ w3.heap.size + 2 from by
          have n4 : w3.heap.size + 2 < wr.heap.size := LR.lt HC.out.tw
          have := hox.1
          omega)
        rw [frL_succ hlt, HAA.out] at hfl
        obtain ⟨s, hss⟩ : ∃ s, szN ws a = s := ⟨_, rfl⟩
        rw [hss] at o2 hfl
        have HSS := Lib.hid hss
        have HST := Lib.hid (fun (wx : World) (f : Nat) (hf : frL (szN ws) (l.filter M) i = f) (hx : wx = wc.drew.setCell ⟨w3.heap.size + 2, a, none⟩ (.int .i64 f)) => by
          subst hf
          exact HC2.out.drew.step HO.out hlt HAA.out hss hat' hx)
        obtain ⟨f, hff⟩ : ∃ f, frL (szN ws) (l.filter M) i = f := ⟨_, rfl⟩
        have HFF := Lib.hid hff
        rw [hff] at b1 hfl
        have hsum := rc_sum hfl (by omega)
        generalize (toL tn l M (szN ws) i).getD a 0 = t9 at ct
        have haz : (a : Int) < (tn : Int) := Int.ofNat_lt.2 hat'
        clear hox hss hff y0 y1 HC HAT hai
        go_wp2_with fail
        go_region
        obtain ⟨w7, hw7⟩ : ∃ w7, (wc.setCell ⟨w3.heap.size + 1 + 1, a, none⟩ (.int .i64 (f : Int))).drew = w7 := ⟨_, rfl⟩
        rw [hw7]
        have hst := HST.out w7 f HFF.out (by rw [← hw7]; rfl)
        rw [HFF.out] at hst
        obtain ⟨b1, fz, hc7⟩ := hst
        have HC7 := Lib.hid hc7
        have o2 : w7.cell? ⟨bx, 2, none⟩ = some (.int .i64 (s : Int)) := by
          rw [← hw7]
          exact (World.cell?_of_block (a := ⟨bx, 2, none⟩) (Below.heap_setCell _ _ _ _ (by have := HBXN.out.2; dsimp only; omega))).trans o2
        clear hw7 hc7 HST ct ft hcg
        go_wp2_with fail
        go_roundw
        case rel => exact ⟨i + 1, by go_num, hlt, HC7.out⟩
        case measure => exact mk_meas hlt
    · have hke : i = (l.filter M).length := Nat.le_antisymm hi (Nat.not_lt.1 hlt)
      subst hke
      have hlz : ¬ ((l.filter M).length : Int) < ((l.filter M).length : Int) := Int.lt_irrefl _
      go_wp2_with fail
      have HC2 := Lib.hid HC.out.two
      clear HC HC0 hlz
      obtain ⟨wA, rfl⟩ : ∃ wA : World, wA = wr := ⟨_, rfl⟩
      go_loopw [12, 13, 14, 15, 16, 17] (fun s _ _ _ _ _ wr => ∃ i : Nat, s = .int .i64 i ∧ i ≤ (l.filter M).length ∧ C2 ws tn l M w3 i 0 wr) (fun s _ _ _ _ _ _ => (l.filter M).length - (intOf s).toNat)
      case atStart => exact ⟨0, by go_num, Nat.zero_le _, HC2.out⟩
      case round =>
        obtain ⟨i, rfl, hi, hc⟩ := hrel
        have HC := Lib.hid hc
        clear hc
        by_cases hlt : i < (l.filter M).length
        · have hlz : (i : Int) < ((l.filter M).length : Int) := Int.ofNat_lt.2 hlt
          have hll := HLL.out
          obtain ⟨g, rfl, hgl, hcg⟩ := HUL.out wr HC.out.bel i hlt
          have ham := mem_getD hlt
          obtain ⟨a, haa⟩ : ∃ a, (l.filter M).getD i 0 = a := ⟨_, rfl⟩
          have HAA := Lib.hid haa
          rw [haa] at ham hcg
          have HAM := Lib.hid (List.mem_filter.1 ham).2
          have hal := (List.mem_filter.1 ham).1
          have hai := HO.out.in1 a hal
          have y0 := below_cell HC.out.bel HY0.out.1
          have y1 := below_cell HC.out.bel HY0.out.2
          have hat := fun (wx : World) (hb : Below w.heap.size w wx) => refat_any _ ws tn a wx (HR.out.keep hb) HO.out.fit (by omega) ⟨by omega, by omega⟩
          unfold objAt obj at hat
          rw [Int.toNat_natCast, at_obj HO.out hal] at hat
          have hT : hT (ws.getD a 0) = ((tgN ws a : Nat) : Int) := by have := hT_lo (ws.getD a 0); unfold tgN; omega
          have hS : hS (ws.getD a 0) = ((szN ws a : Nat) : Int) := by have := hS_lo (ws.getD a 0); unfold szN; omega
          rw [hT, hS] at hat
          have HAT := Lib.hid hat
          generalize hK (ws.getD a 0) = kk at HAT
          generalize there (ws.take tn) (a : Int) = th at HAT
          have HBW := Lib.hid (HB3.out.trans (HC.out.bel.mono HB3.out.size))
          have HAI := Lib.hid hai
          have HAL := Lib.hid hal
          clear haa ham hat hT hS hai
          go_wp2_with fail
          refine (HAT.out _ HBW.out).mono ?_
          rintro e w8 ⟨rfl, hb8⟩
          have HC8 := Lib.hid (HC.out.keep hb8)
          have HBW8 := Lib.hid (HBW.out.trans (hb8.mono HBW.out.size))
          have y0 := below_cell hb8 y0
          have y1 := below_cell hb8 y1
          have hcg := below_cell hb8 hcg
          clear hb8 HAT
          go_wp2_with fail
          obtain ⟨wB, hwB⟩ : ∃ wB, w8.alloc (Obj.cells #[.int .i64 kk, .int .i64 ((tgN ws a : Nat) : Int), .int .i64 ((szN ws a : Nat) : Int)] 84) = wB := ⟨_, rfl⟩
          rw [hwB]
          have hbB : Below w8.heap.size w8 wB := by rw [← hwB]; exact (Below.refl _ _).alloc (Nat.le_refl _) _
          have o1 : wB.cell? ⟨w8.heap.size, 1, none⟩ = some (.int .i64 ((tgN ws a : Nat) : Int)) := by rw [← hwB]; simp
          have o2 : wB.cell? ⟨w8.heap.size, 2, none⟩ = some (.int .i64 ((szN ws a : Nat) : Int)) := by rw [← hwB]; simp
          have hsB : wB.heap.size = w8.heap.size + 1 := by rw [← hwB]; simp
          have HC9 := Lib.hid (HC8.out.keep hbB)
          have HW9 := Lib.hid (show w3.heap.size + 2 < w8.heap.size from LR.lt HC8.out.tw)
          have y0 := below_cell hbB y0
          have y1 := below_cell hbB y1
          have HYB := Lib.hid (And.intro (below_cell HB3.out (a := ⟨pb, off, none⟩) (v := .int .u64 (ws.getD 0 0)) (HCELL.out 0 (by omega))) True.intro)
          obtain ⟨T, hTT⟩ : ∃ T, tgN ws a = T := ⟨_, rfl⟩
          obtain ⟨s, hss⟩ : ∃ s, szN ws a = s := ⟨_, rfl⟩
          rw [hTT] at o1
          rw [hss] at o2
          have hai := HAI.out
          rw [hTT, hss] at hai
          have HTT := Lib.hid hTT
          have HSS := Lib.hid hss
          have hsm : s ≤ 1048576 := by omega
          have hTm : T ≤ 1048576 := by omega
          have HO1 := Lib.hid (And.intro o1 o2)
          clear hwB hbB hTT hss HC HC8 hcg y0 y1 HBW o1 o2 hai
          go_loopw [16, 17] (fun sv _ wr => ∃ k : Nat, sv = .int .i64 k ∧ k ≤ s ∧ C2 ws tn l M w3 i k wr ∧ wr.heap[w8.heap.size]? = wB.heap[w8.heap.size]?) (fun sv _ _ => s - (intOf sv).toNat)
          case atStart => exact ⟨0, by go_num, Nat.zero_le _, HC9.out, rfl⟩
          case round =>
            obtain ⟨k, rfl, hk, hc, hbx⟩ := hrel
            have HC := Lib.hid hc
            have HBX := Lib.hid hbx
            have o1 := (World.cell?_of_block (a := ⟨w8.heap.size, 1, none⟩) hbx).trans HO1.out.1
            have o2 := (World.cell?_of_block (a := ⟨w8.heap.size, 2, none⟩) hbx).trans HO1.out.2
            have y0 := below_cell hc.bel HY0.out.1
            clear hc hbx
            by_cases hks : k < s
            · have hkz : (k : Int) < (s : Int) := Int.ofNat_lt.2 hks
              have hai := HAI.out
              rw [HTT.out, HSS.out] at hai
              have hakn : a + k < tn := by omega
              have cw := below_cell (HB3.out.trans (HC.out.bel.mono HB3.out.size)) (HCELL.out (a + k) (by omega))
              have hwak := rc_ak (show a + k ≤ 1048576 by omega)
              have hakz : (a : Int) + (k : Int) < (ws.length : Int) := by omega
              have hxb := HO.out.fit (a + k)
              have HOT := Lib.hid (out_trT HO.out HY.out HM.out HAM.out (k := k) (by rw [HSS.out]; exact hks))
              rw [HTT.out] at HOT
              have HADR := Lib.hid (fun (h : 2 ≤ k ∧ k < 2 + T) (h0 : kindOf (ws.getD (a + k) 0) = 0) => rc_adr HO.out HM.out HAM.out HAL.out (by rw [HTT.out]; exact h) h0)
              have HTW := Lib.hid HC.out.tw
              have ct := HC.out.tw.cell (i := a) (by rw [toL_len]; omega)
              rw [toL_all (by omega) HAL.out HAM.out, ← HAA.out, dst_L HO.out.rising hlt] at ct
              rw [HAA.out] at ct
              have b0 := HC.out.b0
              have hfl := frL_le (M := M) HO.out (i := i + 1) hlt
              rw [frL_succ hlt, HAA.out, HSS.out] at hfl
              have HPUT := Lib.hid (fun (y : Int) (f : Nat) (hy : outT ws l M a k = y) (hf : frL (szN ws) (l.filter M) i = f) (hle : f + k < ws.length) => HC.out.put hlt HAA.out (by rw [HSS.out]; exact hks) hf hle hy)
              obtain ⟨f, hff⟩ : ∃ f, frL (szN ws) (l.filter M) i = f := ⟨_, rfl⟩
              have HFF := Lib.hid hff
              rw [hff] at ct hfl
              have hfk : f + k < ws.length := by omega
              have hwfk := rc_ak (show f + k ≤ 1048576 by omega)
              have hfkz : (f : Int) + (k : Int) < (ws.length : Int) := by omega
              have haz : (a : Int) < (tn : Int) := by omega
              obtain ⟨x, hx⟩ : ∃ x, ws.getD (a + k) 0 = x := ⟨_, rfl⟩
              rw [hx] at cw hxb HOT HADR
              obtain ⟨⟨z9, gz⟩, gf, _⟩ := HPUT.out _ f rfl HFF.out hfk
              have HBXG := Lib.hid (fun (y : Int) => show ((wr.setCell ⟨w3.heap.size, f + k, none⟩ (.int .u64 y)).drew).heap[w8.heap.size]? = wB.heap[w8.heap.size]? from (Below.heap_setCell _ _ _ _ (by have := HW9.out; dsimp only; omega)).trans HBX.out)
              have hT2 : 2 + T ≤ 1048576 := by omega
              clear hff hx hai
              by_cases hk2 : 2 ≤ k
              · have hk2z : (k : Int) ≥ 2 := by omega
                have hw2 := rc_ak (a := 2) (k := T) hT2
                by_cases hkT : k < 2 + T
                · have hkTz : (k : Int) < 2 + (T : Int) := by omega
                  rw [if_pos ⟨hk2, hkT⟩] at HOT
                  have htu := turned_any HTW.out x hxb (HADR.out ⟨hk2, hkT⟩) (by rw [toL_len]; omega)
                  rw [toL_len, HOT.out] at htu
                  have HTU := Lib.hid htu
                  have hpp := HPUT.out _ f rfl HFF.out hfk
                  have HPP := Lib.hid hpp.2.2
                  have HBG := Lib.hid (HBXG.out (outT ws l M a k))
                  generalize outT ws l M a k = y at *
                  clear htu hpp HPUT HBXG
                  go_wp2_with fail
                  refine HTU.out.mono ?_
                  rintro e w9 ⟨rfl, rfl⟩
                  go_wp2_with fail
                  go_region
                  go_wp2_with fail
                  go_roundw
                  case rel => exact ⟨k + 1, by go_num, hks, HPP.out, HBG.out⟩
                  case measure => exact mk_meas hks
                · have hkTz : ¬ (k : Int) < 2 + (T : Int) := by omega
                  rw [if_neg (fun h => hkT h.2)] at HOT
                  have hpp := HPUT.out x f (by rw [← HOT.out]) HFF.out hfk
                  have HPP := Lib.hid hpp.2.2
                  have HBG := Lib.hid (HBXG.out x)
                  clear hpp HPUT HBXG HADR
                  go_wp2_with fail
                  go_region
                  go_wp2_with fail
                  go_roundw
                  case rel => exact ⟨k + 1, by go_num, hks, HPP.out, HBG.out⟩
                  case measure => exact mk_meas hks
              · have hk2z : ¬ (k : Int) ≥ 2 := by omega
                rw [if_neg (fun h => hk2 h.1)] at HOT
                have hpp := HPUT.out x f (by rw [← HOT.out]) HFF.out hfk
                have HPP := Lib.hid hpp.2.2
                have HBG := Lib.hid (HBXG.out x)
                clear hpp HPUT HBXG HADR
                go_wp2_with fail
                go_region
                go_wp2_with fail
                go_roundw
                case rel => exact ⟨k + 1, by go_num, hks, HPP.out, HBG.out⟩
                case measure => exact mk_meas hks
            · have hke : k = s := Nat.le_antisymm hk (Nat.not_lt.1 hks)
              subst hke
              have hkz : ¬ (k : Int) < (k : Int) := Int.lt_irrefl _
              have HNX := Lib.hid (HC.out.next hlt (by rw [HAA.out, HSS.out]))
              go_wp2_with fail
              go_roundw
              case rel => exact ⟨i + 1, by go_num, hlt, HNX.out⟩
              case measure => exact mk_meas hlt
        · have hke : i = (l.filter M).length := Nat.le_antisymm hi (Nat.not_lt.1 hlt)
          subst hke
          have hlz : ¬ ((l.filter M).length : Int) < ((l.filter M).length : Int) := Int.lt_irrefl _
          go_wp2_with fail
          obtain ⟨wD, rfl⟩ : ∃ wD : World, wD = wr := ⟨_, rfl⟩
          have HBD := Lib.hid (HB3.out.trans (HC.out.bel.mono HB3.out.size))
          have hwD : w3.heap.size + 2 < wD.heap.size := LR.lt HC.out.tw
          clear HCR
          go_loopw [18, 19] (fun rv sv wr => ∃ k : Nat, sv = .int .i64 k ∧ k ≤ rs.length ∧ OW .u64 46 wr wD.heap.size rv ((rs.take k).map (trR ws l M)) ∧ Below wD.heap.size wD wr) (fun _ sv _ => rs.length - (intOf sv).toNat)
          case atStart => exact ⟨0, by go_num, Nat.zero_le _, OW.nil _ _, Below.refl _ _⟩
          case round =>
            obtain ⟨k, rfl, hk, how, hbe⟩ := hrel
            have HOW := Lib.hid how
            have HBE := Lib.hid hbe
            obtain ⟨pl, cl, rfl⟩ := ow_form how
            have hln : ((rs.take k).map (trR ws l M)).length = k := by rw [List.length_map, List.length_take]; omega
            by_cases hlt : k < rs.length
            · have hlz : (k : Int) < (rs.length : Int) := Int.ofNat_lt.2 hlt
              obtain ⟨b0, off2, c2, hv, hcc, hmm, hcell⟩ := (HRR.out.keep (HBD.out.trans (hbe.mono HBD.out.size))).some (Nat.lt_of_le_of_lt (Nat.zero_le _) hlt)
              cases hv
              have hck := hcell k hlt
              have hxb := HFR.out k
              have hxm := getD_mem hlt
              have HTS := Lib.hid (show ∀ x, rs.getD k 0 = x → (rs.take (k + 1)).map (trR ws l M) = (rs.take k).map (trR ws l M) ++ [trR ws l M x] from fun x hx => by
                rw [List.take_succ_eq_append_getElem hlt, List.map_append, ← hx, List.getD_eq_getElem?_getD, List.getElem?_eq_getElem hlt]; rfl)
              obtain ⟨x, hx⟩ : ∃ x, rs.getD k 0 = x := ⟨_, rfl⟩
              have HTS := Lib.hid (HTS.out x hx)
              rw [hx] at hck hxb hxm
              have htu := turned_any (LR.block HC.out.tw (hbe.block _ (by omega))) x hxb (fun h0 => rc_adr2 HO.out HY.out HM.out hxm h0) (by rw [toL_len]; omega)
              rw [toL_len, roots_trT HO.out HY.out HM.out hxm] at htu
              have HTU := Lib.hid htu
              have HOS := Lib.hid (show wr.ownsRow wD.heap.size 46 1 (.slice pl ((rs.take k).map (trR ws l M)).length cl) ((rs.take k).map (trR ws l M)).length (((rs.take k).map (trR ws l M)).map (Value.int .u64)) from how)
              clear how hbe hcell hcc hmm hx htu hxm hxb
              generalize trR ws l M x = y at *
              generalize (rs.take k).map (trR ws l M) = ys at *
              have HYL := Lib.hid hln
              have hyl : ys.length ≤ 1048576 := by omega
              clear hln
              go_wp2_with fail
              refine HTU.out.mono ?_
              rintro e w9 ⟨rfl, rfl⟩
              go_wp2_with (with_reducible refine wpList_app (t := 22) (e := 46) (z := .int .u64 0) (bytes := 8) (base := wD.heap.size) (n := ys.length) (m := 1) (xs := ys.map (Value.int .u64)) (news := [.int .u64 y]) (v := .slice pl ys.length cl) (x := .slice (some ⟨w9.heap.size, 0, none⟩) 1 1) rfl (.tmp 117) (.tmp 124) rfl Try.underlying22 infoU64 rfl rfl (HOS.out.alloc _) rfl (src_one rfl) (by simp [Value.oneCell']) (by unfold maxLen; omega) (by omega) (by have := HBE.out.size; simp; omega) ?_; intro u' w2 hap; have HAP := Lib.hid hap; clear hap)
              go_roundw
              case rel => exact ⟨k + 1, by go_num, hlt, by rw [HTS.out]; exact own_apd HAP.out, (HBE.out.alloc HBE.out.size _).trans (HAP.out.below (by have := HBE.out.size; simp; omega) (fun g hg => (OW.lt HOW.out hg).1))⟩
              case measure => exact mk_meas hlt
            · have hke : k = rs.length := Nat.le_antisymm hk (Nat.not_lt.1 hlt)
              have HKE := Lib.hid hke
              have hlz : ¬ (k : Int) < (rs.length : Int) := by omega
              have b0 := below_cell hbe HC.out.b0
              have b1 := below_cell hbe HC.out.b1
              have hlow : ∀ q, q < w3.heap.size → wr.heap[q]? = w3.heap[q]? := fun q hq => (hbe.block q (by omega)).trans (HC.out.bel.block q hq)
              have q0 := (World.cell?_of_block (a := ⟨w.heap.size + 1, 0, none⟩) (hlow _ (by dsimp only; omega))).trans HQQ.out.1
              have q1 := (World.cell?_of_block (a := ⟨w.heap.size + 1, 1, none⟩) (hlow _ (by dsimp only; omega))).trans HQQ.out.2
              have z0 : wr.frozen? ⟨w.heap.size + 1, 0, none⟩ = false := (World.frozen?_of_block (a := ⟨w.heap.size + 1, 0, none⟩) (hlow _ (by dsimp only; omega))).trans (HQF.out 0)
              have z1 : wr.frozen? ⟨w.heap.size + 1, 1, none⟩ = false := (World.frozen?_of_block (a := ⟨w.heap.size + 1, 1, none⟩) (hlow _ (by dsimp only; omega))).trans (HQF.out 1)
              rw [← frK_L] at b1
              clear how hbe hln
              go_wp2_with fail
              have zz := two_set (x0 := .slice (some ⟨w3.heap.size, 0, none⟩) ws.length ws.length) (x1 := .int .i64 ((frK l M (szN ws) l.length : Nat) : Int)) q0 q1
              obtain ⟨wF, hwF⟩ : ∃ wF, (wr.setCell ⟨w.heap.size + 1, 0, none⟩ (.slice (some ⟨w3.heap.size, 0, none⟩) ws.length ws.length)).setCell ⟨w.heap.size + 1, 1, none⟩ (.int .i64 ((frK l M (szN ws) l.length : Nat) : Int)) = wF := ⟨_, rfl⟩
              rw [hwF] at zz ⊢
              have hset : ∀ q, q ≠ w.heap.size + 1 → wF.heap[q]? = wr.heap[q]? := fun q hq => by
                rw [← hwF]
                exact (Below.heap_setCell _ _ _ q hq).trans (Below.heap_setCell _ _ _ q hq)
              obtain ⟨xs, hlu, hwo⟩ := HC.out.ow
              refine bodyPost_ret (v := .tuple #[.agg #[.slice (some ⟨w3.heap.size, 0, none⟩) ws.length ws.length, .int .i64 ((frK l M (szN ws) l.length : Nat) : Int)], .slice pl rs.length cl]) (by simp [results, Try.results19, go_sem, zz.1, zz.2]) rfl ?_
              refine ⟨w3.heap.size, M, xs, _, rfl, HM.out, hwo.co HO.out HN0.out, LR.block hlu ((hset _ (by omega)).trans (HBE.out.block _ (by omega))), ?_, ?_⟩
              · have ho := HOW.out
                rw [HKE.out, List.take_length, List.length_map] at ho
                exact OW.low (OW.block ho (fun g hg => hset g (by have := (OW.lt ho hg).1; omega))) (by omega)
              · rw [← hwF]
                exact (((HBD.out.trans (HBE.out.mono HBD.out.size))).setCell (by dsimp only; omega) _).setCell (by dsimp only; omega) _
end
end Go.Proofs.Ytfhjpgbnojdlkaa
