/- Layer 19: what an order keeps of the bases and the bases' orders; places in a list. -/
import Derived.Test.YtfddcmapjnkhhaaMPure2
namespace Go.Proofs.Ytfddcmapjnkhhaa
set_option linter.unusedVariables false
set_option linter.unusedSimpArgs false
def placeI (l : List Int) (x : Int) : Int := if x ∈ l then ((l.idxOf x : Nat) : Int) else -1
theorem idx_at : ∀ {l : List Int} {i : Nat} {x : Int}, i < l.length → l.getD i 0 = x → (∀ j, j < i → l.getD j 0 ≠ x) → l.idxOf x = i
  | [], i, x, h, _, _ => by simp at h
  | y :: r, 0, x, _, h, _ => by
    have e : y = x := by simpa using h
    subst e
    simp
  | y :: r, i + 1, x, h, hx, hno => by
    have h0 : y ≠ x := by have := hno 0 (by omega); simpa using this
    have ih := idx_at (l := r) (i := i) (x := x) (by simpa using h) (by simpa using hx) (fun j hj => by have := hno (j + 1) (by omega); simpa using this)
    rw [List.idxOf_cons]
    have hb : (y == x) = false := by simpa using h0
    rw [hb]
    simp [ih]
theorem place_at {l : List Int} {i : Nat} {x : Int} (hi : i < l.length) (hx : l.getD i 0 = x) (hno : ∀ j, j < i → l.getD j 0 ≠ x) : placeI l x = i := by
  unfold placeI
  rw [if_pos (by rw [← hx, List.getD_eq_getElem?_getD, List.getElem?_eq_getElem hi]; exact List.getElem_mem hi), idx_at hi hx hno]
theorem place_no {l : List Int} {x : Int} (hno : ∀ j, j < l.length → l.getD j 0 ≠ x) : placeI l x = -1 := by
  unfold placeI
  rw [if_neg]
  intro h
  obtain ⟨i, hi, e⟩ := List.mem_iff_getElem.1 h
  refine hno i hi ?_
  rw [List.getD_eq_getElem?_getD, List.getElem?_eq_getElem hi]
  exact e
theorem place_mem {l : List Int} {x : Int} (h : x ∈ l) : 0 ≤ placeI l x := by
  unfold placeI; rw [if_pos h]; omega
theorem getD_mem {l : List Int} {i : Nat} (hi : i < l.length) : l.getD i 0 ∈ l := by
  rw [List.getD_eq_getElem?_getD, List.getElem?_eq_getElem hi]; exact List.getElem_mem hi
theorem idx_cons_ne {y x : Int} {r : List Int} (h : y ≠ x) : (y :: r).idxOf x = r.idxOf x + 1 := by
  rw [List.idxOf_cons]
  have hb : (y == x) = false := by simpa using h
  rw [hb]; rfl
theorem ne_nm {a x : Int} {r : List Int} (h : ¬ a ∈ r) (hx : x ∈ r) : a ≠ x := fun e => h (by rw [e]; exact hx)
theorem sub_idx : ∀ {l o : List Int}, l.Sublist o → o.Nodup → ∀ i, i + 1 < l.length → o.idxOf (l.getD i 0) < o.idxOf (l.getD (i + 1) 0)
  | _, _, .slnil, _, i, h => by simp at h
  | l, _, .cons (l₂ := r) a hs, hn, i, h => by
    obtain ⟨h1, h2⟩ := List.nodup_cons.1 hn
    have m1 : l.getD i 0 ∈ r := hs.subset (getD_mem (by omega))
    have m2 : l.getD (i + 1) 0 ∈ r := hs.subset (getD_mem h)
    rw [idx_cons_ne (ne_nm h1 m1), idx_cons_ne (ne_nm h1 m2)]
    have := sub_idx hs h2 i h
    omega
  | _, _, .cons_cons (l₁ := l) (l₂ := r) a hs, hn, 0, h => by
    obtain ⟨h1, h2⟩ := List.nodup_cons.1 hn
    have m2 : l.getD 0 0 ∈ r := hs.subset (getD_mem (by simpa using h))
    have e1 : (a :: l).getD 0 0 = a := rfl
    have e2 : (a :: l).getD (0 + 1) 0 = l.getD 0 0 := by simp
    rw [e1, e2, idx_cons_ne (ne_nm h1 m2)]
    simp
  | _, _, .cons_cons (l₁ := l) (l₂ := r) a hs, hn, i + 1, h => by
    obtain ⟨h1, h2⟩ := List.nodup_cons.1 hn
    have hl : i + 1 < l.length := by simpa using h
    have m1 : l.getD i 0 ∈ r := hs.subset (getD_mem (by omega))
    have m2 : l.getD (i + 1) 0 ∈ r := hs.subset (getD_mem hl)
    have e1 : (a :: l).getD (i + 1) 0 = l.getD i 0 := by simp
    have e2 : (a :: l).getD (i + 1 + 1) 0 = l.getD (i + 1) 0 := by simp
    rw [e1, e2, idx_cons_ne (ne_nm h1 m1), idx_cons_ne (ne_nm h1 m2)]
    have := sub_idx hs h2 i hl
    omega
/-- The place ahead of the i-th: -1, or that of the one before it. -/
def atI (o l : List Int) : Nat → Int
  | 0 => -1
  | i + 1 => placeI o (l.getD i 0)
theorem at_lt {l o : List Int} (hs : l.Sublist o) (hn : o.Nodup) {i : Nat} (hi : i < l.length) : atI o l i < placeI o (l.getD i 0) := by
  have h0 := place_mem (hs.subset (getD_mem hi))
  cases i with
  | zero => simp only [atI]; omega
  | succ i =>
    have := sub_idx hs hn i hi
    simp only [atI]
    unfold placeI
    rw [if_pos (hs.subset (getD_mem (by omega))), if_pos (hs.subset (getD_mem hi))]
    omega
structure OrdCl (bases : List (List Int)) (c : Int) (l : List Int) : Prop where
  src : ∀ x ∈ l, x = c ∨ ∃ y ∈ l, x ∈ bases.getD y.toNat []
  sub : ∀ y ∈ l, (bases.getD y.toNat []).Sublist l
  ords : ∀ y ∈ l, ∀ b ∈ bases.getD y.toNat [], ∃ o, ord bases b = some o ∧ o.Sublist l
theorem ord_cl {bases : List (List Int)} (hf : FitP bases) : ∀ (n : Nat) (c : Int) (l : List Int), 0 ≤ c → c.toNat = n → ord bases c = some l → OrdCl bases c l := by
  intro n
  induction n using Nat.strongRecOn with
  | _ n ih =>
    intro c l hc hn h
    have hfa := hf.at c.toNat
    rw [ord_next hf hc] at h
    obtain ⟨ls, hls, ha, rfl⟩ := nextO_some h
    have hsub := merge_sub ha
    have hlist : ∀ o ∈ ls, ∃ b ∈ bases.getD c.toNat [], ord bases b = some o := by
      intro o ho
      have : some o ∈ (bases.getD c.toNat []).map (ord bases) := by rw [hls]; exact List.mem_map.2 ⟨o, ho, rfl⟩
      obtain ⟨b, hb, e⟩ := List.mem_map.1 this
      exact ⟨b, hb, e⟩
    have hbase : ∀ b ∈ bases.getD c.toNat [], ∃ o ∈ ls, ord bases b = some o := by
      intro b hb
      have : ord bases b ∈ ls.map some := by rw [← hls]; exact List.mem_map.2 ⟨b, hb, rfl⟩
      obtain ⟨o, ho, e⟩ := List.mem_map.1 this
      exact ⟨o, ho, e.symm⟩
    have hcl : ∀ o ∈ ls, ∃ b ∈ bases.getD c.toNat [], OrdCl bases b o := by
      intro o ho
      obtain ⟨b, hb, e⟩ := hlist o ho
      have hb2 := hfa.1 b hb
      exact ⟨b, hb, ih b.toNat (by omega) b o hb2.1 rfl e⟩
    have hsl : ∀ o ∈ ls, o.Sublist (c :: (mergeL (ls ++ [bases.getD c.toNat []])).1) := fun o ho => (hsub o (List.mem_append.2 (.inl ho))).cons _
    have hbl : (bases.getD c.toNat []).Sublist (c :: (mergeL (ls ++ [bases.getD c.toNat []])).1) := (hsub _ (List.mem_append.2 (.inr (by simp)))).cons _
    have hin : ∀ x ∈ (mergeL (ls ++ [bases.getD c.toNat []])).1, ∃ o ∈ ls, x ∈ o := by
      intro x hx
      obtain ⟨l', hl', hx'⟩ := merge_from x hx
      rcases List.mem_append.1 hl' with hl' | hl'
      · exact ⟨l', hl', hx'⟩
      · simp only [List.mem_singleton] at hl'
        subst hl'
        obtain ⟨o, ho, e⟩ := hbase x hx'
        have hb2 := hfa.1 x hx'
        obtain ⟨r, hr⟩ := (ord_ok hf x.toNat x o hb2.1 rfl e).head
        exact ⟨o, ho, by rw [hr]; simp⟩
    refine ⟨fun x hx => ?_, fun y hy => ?_, fun y hy b hb => ?_⟩
    · rcases List.mem_cons.1 hx with rfl | hx
      · exact .inl rfl
      · obtain ⟨o, ho, hxo⟩ := hin x hx
        obtain ⟨b, hb, hcl⟩ := hcl o ho
        rcases hcl.src x hxo with rfl | ⟨y, hy, hxy⟩
        · exact .inr ⟨c, by simp, hb⟩
        · exact .inr ⟨y, (hsl o ho).subset hy, hxy⟩
    · rcases List.mem_cons.1 hy with rfl | hy
      · exact hbl
      · obtain ⟨o, ho, hyo⟩ := hin y hy
        obtain ⟨b, hb, hcl⟩ := hcl o ho
        exact (hcl.sub y hyo).trans (hsl o ho)
    · rcases List.mem_cons.1 hy with rfl | hy
      · obtain ⟨o, ho, e⟩ := hbase b hb
        exact ⟨o, e, hsl o ho⟩
      · obtain ⟨o, ho, hyo⟩ := hin y hy
        obtain ⟨b', hb', hcl⟩ := hcl o ho
        obtain ⟨o', e, hs⟩ := hcl.ords y hyo b hb
        exact ⟨o', e, hs.trans (hsl o ho)⟩
theorem sub_len : ∀ {a b : List Int}, a.Nodup → (∀ x ∈ a, x ∈ b) → a.length ≤ b.length
  | [], _, _, _ => Nat.zero_le _
  | x :: r, b, hn, h => by
    obtain ⟨h1, h2⟩ := List.nodup_cons.1 hn
    have hx := h x (by simp)
    have := sub_len (a := r) (b := b.erase x) h2 fun y hy => (List.mem_erase_of_ne (fun e => h1 (by rw [← e]; exact hy))).2 (h y (List.mem_cons_of_mem _ hy))
    rw [List.length_erase_of_mem hx] at this
    have hp := List.length_pos_of_mem hx
    simp only [List.length_cons]
    omega
theorem nodup_eq_len {a b : List Int} (ha : a.Nodup) (hb : b.Nodup) (hab : ∀ x ∈ a, x ∈ b) (hba : ∀ x ∈ b, x ∈ a) : a.length = b.length :=
  Nat.le_antisymm (sub_len ha hab) (sub_len hb hba)
/-- What has been come to, when the classes above k have been looked at. -/
structure ComeI (bases : List (List Int)) (c : Int) (l m : List Int) (k : Int) : Prop where
  nodup : m.Nodup
  sub : ∀ x ∈ m, x ∈ l
  all : ∀ x ∈ l, (x = c ∨ ∃ y ∈ l, k < y ∧ x ∈ bases.getD y.toNat []) → x ∈ m
structure ComeJ (bases : List (List Int)) (c : Int) (l m : List Int) (k : Int) (i : Nat) : Prop where
  come : ComeI bases c l m k
  row : ∀ x ∈ (bases.getD k.toNat []).take i, x ∈ m
theorem ComeI.start {bases : List (List Int)} {c : Int} {l : List Int} (h : OrdOk c l) : ComeI bases c l [c] c :=
  ⟨by simp, fun x hx => by
    obtain ⟨r, hr⟩ := h.head
    simp only [List.mem_singleton] at hx
    subst hx
    rw [hr]; simp, fun x hx hy => by
    rcases hy with rfl | ⟨y, hy, hlt, _⟩
    · simp
    · have := h.lo y hy; omega⟩
theorem ComeI.has {bases : List (List Int)} {c : Int} {l m : List Int} {k : Int} (h : ComeI bases c l m k) (hf : FitP bases) (hok : OrdOk c l) (hcl : OrdCl bases c l) (hk : k ∈ l) : k ∈ m := by
  refine h.all k hk ?_
  rcases hcl.src k hk with e | ⟨y, hy, hky⟩
  · exact .inl e
  · refine .inr ⟨y, hy, ?_, hky⟩
    have h1 := (hf.at y.toNat).1 k hky
    have h2 := hok.lo y hy
    omega
theorem ComeI.skip {bases : List (List Int)} {c : Int} {l m : List Int} {k : Int} (h : ComeI bases c l m k) (hf : FitP bases) (hok : OrdOk c l) (hcl : OrdCl bases c l) (hk : ¬ k ∈ m) : ComeI bases c l m (k - 1) :=
  ⟨h.nodup, h.sub, fun x hx hy => by
    rcases hy with e | ⟨y, hy, hlt, hxy⟩
    · exact h.all x hx (.inl e)
    · by_cases e : y = k
      · subst e; exact absurd (h.has hf hok hcl hy) hk
      · exact h.all x hx (.inr ⟨y, hy, by omega, hxy⟩)⟩
theorem ComeJ.start {bases : List (List Int)} {c : Int} {l m : List Int} {k : Int} (h : ComeI bases c l m k) : ComeJ bases c l m k 0 := ⟨h, fun x hx => by simp at hx⟩
theorem take_snocM {l : List Int} {i : Nat} {x : Int} (hi : i < l.length) (hx : x ∈ l.take (i + 1)) : x ∈ l.take i ∨ x = l.getD i 0 := by
  rw [List.take_succ_eq_append_getElem hi] at hx
  rcases List.mem_append.1 hx with h | h
  · exact .inl h
  · right
    simp only [List.mem_singleton] at h
    rw [h, List.getD_eq_getElem?_getD, List.getElem?_eq_getElem hi]; rfl
theorem ComeJ.old {bases : List (List Int)} {c : Int} {l m : List Int} {k : Int} {i : Nat} (h : ComeJ bases c l m k i) (hi : i < (bases.getD k.toNat []).length) {b : Int} (hb : (bases.getD k.toNat []).getD i 0 = b) (hm : b ∈ m) : ComeJ bases c l m k (i + 1) :=
  ⟨h.come, fun x hx => by
    rcases take_snocM hi hx with hx | rfl
    · exact h.row x hx
    · rw [hb]; exact hm⟩
theorem ComeJ.new {bases : List (List Int)} {c : Int} {l m : List Int} {k : Int} {i : Nat} (h : ComeJ bases c l m k i) (hi : i < (bases.getD k.toNat []).length) {b : Int} (hb : (bases.getD k.toNat []).getD i 0 = b) (hm : ¬ b ∈ m) (hl : b ∈ l) : ComeJ bases c l (b :: m) k (i + 1) :=
  ⟨⟨List.nodup_cons.2 ⟨hm, h.come.nodup⟩, fun x hx => by
      rcases List.mem_cons.1 hx with rfl | hx
      · exact hl
      · exact h.come.sub x hx, fun x hx hy => List.mem_cons_of_mem _ (h.come.all x hx hy)⟩, fun x hx => by
    rcases take_snocM hi hx with hx | rfl
    · exact List.mem_cons_of_mem _ (h.row x hx)
    · rw [hb]; simp⟩
theorem ComeJ.done {bases : List (List Int)} {c : Int} {l m : List Int} {k : Int} {i : Nat} (h : ComeJ bases c l m k i) (hi : i = (bases.getD k.toNat []).length) (h0 : 0 ≤ k) : ComeI bases c l m (k - 1) :=
  ⟨h.come.nodup, h.come.sub, fun x hx hy => by
    rcases hy with e | ⟨y, hy, hlt, hxy⟩
    · exact h.come.all x hx (.inl e)
    · by_cases e : y = k
      · subst e
        refine h.row x ?_
        rw [hi, List.take_length]
        exact hxy
      · exact h.come.all x hx (.inr ⟨y, hy, by omega, hxy⟩)⟩
theorem ComeI.fin {bases : List (List Int)} {c : Int} {l m : List Int} (h : ComeI bases c l m (-1)) (hok : OrdOk c l) (hcl : OrdCl bases c l) : m.length = l.length := by
  refine nodup_eq_len h.nodup hok.nodup h.sub fun x hx => h.all x hx ?_
  rcases hcl.src x hx with e | ⟨y, hy, hxy⟩
  · exact .inl e
  · exact .inr ⟨y, hy, by have := hok.lo y hy; omega, hxy⟩
end Go.Proofs.Ytfddcmapjnkhhaa
