/- Layer 4: what stands behind a token's row does not count: plain lists. -/
import Derived.Test.YtcjomeghcihecaaDoorPLxPure
namespace Go.Proofs.YtcjomeghcihecaaDoor
set_option linter.unusedVariables false
set_option linter.unusedSimpArgs false
/-- Nothing, a line's end or a blank. -/
def Gap (b : Bs) : Prop := b = [] ∨ ∃ c r, b = c :: r ∧ (c = 10 ∨ c = 32)
/-- Nothing or a line's end. -/
def Nl (b : Bs) : Prop := b = [] ∨ ∃ r, b = 10 :: r
theorem Nl.gap {b : Bs} (h : Nl b) : Gap b := h.imp id fun ⟨r, e⟩ => ⟨10, r, e, .inl rfl⟩
theorem takeWhile_gap (p : UInt8 → Bool) (h1 : p 10 = false) (h2 : p 32 = false) : ∀ (a : Bs) {b : Bs}, Gap b → (a ++ b).takeWhile p = a.takeWhile p
  | [], b, hb => by
    rcases hb with rfl | ⟨c, r, rfl, rfl | rfl⟩
    · rfl
    · simp [List.takeWhile_cons, h1]
    · simp [List.takeWhile_cons, h2]
  | c :: a, b, hb => by
    simp only [List.cons_append, List.takeWhile_cons]
    rw [takeWhile_gap p h1 h2 a hb]
theorem digN_app (a : Bs) {b : Bs} (hb : Gap b) : digN (a ++ b) = digN a := by
  unfold digN; rw [takeWhile_gap isD (by decide) (by decide) a hb]
theorem namN_app (a : Bs) {b : Bs} (hb : Gap b) : namN (a ++ b) = namN a := by
  unfold namN; rw [takeWhile_gap isLD (by decide) (by decide) a hb]
theorem takeWhile_le (p : UInt8 → Bool) : ∀ l : Bs, (l.takeWhile p).length ≤ l.length
  | [] => Nat.le_refl _
  | c :: r => by
    rw [List.takeWhile_cons]
    split
    · exact Nat.succ_le_succ (takeWhile_le p r)
    · exact Nat.zero_le _
theorem digN_le (l : Bs) : digN l ≤ l.length := takeWhile_le _ _
theorem namN_le (l : Bs) : namN l ≤ l.length := takeWhile_le _ _
theorem idx_app {a b : Bs} (hb : Gap b) {k : Nat} (hk : k ≤ a.length) {c : UInt8} (h1 : c ≠ 10) (h2 : c ≠ 32) : (a ++ b)[k]? = some c ↔ a[k]? = some c := by
  by_cases h : k < a.length
  · rw [List.getElem?_append_left h]
  · have e : k = a.length := by omega
    subst e
    rw [List.getElem?_append_right (Nat.le_refl _), Nat.sub_self, List.getElem?_eq_none (Nat.le_refl _)]
    rcases hb with rfl | ⟨d, r, rfl, rfl | rfl⟩
    · simp
    · simp only [List.getElem?_cons_zero, Option.some.injEq]; exact ⟨fun h => absurd h.symm h1, fun h => by cases h⟩
    · simp only [List.getElem?_cons_zero, Option.some.injEq]; exact ⟨fun h => absurd h.symm h2, fun h => by cases h⟩
theorem idx_lt {a : Bs} {k : Nat} {c : UInt8} (h : a[k]? = some c) : k < a.length := (List.getElem?_eq_some_iff.1 h).1
theorem frE_app (a : Bs) {b : Bs} (hb : Gap b) : frE (a ++ b) = frE a := by
  unfold frE
  rw [digN_app a hb]
  have hi := idx_app hb (digN_le a) (c := 46) (by decide) (by decide)
  by_cases h : a[digN a]? = some 46
  · have hl := idx_lt h
    rw [List.drop_append_of_le_length (by omega), digN_app _ hb]
    simp only [hi, h]
  · rw [if_neg (fun hh => h (hi.1 hh.1)), if_neg (fun hh => h hh.1)]
theorem frE_le (a : Bs) : frE a ≤ a.length := by
  unfold frE
  have h1 := digN_le a
  split
  · rename_i h
    have hl := idx_lt h.1
    have := digN_le (a.drop (digN a + 1))
    rw [List.length_drop] at this
    omega
  · exact h1
theorem sgE_app (a : Bs) {b : Bs} (hb : Gap b) {k : Nat} (hk : k ≤ a.length) : sgE (a ++ b) k = sgE a k := by
  unfold sgE
  have h1 := idx_app hb hk (c := 43) (by decide) (by decide)
  have h2 := idx_app hb hk (c := 45) (by decide) (by decide)
  simp only [h1, h2]
theorem sgE_le {a : Bs} {k : Nat} (hk : k ≤ a.length) : k ≤ sgE a k ∧ sgE a k ≤ a.length := by
  unfold sgE
  split
  · rename_i h
    have : k < a.length := by rcases h with h | h <;> exact idx_lt h
    omega
  · omega
theorem exE_app (a : Bs) {b : Bs} (hb : Gap b) : exE (a ++ b) = exE a := by
  unfold exE
  rw [frE_app a hb]
  have hi := idx_app hb (frE_le a) (c := 101) (by decide) (by decide)
  by_cases h : a[frE a]? = some 101
  · have hl := idx_lt h
    rw [sgE_app a hb (by omega)]
    have h2 := (sgE_le (a := a) (k := frE a + 1) (by omega)).2
    rw [List.drop_append_of_le_length h2, digN_app _ hb]
    simp only [hi, h]
  · rw [if_neg (fun hh => h (hi.1 hh.1)), if_neg (fun hh => h hh.1)]
theorem exE_le (a : Bs) : exE a ≤ a.length := by
  unfold exE
  have h1 := frE_le a
  split
  · rename_i h
    have hl := idx_lt h.1
    have h2 := (sgE_le (a := a) (k := frE a + 1) (by omega)).2
    have := digN_le (a.drop (sgE a (frE a + 1)))
    rw [List.length_drop] at this
    omega
  · exact h1
theorem badC_app (a : Bs) {b : Bs} (hb : Gap b) {k : Nat} (hk : k ≤ a.length) : badC (a ++ b)[k]? = badC a[k]? := by
  by_cases h : k < a.length
  · rw [List.getElem?_append_left h]
  · have e : k = a.length := by omega
    subst e
    rw [List.getElem?_append_right (Nat.le_refl _), Nat.sub_self, List.getElem?_eq_none (Nat.le_refl _)]
    rcases hb with rfl | ⟨d, r, rfl, rfl | rfl⟩ <;> rfl
theorem numK_app (a : Bs) {b : Bs} (hb : Gap b) : numK (a ++ b) = numK a := by
  unfold numK; rw [exE_app a hb, digN_app a hb]
theorem numD_app (a : Bs) {b : Bs} (hb : Gap b) : numD (a ++ b) = numD a := by
  unfold numD numBad
  have h0 := idx_app hb (Nat.zero_le a.length) (c := 48) (by decide) (by decide)
  rw [numK_app a hb, exE_app a hb, badC_app a hb (exE_le a), List.take_append_of_le_length (exE_le a)]
  simp only [h0]
theorem strS_nl {q : UInt8} (hq : q ≠ 10) {b : Bs} (hb : Nl b) : ∀ (a : Bs) (st : StM), strS q st (a ++ b) = strS q st a
  | [], st => by
    rcases hb with rfl | ⟨r, rfl⟩
    · rfl
    · cases st with
      | plain => simp only [List.nil_append, strS]; rw [if_neg (Ne.symm hq), if_pos (by decide)]
      | esc => simp [strS, stC]
      | hex => simp [strS, hexV, isD]
      | hex2 h => simp [strS, hexV, isD]
  | c :: a, st => by
    have ih := strS_nl hq hb a
    cases st <;> simp only [List.cons_append, strS, ih]
theorem strD_nl {a b : Bs} (hb : Nl b) {q : UInt8} (hq : q ≠ 10) : strD (q :: a ++ b) = strD (q :: a) := by
  simp only [List.cons_append, strD, strS_nl hq hb]
theorem isPrefixOf_gap : ∀ (s a : Bs) {b : Bs}, Gap b → (10 : UInt8) ∉ s → (32 : UInt8) ∉ s → s.isPrefixOf (a ++ b) = s.isPrefixOf a
  | [], _, _, _, _, _ => by simp [List.isPrefixOf]
  | x :: s, [], b, hb, h1, h2 => by
    rcases hb with rfl | ⟨c, r, rfl, rfl | rfl⟩
    · rfl
    · simp only [List.nil_append, List.isPrefixOf]
      have : (x == 10) = false := by simpa using fun e => h1 (by simp [e])
      simp [this]
    · simp only [List.nil_append, List.isPrefixOf]
      have : (x == 32) = false := by simpa using fun e => h2 (by simp [e])
      simp [this]
  | x :: s, y :: a, b, hb, h1, h2 => by
    simp only [List.cons_append, List.isPrefixOf]
    rw [isPrefixOf_gap s a hb (fun h => h1 (List.mem_cons_of_mem _ h)) (fun h => h2 (List.mem_cons_of_mem _ h))]
theorem find_congr {α : Type} {p q : α → Bool} : ∀ {l : List α}, (∀ x ∈ l, p x = q x) → l.find? p = l.find? q
  | [], _ => rfl
  | x :: l, h => by
    simp only [List.find?_cons, h x (by simp)]
    rw [find_congr fun y hy => h y (List.mem_cons_of_mem _ hy)]
theorem syms_clean : ∀ s ∈ symsB, (10 : UInt8) ∉ s ∧ (32 : UInt8) ∉ s ∧ s ≠ [] := by decide
theorem symF_app (a : Bs) {b : Bs} (hb : Gap b) : symF (a ++ b) = symF a :=
  find_congr fun s hs => isPrefixOf_gap s a hb (syms_clean s hs).1 (syms_clean s hs).2.1
theorem symD_app (a : Bs) {b : Bs} (hb : Gap b) : symD (a ++ b) = symD a := by unfold symD; rw [symF_app a hb]
theorem namD_app (a : Bs) {b : Bs} (hb : Gap b) : namD (a ++ b) = namD a := by
  unfold namD
  rw [namN_app a hb, List.take_append_of_le_length (namN_le a)]
theorem tokD_nl (a : Bs) {b : Bs} (hb : Nl b) : tokD (a ++ b) = tokD a := by
  match a with
  | [] =>
    rcases hb with rfl | ⟨r, rfl⟩
    · rfl
    · show tokD (10 :: r) = none
      simp only [tokD]
      rw [if_neg (by decide), if_neg (by decide), if_neg (by decide)]
      show Option.map _ _ = none
      unfold symF
      rw [show (symsB.find? fun s => s.isPrefixOf (10 :: r)) = none from ?_]
      · rfl
      · rw [List.find?_eq_none]
        have h : ∀ s ∈ symsB, s.isPrefixOf [10] = false ∧ s.length = 1 ∨ ∃ x y, s = x :: y ∧ x ≠ 10 := by
          intro s hs
          obtain ⟨h1, _, h3⟩ := syms_clean s hs
          cases s with
          | nil => exact absurd rfl h3
          | cons x y => exact .inr ⟨x, y, rfl, fun e => h1 (by simp [e])⟩
        intro s hs
        rcases h s hs with ⟨_, _⟩ | ⟨x, y, rfl, hx⟩
        · obtain ⟨h1, _, h3⟩ := syms_clean s hs
          cases s with
          | nil => exact absurd rfl h3
          | cons x y =>
            have : (x == 10) = false := by simpa using fun e => h1 (by simp [e])
            simp [List.isPrefixOf, this]
        · have : (x == 10) = false := by simpa using hx
          simp [List.isPrefixOf, this]
  | c :: a =>
    have hg := hb.gap
    simp only [List.cons_append, tokD]
    rw [show c :: (a ++ b) = (c :: a) ++ b from rfl, namD_app _ hg, numD_app _ hg, symD_app _ hg]
    by_cases hq : c.toNat = 39 ∨ c.toNat = 34
    · rw [strD_nl hb (q := c) (fun e => by subst e; revert hq; decide)]
    · simp only [hq, if_false]
/-- The bytes up to the next line's end. -/
def rowOf (l : Bs) : Bs := l.takeWhile (· != 10)
theorem row_split (l : Bs) : ∃ b, l = rowOf l ++ b ∧ Nl b := by
  refine ⟨l.dropWhile (· != 10), (List.takeWhile_append_dropWhile ..).symm, ?_⟩
  induction l with
  | nil => exact .inl rfl
  | cons c r ih =>
    rw [List.dropWhile_cons]
    by_cases h : c = 10
    · subst h; exact .inr ⟨r, by simp⟩
    · rw [if_pos (by simpa using h)]; exact ih
theorem tokD_row (l : Bs) : tokD (rowOf l) = tokD l := by
  obtain ⟨b, e, hb⟩ := row_split l
  conv => rhs; rw [e]
  exact (tokD_nl _ hb).symm
/-- A row has no line's end. -/
def NoNl (a : Bs) : Prop := (10 : UInt8) ∉ a
theorem rowOf_app {a b : Bs} (ha : NoNl a) (hb : Nl b) : rowOf (a ++ b) = a := by
  unfold rowOf
  induction a with
  | nil => rcases hb with rfl | ⟨r, rfl⟩ <;> simp
  | cons c a ih =>
    have hc : c ≠ 10 := fun e => ha (by simp [e])
    rw [List.cons_append, List.takeWhile_cons, if_pos (by simpa using hc), ih fun h => ha (List.mem_cons_of_mem _ h)]
theorem rowOf_clean (l : Bs) : NoNl (rowOf l) := by
  intro h
  have := List.all_eq_true.1 (List.all_takeWhile (p := (· != (10 : UInt8))) (l := l)) 10 h
  simp at this
theorem NoNl.drop {a : Bs} (h : NoNl a) (n : Nat) : NoNl (a.drop n) := fun hh => h (List.mem_of_mem_drop hh)
theorem rowOf_drop (l : Bs) {n : Nat} (hn : n ≤ (rowOf l).length) : rowOf (l.drop n) = (rowOf l).drop n := by
  obtain ⟨b, e, hb⟩ := row_split l
  conv => lhs; rw [e]
  rw [List.drop_append_of_le_length hn, rowOf_app ((rowOf_clean l).drop n) hb]
/-- How many bytes of a list are blanks, and a comment. -/
def skN (l : Bs) : Nat := if (l.drop (blkN l)).head? = some 35 then (rowOf l).length else blkN l
theorem blk_drop : ∀ l : Bs, l.drop (blkN l) = l.dropWhile (· == 32)
  | [] => rfl
  | c :: r => by
    unfold blkN
    rw [List.takeWhile_cons, List.dropWhile_cons]
    by_cases h : c = 32
    · subst h
      have ih := blk_drop r
      unfold blkN at ih
      simpa using ih
    · rw [if_neg (by simpa using h), if_neg (by simpa using h)]; rfl
theorem blkN_row (l : Bs) : blkN (rowOf l) = blkN l := by
  obtain ⟨b, e, hb⟩ := row_split l
  conv => rhs; rw [e]
  unfold blkN
  induction rowOf l with
  | nil => rcases hb with rfl | ⟨r, rfl⟩ <;> simp
  | cons c a ih =>
    rw [List.cons_append, List.takeWhile_cons, List.takeWhile_cons]
    split
    · simp only [List.length_cons, ih]
    · rfl
theorem blkN_le (l : Bs) : blkN l ≤ l.length := takeWhile_le _ _
theorem skN_le (l : Bs) : skN l ≤ (rowOf l).length := by
  unfold skN
  split
  · exact Nat.le_refl _
  · rw [← blkN_row]; exact blkN_le _
theorem head_app {a b : Bs} (hb : Nl b) {c : UInt8} (hc : c ≠ 10) : (a ++ b).head? = some c ↔ a.head? = some c := by
  cases a with
  | nil =>
    rcases hb with rfl | ⟨r, rfl⟩
    · simp
    · simp only [List.nil_append, List.head?_cons, Option.some.injEq, List.head?_nil]
      exact ⟨fun h => absurd h.symm hc, fun h => by cases h⟩
  | cons x a => simp
theorem skip_row (l : Bs) : skipR (rowOf l) = rowOf (l.drop (skN l)) := by
  rw [rowOf_drop l (skN_le l)]
  unfold skipR skN
  rw [← blk_drop, blkN_row]
  obtain ⟨b, e, hb⟩ := row_split l
  have hle : blkN l ≤ (rowOf l).length := by rw [← blkN_row]; exact blkN_le _
  have hh : (l.drop (blkN l)).head? = some 35 ↔ ((rowOf l).drop (blkN l)).head? = some 35 := by
    have e2 : l.drop (blkN l) = (rowOf l).drop (blkN l) ++ b := by
      rw [← List.drop_append_of_le_length hle]; exact congrArg _ e
    rw [e2]
    exact head_app hb (by decide)
  by_cases h : ((rowOf l).drop (blkN l)).head? = some 35
  · rw [if_pos h, if_pos (hh.2 h), List.drop_eq_nil_of_le (Nat.le_refl _)]
  · rw [if_neg h, if_neg (fun x => h (hh.1 x))]
end Go.Proofs.YtcjomeghcihecaaDoor
