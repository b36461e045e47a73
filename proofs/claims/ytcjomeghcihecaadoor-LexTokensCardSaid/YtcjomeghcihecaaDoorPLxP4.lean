/- Layer 4: tokens written out and read again: plain lists. -/
import Derived.Test.YtcjomeghcihecaaDoorPLxP3
namespace Go.Proofs.YtcjomeghcihecaaDoor
set_option linter.unusedVariables false
set_option linter.unusedSimpArgs false
def stT (t : Tk) : Int × Bs := (t.kind, t.text)
/-- May a string's bytes be written as they are? -/
def rawOk (s : Bs) : Bool := s.all fun c => !(decide (c.toNat < 32) || decide (c.toNat = 34) || decide (c.toNat = 92))
def showT (t : Tk) : Bs := if t.kind = 7 then 34 :: (t.text ++ [34]) else t.text
/-- Tokens written out. -/
def wr (deep : Int) (beg : Bool) : List Tk → Option Bs
  | [] => none
  | t :: r => if t.kind = 2 then wr (deep + 1) beg r else if t.kind = 3 then wr (deep - 1) beg r else if t.kind = 1 then (wr deep true r).map (10 :: ·) else if t.kind = 0 then (if beg then some [] else none)
    else if t.kind = 7 ∧ rawOk t.text = false then none else (wr deep false r).map fun x => (if beg then List.replicate (4 * deep).toNat 32 else []) ++ showT t ++ 32 :: x
/-! A token written and a blank: that token. -/
theorem takeWhile_take (p : UInt8 → Bool) : ∀ (l : Bs) (n : Nat), (l.take n).takeWhile p = (l.takeWhile p).take n
  | [], n => by simp
  | c :: r, 0 => by simp
  | c :: r, n + 1 => by
    simp only [List.take_succ_cons, List.takeWhile_cons]
    split
    · rw [takeWhile_take p r n, List.take_succ_cons]
    · rfl
theorem digN_take (l : Bs) (n : Nat) : digN (l.take n) = min n (digN l) := by
  unfold digN; rw [takeWhile_take, List.length_take]
theorem digN_frE (l : Bs) : digN l ≤ frE l := by unfold frE; split <;> omega
theorem frE_exE (l : Bs) : frE l ≤ exE l := by
  unfold exE
  split
  · rename_i h
    have := (sgE_le (a := l) (k := frE l + 1) (by have := idx_lt h.1; omega)).1
    omega
  · omega
theorem take_idx {l : Bs} {n k : Nat} {c : UInt8} : (l.take n)[k]? = some c ↔ k < n ∧ l[k]? = some c := by
  rw [List.getElem?_take]
  by_cases h : k < n <;> simp [h]
theorem frE_take {l : Bs} {e : Nat} (h : frE l ≤ e) : frE (l.take e) = frE l := by
  have hd := digN_frE l
  have hn : digN (l.take e) = digN l := by rw [digN_take]; omega
  unfold frE at h hd ⊢
  rw [hn]
  by_cases hc : l[digN l]? = some 46 ∧ 0 < digN (l.drop (digN l + 1))
  · rw [if_pos hc] at h ⊢
    have e2 : digN ((l.take e).drop (digN l + 1)) = digN (l.drop (digN l + 1)) := by
      rw [List.drop_take, digN_take]; omega
    rw [e2, if_pos ⟨take_idx.2 ⟨by omega, hc.1⟩, hc.2⟩]
  · rw [if_neg hc, if_neg]
    rintro ⟨h1, h2⟩
    refine hc ⟨(take_idx.1 h1).2, ?_⟩
    rw [List.drop_take, digN_take] at h2
    omega
theorem exE_take (l : Bs) : exE (l.take (exE l)) = exE l := by
  have hf := frE_exE l
  have h1 := frE_take hf
  have hex : exE l = (if l[frE l]? = some 101 ∧ 0 < digN (l.drop (sgE l (frE l + 1))) then sgE l (frE l + 1) + digN (l.drop (sgE l (frE l + 1))) else frE l) := rfl
  have hex2 : exE (l.take (exE l)) = (if (l.take (exE l))[frE (l.take (exE l))]? = some 101 ∧ 0 < digN ((l.take (exE l)).drop (sgE (l.take (exE l)) (frE (l.take (exE l)) + 1))) then sgE (l.take (exE l)) (frE (l.take (exE l)) + 1) + digN ((l.take (exE l)).drop (sgE (l.take (exE l)) (frE (l.take (exE l)) + 1))) else frE (l.take (exE l))) := rfl
  rw [hex2, h1]
  by_cases hc : l[frE l]? = some 101 ∧ 0 < digN (l.drop (sgE l (frE l + 1)))
  · rw [if_pos hc] at hex
    have hl := (sgE_le (a := l) (k := frE l + 1) (by have := idx_lt hc.1; omega)).1
    have e1 : sgE (l.take (exE l)) (frE l + 1) = sgE l (frE l + 1) := by
      unfold sgE at hl hex ⊢
      have hlt : frE l + 1 < exE l := by
        have := hc.2
        unfold sgE at this
        omega
      simp only [take_idx, hlt, true_and]
    rw [e1]
    have e2 : digN ((l.take (exE l)).drop (sgE l (frE l + 1))) = digN (l.drop (sgE l (frE l + 1))) := by
      rw [List.drop_take, digN_take]; omega
    rw [e2, if_pos ⟨take_idx.2 ⟨by omega, hc.1⟩, hc.2⟩]
    exact hex.symm
  · rw [if_neg hc] at hex
    rw [if_neg]
    · exact hex.symm
    · rintro ⟨h2, _⟩
      have := (take_idx.1 h2).1
      omega
theorem numD_take {l : Bs} {p : Pc} (h : numD l = some p) (h1 : 0 < digN l) : p.2.1 = l.take p.2.2 ∧ p.2.2 = exE l ∧ numD (l.take (exE l)) = some p := by
  unfold numD at h
  split at h
  · cases h
  · rename_i hb
    simp only [Option.some.injEq] at h
    subst h
    refine ⟨rfl, rfl, ?_⟩
    have he := exE_take l
    have hge : digN l ≤ exE l := Nat.le_trans (digN_frE l) (frE_exE l)
    have hle := exE_le l
    have hk : numK (l.take (exE l)) = numK l := by unfold numK; rw [he, digN_take]; rw [Nat.min_eq_right hge]
    have hb2 : numBad (l.take (exE l)) = false := by
      unfold numBad at hb ⊢
      rw [he, hk]
      have h3 : (l.take (exE l))[exE l]? = none := List.getElem?_eq_none (by rw [List.length_take]; omega)
      have h4 : ((l.take (exE l))[0]? = some 48) = (l[0]? = some 48) := by rw [take_idx]; exact propext ⟨fun h => h.2, fun h => ⟨by omega, h⟩⟩
      rw [h3]
      simp only [h4]
      simp only [Bool.or_eq_true, not_or, Bool.not_eq_true] at hb
      simp only [hb.1.1, hb.1.2, badC, Bool.or_false]
    unfold numD
    rw [hb2, he, hk, List.take_take, Nat.min_self]
    rfl
theorem strS_raw : ∀ (s : Bs), rawOk s = true → ∀ x, strS 34 .plain (s ++ 34 :: x) = some (s, s.length + 1)
  | [], _, x => by simp [strS]
  | c :: s, h, x => by
    simp only [rawOk, List.all_cons, Bool.and_eq_true] at h
    have h1 := h.1
    simp only [Bool.not_eq_true', Bool.or_eq_false_iff, decide_eq_false_iff_not] at h1
    have hc : c ≠ 34 := fun e => h1.1.2 (by rw [e]; rfl)
    have ih := strS_raw s h.2 x
    simp only [List.cons_append, strS, if_neg hc, if_neg h1.1.1, if_neg h1.2, ih, Option.map_some, List.length_cons]
theorem namN_head {c : UInt8} {r : Bs} (h : isL c = true) : namN (c :: r) = namN r + 1 := by
  unfold namN
  rw [List.takeWhile_cons, if_pos (by unfold isLD; rw [h]; rfl)]
  rfl
theorem digN_head {c : UInt8} {r : Bs} (h : isD c = true) : digN (c :: r) = digN r + 1 := by
  unfold digN
  rw [List.takeWhile_cons, if_pos h]
  rfl
theorem namN_take (l : Bs) : namN (l.take (namN l)) = namN l := by
  unfold namN
  rw [takeWhile_take, List.length_take]
  omega
theorem syms_self : ∀ s ∈ symsB, symF s = some s := by decide
theorem syms_head : ∀ s ∈ symsB, ∃ c r, s = c :: r ∧ isL c = false ∧ isD c = false ∧ ¬ (c.toNat = 39 ∨ c.toNat = 34) := by
  have h1 : ∀ s ∈ symsB, isL (s.headD 0) = false := by decide
  have h2 : ∀ s ∈ symsB, isD (s.headD 0) = false := by decide
  have h3 : ∀ s ∈ symsB, ¬ ((s.headD 0).toNat = 39 ∨ (s.headD 0).toNat = 34) := by decide
  intro s hs
  have g1 := h1 s hs
  have g2 := h2 s hs
  have g3 := h3 s hs
  cases s with
  | nil => exact absurd rfl (syms_clean _ hs).2.2
  | cons c r => exact ⟨c, r, rfl, g1, g2, g3⟩
theorem symF_mem {l s : Bs} (h : symF l = some s) : s ∈ symsB ∧ s.isPrefixOf l = true := ⟨List.mem_of_find?_eq_some h, by have := List.find?_some h; exact this⟩
/-- What a token's text is, and that it is read again. -/
theorem tok_again {l : Bs} {p : Pc} (h : tokD l = some p) (hr : p.1 = 7 → rawOk p.2.1 = true) (ln : Int) (b : Bs) :
    tokD (showT ⟨p.1, ln, p.2.1⟩ ++ 32 :: b) = some (p.1, p.2.1, (showT ⟨p.1, ln, p.2.1⟩).length) := by
  have hg : Gap (32 :: b) := .inr ⟨32, b, rfl, .inr rfl⟩
  cases l with
  | nil => cases h
  | cons c r =>
    simp only [tokD] at h
    by_cases hl : isL c = true
    · rw [if_pos hl] at h
      simp only [Option.some.injEq] at h
      subst h
      have hk : (namD (c :: r)).1 ≠ 7 := by simp only [namD, namK]; split <;> omega
      have hs : showT ⟨(namD (c :: r)).1, ln, (namD (c :: r)).2.1⟩ = (c :: r).take (namN (c :: r)) := by unfold showT; rw [if_neg hk]; rfl
      rw [hs]
      have hn := namN_take (c :: r)
      have hle := namN_le (c :: r)
      have e : (c :: r).take (namN (c :: r)) = c :: r.take (namN r) := by rw [namN_head hl, List.take_succ_cons]
      have h1 : tokD ((c :: r).take (namN (c :: r)) ++ 32 :: b) = some (namD ((c :: r).take (namN (c :: r)) ++ 32 :: b)) := by rw [e]; simp only [List.cons_append, tokD, hl, if_true]
      rw [h1, namD_app _ hg]
      unfold namD
      rw [hn, List.take_take, Nat.min_self, List.length_take, Nat.min_eq_left hle]
    · rw [if_neg hl] at h
      by_cases hd : isD c = true
      · rw [if_pos hd] at h
        obtain ⟨h1, h2, h3⟩ := numD_take h (by rw [digN_head hd]; omega)
        have hk : p.1 ≠ 7 := by
          unfold numD at h
          split at h
          · cases h
          · simp only [Option.some.injEq] at h; subst h; simp only [numK]; split <;> omega
        have hs : showT ⟨p.1, ln, p.2.1⟩ = (c :: r).take (exE (c :: r)) := by unfold showT; rw [if_neg hk, h1, h2]
        rw [hs]
        have hle := exE_le (c :: r)
        have hge : digN (c :: r) ≤ exE (c :: r) := Nat.le_trans (digN_frE _) (frE_exE _)
        have h0 := digN_head (r := r) hd
        obtain ⟨k, hk1⟩ : ∃ k, exE (c :: r) = k + 1 := ⟨exE (c :: r) - 1, by omega⟩
        have e : (c :: r).take (exE (c :: r)) = c :: r.take k := by rw [hk1, List.take_succ_cons]
        have h4 : tokD ((c :: r).take (exE (c :: r)) ++ 32 :: b) = numD ((c :: r).take (exE (c :: r)) ++ 32 :: b) := by
          rw [e]; simp only [List.cons_append, tokD]; rw [if_neg hl, if_pos hd]
        rw [h4, numD_app _ hg, h3, List.length_take, Nat.min_eq_left hle, ← h2]
      · rw [if_neg hd] at h
        by_cases hq : c.toNat = 39 ∨ c.toNat = 34
        · rw [if_pos hq] at h
          simp only [strD, Option.map_eq_some_iff] at h
          obtain ⟨a, _, rfl⟩ := h
          have hraw := strS_raw a.1 (hr rfl) (32 :: b)
          have hs : showT ⟨7, ln, a.1⟩ = 34 :: (a.1 ++ [34]) := rfl
          simp only
          rw [hs]
          simp only [List.cons_append, List.append_assoc, List.nil_append, tokD]
          rw [if_neg (by decide), if_neg (by decide), if_pos (by decide)]
          simp only [strD, hraw, Option.map_some, List.length_cons, List.length_append, List.length_nil]
        · rw [if_neg hq] at h
          simp only [symD, Option.map_eq_some_iff] at h
          obtain ⟨s, hs, rfl⟩ := h
          obtain ⟨hm, _⟩ := symF_mem hs
          obtain ⟨c1, r1, rfl, h1, h2, h3⟩ := syms_head s hm
          have hsh : showT ⟨9, ln, c1 :: r1⟩ = c1 :: r1 := rfl
          simp only
          rw [hsh]
          simp only [List.cons_append, tokD]
          rw [if_neg (by simp [h1]), if_neg (by simp [h2]), if_neg h3, show c1 :: (r1 ++ 32 :: b) = (c1 :: r1) ++ 32 :: b from rfl, symD_app _ hg]
          unfold symD
          rw [syms_self _ hm]
          rfl
/-- A token's text within its row: it has no line's end, and begins with neither blank nor comment. -/
theorem tok_clean {l : Bs} (hl : NoNl l) {p : Pc} (h : tokD l = some p) (hr : p.1 = 7 → rawOk p.2.1 = true) (ln : Int) :
    NoNl (showT ⟨p.1, ln, p.2.1⟩) ∧ ∃ c r, showT ⟨p.1, ln, p.2.1⟩ = c :: r ∧ c ≠ 32 ∧ c ≠ 35 := by
  have key : ∀ n : Nat, ∀ c r, l = c :: r → p.2.1 = l.take (n + 1) → p.1 ≠ 7 → c ≠ 32 → c ≠ 35 → NoNl (showT ⟨p.1, ln, p.2.1⟩) ∧ ∃ c r, showT ⟨p.1, ln, p.2.1⟩ = c :: r ∧ c ≠ 32 ∧ c ≠ 35 := by
    intro n c r e1 e2 h7 h1 h2
    have hs : showT ⟨p.1, ln, p.2.1⟩ = l.take (n + 1) := by unfold showT; rw [if_neg h7]; exact e2
    rw [hs]
    exact ⟨fun hh => hl (List.mem_of_mem_take hh), c, r.take n, by rw [e1, List.take_succ_cons], h1, h2⟩
  cases l with
  | nil => cases h
  | cons c r =>
    simp only [tokD] at h
    by_cases hL : isL c = true
    · rw [if_pos hL] at h
      simp only [Option.some.injEq] at h
      subst h
      refine key (namN r) c r rfl (by simp only [namD]; rw [namN_head hL]) (by simp only [namD, namK]; split <;> omega) ?_ ?_ <;> (intro e; subst e; revert hL; decide)
    · rw [if_neg hL] at h
      by_cases hd : isD c = true
      · rw [if_pos hd] at h
        obtain ⟨h1, h2, _⟩ := numD_take h (by rw [digN_head hd]; omega)
        have hge : digN (c :: r) ≤ exE (c :: r) := Nat.le_trans (digN_frE _) (frE_exE _)
        have h0 := digN_head (r := r) hd
        have hk : p.1 ≠ 7 := by
          unfold numD at h
          split at h
          · cases h
          · simp only [Option.some.injEq] at h; subst h; simp only [numK]; split <;> omega
        refine key (exE (c :: r) - 1) c r rfl (by rw [h1, h2]; congr 1; omega) hk ?_ ?_ <;> (intro e; subst e; revert hd; decide)
      · rw [if_neg hd] at h
        by_cases hq : c.toNat = 39 ∨ c.toNat = 34
        · rw [if_pos hq] at h
          simp only [strD, Option.map_eq_some_iff] at h
          obtain ⟨a, _, rfl⟩ := h
          have hraw := hr rfl
          refine ⟨fun hh => ?_, 34, a.1 ++ [34], rfl, by decide, by decide⟩
          have hh' : (10 : UInt8) ∈ 34 :: (a.1 ++ [34]) := hh
          simp only [List.mem_cons, List.mem_append] at hh'
          rcases hh' with h1 | h1 | h1 | h1
          · exact absurd h1 (by decide)
          · have := List.all_eq_true.1 hraw 10 h1
            revert this; decide
          · exact absurd h1 (by decide)
          · exact absurd h1 (by simp)
        · rw [if_neg hq] at h
          simp only [symD, Option.map_eq_some_iff] at h
          obtain ⟨s, hs, rfl⟩ := h
          obtain ⟨hm, _⟩ := symF_mem hs
          have hc := syms_clean s hm
          refine ⟨hc.1, ?_⟩
          have h35 : ∀ s ∈ symsB, (35 : UInt8) ∉ s := by decide
          cases s with
          | nil => exact absurd rfl hc.2.2
          | cons x y => exact ⟨x, y, rfl, fun e => hc.2.1 (by simp [e]), fun e => h35 _ hm (by simp [e])⟩
theorem skip_self {l : Bs} {c : UInt8} {r : Bs} (e : l = c :: r) (h1 : c ≠ 32) (h2 : c ≠ 35) : skipR l = l := by
  subst e
  have e1 : List.dropWhile (fun x => x == (32 : UInt8)) (c :: r) = c :: r := by rw [List.dropWhile_cons]; simp [h1]
  unfold skipR
  rw [e1]
  simp [h2]
theorem skip_blank (l : Bs) : skipR (32 :: l) = skipR l := by
  have e1 : List.dropWhile (fun x => x == (32 : UInt8)) (32 :: l) = List.dropWhile (fun x => x == (32 : UInt8)) l := by rw [List.dropWhile_cons]; simp
  unfold skipR
  rw [e1]
/-- One step of the tokens of a row that was written. -/
theorem toks_step {l : Bs} {p : Pc} (h : tokD l = some p) (hl : NoNl l) (hr : p.1 = 7 → rawOk p.2.1 = true) (ln ln2 d : Int) (rest : Bs) :
    toksD ln2 d (showT ⟨p.1, ln, p.2.1⟩ ++ 32 :: rest) = match toksD ln2 (depD d p.1 p.2.1) (skipR rest) with
      | none => none
      | some q => some (⟨p.1, ln2, p.2.1⟩ :: q.1, q.2) := by
  obtain ⟨_, c, r, hs, _, _⟩ := tok_clean hl h hr ln
  have ha := tok_again h hr ln rest
  have hlen : (showT ⟨p.1, ln, p.2.1⟩).length = r.length + 1 := by rw [hs]; rfl
  rw [hlen] at ha
  rw [hs] at ha ⊢
  rw [List.cons_append, toksD_cons]
  rw [List.cons_append] at ha
  rw [ha]
  simp only [Nat.add_sub_cancel]
  rw [List.drop_left, skip_blank]
  cases toksD ln2 (depD d p.1 p.2.1) (skipR rest) <;> rfl
/-- The indentations that are open where tokens are written out. -/
def stk : Nat → List Int
  | 0 => [0]
  | k + 1 => (4 * (k + 1 : Nat) : Int) :: stk k
theorem stk_len : ∀ k, (stk k).length = k + 1
  | 0 => rfl
  | k + 1 => by simp [stk, stk_len k]
theorem stk_head : ∀ k, (stk k).headD 0 = (4 * k : Nat)
  | 0 => rfl
  | k + 1 => by simp [stk]
theorem stk_pop (k : Nat) : ∀ j, popD ((4 * k : Nat) : Int) (stk (k + j)) = stk k
  | 0 => by
    cases k with
    | zero => rfl
    | succ k => simp only [Nat.add_zero, stk, popD]; rw [if_neg (by omega)]
  | j + 1 => by
    rw [show k + (j + 1) = (k + j) + 1 by omega]
    simp only [stk, popD]
    rw [if_pos (by omega)]
    exact stk_pop k j
/-- The second reading of what was written from a line's begin on. -/
def Goal (k : Nat) (fin : List Tk) (text : Bs) : Prop := ∀ ln2, ∃ us s3, rowsD ln2 ⟨0, stk k⟩ (splitB text) = .ok (us, s3) ∧ us.map stT ++ (outsD (s3.op.length - 1) 0).map stT ++ [(0, [])] = fin.map stT
/-- The same from within a line. -/
def MidG (k : Nat) (d : Int) (fin : List Tk) (text : Bs) : Prop := ∃ (rest more : Bs) (ts fin' : List Tk), text = rest ++ 10 :: more ∧ NoNl rest ∧ skipR rest = rest ∧ (∀ ln2, ∃ cu, toksD ln2 d rest = some (cu, 0) ∧ cu.map stT = ts.map stT) ∧ fin.map stT = ts.map stT ++ (1, []) :: fin'.map stT ∧ Goal k fin' more
theorem wr_tok {t : Tk} (h : 4 ≤ t.kind) (deep : Int) (beg : Bool) (r : List Tk) : wr deep beg (t :: r) = if t.kind = 7 ∧ rawOk t.text = false then none else (wr deep false r).map fun x => (if beg then List.replicate (4 * deep).toNat 32 else []) ++ showT t ++ 32 :: x := by
  simp only [wr]
  rw [if_neg (by omega), if_neg (by omega), if_neg (by omega), if_neg (by omega)]
theorem inner (k : Nat) {X : List Tk} {ln d' : Int} (hX : if d' = 0 then ∀ text, wr k true X = some text → Goal k X text else ∀ text, wr k false X = some text → MidG k d' X text) :
    ∀ (l : Bs), NoNl l → ∀ (d : Int) (ts : List Tk), toksD ln d l = some (ts, d') → ∀ text, wr k false (ts ++ (endD ln d' ++ X)) = some text → MidG k d (ts ++ (endD ln d' ++ X)) text := by
  intro l
  induction l using toks_ind with
  | h0 =>
    intro _ d ts h text hw
    rw [toksD_nil] at h
    simp only [Option.some.injEq, Prod.mk.injEq] at h
    obtain ⟨rfl, rfl⟩ := h
    by_cases hd : d = 0
    · subst hd
      rw [if_pos rfl] at hX
      simp only [endD, if_true, List.nil_append, List.cons_append, wr] at hw
      rw [if_neg (by decide), if_neg (by decide)] at hw
      simp only [Option.map_eq_some_iff] at hw
      obtain ⟨x, hx, rfl⟩ := hw
      exact ⟨[], x, [], X, rfl, fun h => by simp at h, rfl, fun ln2 => ⟨[], toksD_nil _ _, rfl⟩, by simp [endD, stT], hX x hx⟩
    · rw [if_neg hd] at hX
      simp only [endD, if_neg hd, List.nil_append] at hw ⊢
      exact hX text hw
  | h1 c r ih =>
    intro hl d ts h text hw
    rw [toksD_cons] at h
    cases hp : tokD (c :: r) with
    | none => rw [hp] at h; cases h
    | some p =>
      rw [hp] at h
      simp only at h
      cases hq : toksD ln (depD d p.1 p.2.1) (skipR (r.drop (p.2.2 - 1))) with
      | none => rw [hq] at h; cases h
      | some q =>
        rw [hq] at h
        simp only [Option.some.injEq, Prod.mk.injEq] at h
        obtain ⟨rfl, hd'⟩ := h
        have hk := tokD_kind hp
        rw [List.cons_append, wr_tok hk.1] at hw
        split at hw
        · cases hw
        · rename_i hraw
          have hr : p.1 = 7 → rawOk p.2.1 = true := fun e => by
            by_cases hh : rawOk p.2.1 = true
            · exact hh
            · exact absurd ⟨e, by simpa using hh⟩ hraw
          simp only [Option.map_eq_some_iff] at hw
          obtain ⟨x, hx, rfl⟩ := hw
          have hnl : NoNl (skipR (r.drop (p.2.2 - 1))) := by
            intro hh
            refine hl (List.mem_cons_of_mem _ (List.mem_of_mem_drop (i := p.2.2 - 1) ?_))
            unfold skipR at hh
            split at hh
            · simp at hh
            · exact (List.dropWhile_sublist _).subset hh
          obtain ⟨rest, more, us, fin', rfl, h1, h2, h3, h4, h5⟩ := ih _ hnl _ q.1 (by rw [hq, ← hd']) x hx
          obtain ⟨c1, c2, c3, c4, c5, c6⟩ := tok_clean hl hp hr ln
          refine ⟨showT ⟨p.1, ln, p.2.1⟩ ++ 32 :: rest, more, ⟨p.1, ln, p.2.1⟩ :: us, fin', by simp, ?_, ?_, fun ln2 => ?_, ?_, h5⟩
          · intro hh
            simp only [List.mem_append, List.mem_cons] at hh
            rcases hh with hh | hh | hh
            · exact c1 hh
            · exact absurd hh (by decide)
            · exact h1 hh
          · exact skip_self (c := c2) (r := c3 ++ 32 :: rest) (by rw [c4]; rfl) c5 c6
          · obtain ⟨cu, hcu, hst⟩ := h3 ln2
            rw [toks_step hp hl hr, h2, hcu]
            exact ⟨_, rfl, by simp [stT, hst]⟩
          · rw [List.cons_append, List.map_cons, h4]
            simp
theorem indD_len {ln n : Int} {op : List Int} (ho : OpOk op) (hn : 0 ≤ n) {q : List Tk × List Int} (h : indD ln n op = some q) :
    (q.1 = [⟨2, ln, []⟩] ∧ q.2.length = op.length + 1) ∨ ∃ j, q.1 = outsD j ln ∧ q.2.length + j = op.length := by
  unfold indD at h
  split at h
  · simp only [Option.some.injEq] at h; subst h; exact .inl ⟨rfl, rfl⟩
  · split at h
    · simp only [Option.some.injEq] at h
      subst h
      refine .inr ⟨_, rfl, ?_⟩
      have : (popD n op).length ≤ op.length := by
        clear ho
        induction op with
        | nil => simp [popD]
        | cons x r ih =>
          simp only [popD]
          split
          · rename_i h1 _
            simp only [List.length_cons]
            by_cases hr : (popD n r).length ≤ r.length
            · omega
            · exact absurd (by
                have : ∀ l : List Int, (popD n l).length ≤ l.length := by
                  intro l
                  induction l with
                  | nil => simp [popD]
                  | cons y l ih2 => simp only [popD]; split <;> simp only [List.length_cons] <;> omega
                exact this r) hr
          · simp
      simp only
      omega
    · cases h
theorem wr_outs (beg : Bool) (ln : Int) (r : List Tk) : ∀ (j : Nat) (k : Int), wr k beg (outsD j ln ++ r) = wr (k - j) beg r
  | 0, k => by simp [outsD]
  | j + 1, k => by
    have := wr_outs beg ln r j (k - 1)
    unfold outsD at this ⊢
    rw [List.replicate_succ, List.cons_append]
    simp only [wr]
    rw [if_neg (by decide), if_pos trivial, this]
    congr 1; omega
/-- What is written of rows is read again. -/
theorem spaces : ∀ (rs : List Bs), (∀ r ∈ rs, NoNl r) → ∀ (ln n : Int) (s : LxS) (p : List Tk × LxS), OpOk s.op → rowsD ln s rs = .ok p →
    (if s.d = 0 then ∀ text, wr ((s.op.length - 1 : Nat) : Int) true (p.1 ++ (outsD (p.2.op.length - 1) n ++ [⟨0, n, []⟩])) = some text → Goal (s.op.length - 1) (p.1 ++ (outsD (p.2.op.length - 1) n ++ [⟨0, n, []⟩])) text
      else ∀ text, wr ((s.op.length - 1 : Nat) : Int) false (p.1 ++ (outsD (p.2.op.length - 1) n ++ [⟨0, n, []⟩])) = some text → MidG (s.op.length - 1) s.d (p.1 ++ (outsD (p.2.op.length - 1) n ++ [⟨0, n, []⟩])) text)
  | [], _, ln, n, s, p, ho, h => by
    simp only [rowsD, Except.ok.injEq] at h
    subst h
    simp only [List.nil_append]
    split
    · intro text hw
      rw [wr_outs] at hw
      simp only [wr] at hw
      rw [if_neg (by decide), if_neg (by decide), if_neg (by decide), if_pos trivial] at hw
      simp only [if_true, Option.some.injEq] at hw
      subst hw
      intro ln2
      refine ⟨[], ⟨0, stk (s.op.length - 1)⟩, by simp only [splitB, rowsD]; rw [rowD_empty rfl]; rfl, ?_⟩
      simp [outsD, stT, stk_len]
    · intro text hw
      rw [wr_outs] at hw
      simp only [wr] at hw
      rw [if_neg (by decide), if_neg (by decide), if_neg (by decide), if_pos trivial] at hw
      simp at hw
  | row :: rs, hnl, ln, n, s, p, ho, h => by
    simp only [rowsD] at h
    cases hr : rowD ln s row with
    | error x => rw [hr] at h; cases h
    | ok a =>
      rw [hr] at h
      simp only at h
      cases hq : rowsD (ln + 1) a.2 rs with
      | error x => rw [hq] at h; cases h
      | ok b =>
        rw [hq] at h
        simp only [Except.ok.injEq] at h
        subst h
        have ih := spaces rs (fun r hr => hnl r (List.mem_cons_of_mem _ hr)) (ln + 1) n a.2 b (rowD_op ho hr) hq
        simp only
        generalize hX : b.1 ++ (outsD (b.2.op.length - 1) n ++ [⟨0, n, []⟩]) = X at ih
        have eX : a.1 ++ b.1 ++ (outsD (b.2.op.length - 1) n ++ [⟨0, n, []⟩]) = a.1 ++ X := by rw [← hX, List.append_assoc]
        rw [eX]
        rcases rowD_ok hr with ⟨_, rfl⟩ | ⟨h0, q, ts, hi, hts, rfl⟩
        · simpa using ih
        · simp only at ih ⊢
          have hrn : NoNl (skipR row) := by
            intro hh
            refine hnl row (by simp) ?_
            unfold skipR at hh
            split at hh
            · simp at hh
            · exact (List.dropWhile_sublist _).subset hh
          have hinn := fun k' (e : q.2.length - 1 = k') => inner k' (X := X) (ln := ln) (d' := ts.2) (by rw [e] at ih; exact ih) (skipR row) hrn s.d ts.1 hts
          by_cases hd : s.d = 0
          · rw [if_pos hd] at hi ⊢
            intro text hw
            rw [hd] at hinn
            obtain ⟨t0, tr, ht⟩ : ∃ t0 tr, ts.1 = t0 :: tr := by
              cases hh : ts.1 with
              | nil => exact absurd hh (toksD_ne h0 hts)
              | cons x y => exact ⟨x, y, rfl⟩
            have hk0 : 4 ≤ t0.kind := toksD_all (Q := fun t => 4 ≤ t.kind) (fun l p hp => (tokD_kind hp).1) _ _ hts t0 (by rw [ht]; simp)
            have h1 := ho.len
            -- from the indentation on
            have go : ∀ (k : Nat), q.2.length - 1 = k → wr (k : Int) true (ts.1 ++ (endD ln ts.2 ++ X)) = some text → (∀ ln2, ∃ q', indD ln2 ((4 * k : Nat) : Int) (stk (s.op.length - 1)) = some (q', stk k) ∧ q'.map stT = q.1.map stT) →
                Goal (s.op.length - 1) (q.1 ++ ts.1 ++ endD ln ts.2 ++ X) text := by
              intro k hk hw2 hind
              have hsplit : ∃ x, wr (k : Int) false (ts.1 ++ (endD ln ts.2 ++ X)) = some x ∧ text = List.replicate (4 * k) 32 ++ x := by
                rw [ht, List.cons_append, wr_tok hk0] at hw2 ⊢
                split at hw2
                · cases hw2
                · rename_i hraw
                  rw [if_neg hraw]
                  simp only [Option.map_eq_some_iff] at hw2 ⊢
                  obtain ⟨y, hy, rfl⟩ := hw2
                  refine ⟨_, ⟨y, hy, rfl⟩, ?_⟩
                  simp only [if_true, Bool.false_eq_true, if_false, List.nil_append]
                  rw [show ((4 * (k : Int)).toNat) = 4 * k by omega, List.append_assoc]
              obtain ⟨x, hx, rfl⟩ := hsplit
              obtain ⟨rest, more, us, fin', rfl, m1, m2, m3, m4, m5⟩ := hinn k hk x hx
              intro ln2
              obtain ⟨q', hq', hst⟩ := hind ln2
              obtain ⟨cu, hcu, hcs⟩ := m3 ln2
              obtain ⟨us2, s3, hg1, hg2⟩ := m5 (ln2 + 1)
              have hus : us ≠ [] := by
                intro e
                subst e
                rw [ht, List.cons_append, List.map_cons] at m4
                simp only [List.map_nil, List.nil_append, List.cons.injEq, stT, Prod.mk.injEq] at m4
                omega
              have hrest : rest ≠ [] := by
                intro e
                subst e
                rw [toksD_nil] at hcu
                simp only [Option.some.injEq, Prod.mk.injEq] at hcu
                rw [← hcu.1] at hcs
                exact hus (List.map_eq_nil_iff.1 hcs.symm)
              obtain ⟨c, r, hcr⟩ : ∃ c r, rest = c :: r := by cases rest with | nil => exact absurd rfl hrest | cons c r => exact ⟨c, r, rfl⟩
              have hc32 : c ≠ 32 := by
                intro e
                subst e
                rw [hcr, skip_blank] at m2
                have := skipR_len r
                rw [m2] at this
                simp only [List.length_cons] at this
                omega
              have hblk : ∀ m : Nat, blkN (List.replicate m 32 ++ rest) = m := by
                intro m
                unfold blkN
                induction m with
                | zero => rw [hcr]; simp [hc32]
                | succ m ihm => rw [List.replicate_succ, List.cons_append, List.takeWhile_cons, if_pos (by rfl), List.length_cons, ihm]
              have hskip : ∀ m : Nat, skipR (List.replicate m 32 ++ rest) = rest := by
                intro m
                induction m with
                | zero => simpa using m2
                | succ m ihm => rw [List.replicate_succ, List.cons_append, skip_blank, ihm]
              have hrow : rowD ln2 ⟨0, stk (s.op.length - 1)⟩ (List.replicate (4 * k) 32 ++ rest) = .ok (q' ++ cu ++ [⟨1, ln2, []⟩], ⟨0, stk k⟩) := by
                unfold rowD
                rw [hskip, if_neg hrest, hblk]
                simp only [if_true, hq', hcu]
                rfl
              have hnlr : NoNl (List.replicate (4 * k) 32 ++ rest) := by
                intro hh
                rcases List.mem_append.1 hh with hh | hh
                · exact absurd (List.eq_of_mem_replicate hh) (by decide)
                · exact m1 hh
              rw [← List.append_assoc, splitB_app, splitB_row hnlr, List.singleton_append]
              refine ⟨q' ++ cu ++ [⟨1, ln2, []⟩] ++ us2, s3, by simp only [rowsD, hrow, hg1], ?_⟩
              have m4' : (ts.1 ++ (endD ln ts.2 ++ X)).map stT = us.map stT ++ (1, []) :: fin'.map stT := m4
              have m6 : (q.1 ++ ts.1 ++ endD ln ts.2 ++ X).map stT = q.1.map stT ++ (us.map stT ++ (1, []) :: fin'.map stT) := by
                rw [← m4', ← List.map_append]; simp only [List.append_assoc]
              rw [m6, ← hg2]
              simp [stT, hst, hcs]
            rcases indD_len ho (by omega) hi with ⟨e1, e2⟩ | ⟨j, e1, e2⟩
            · refine go (s.op.length - 1 + 1) (by rw [e2]; omega) ?_ ?_
              · rw [e1] at hw
                simp only [List.cons_append, List.nil_append, List.append_assoc, wr] at hw
                rw [if_pos trivial] at hw
                rw [← hw]
                congr 1
              · intro ln2
                refine ⟨[⟨2, ln2, []⟩], ?_, by rw [e1]; rfl⟩
                unfold indD
                rw [stk_head, if_pos (by omega)]
                rfl
            · have hop2 : OpOk q.2 := indD_ok ho (by omega) hi
              have hl2 := hop2.len
              refine go (q.2.length - 1) rfl ?_ ?_
              · rw [e1, List.append_assoc, List.append_assoc, wr_outs] at hw
                rw [← hw]
                congr 1
                omega
              · intro ln2
                have hpop := stk_pop (q.2.length - 1) j
                rw [show q.2.length - 1 + j = s.op.length - 1 by omega] at hpop
                refine ⟨outsD j ln2, ?_, by rw [e1]; simp [outsD, stT]⟩
                unfold indD
                rw [stk_head, if_neg (by omega), hpop, stk_head, if_pos rfl, stk_len, stk_len]
                congr 2
                congr 1
                omega
          · rw [if_neg hd] at hi ⊢
            simp only [Option.some.injEq] at hi
            subst hi
            intro text hw
            simp only [List.nil_append, List.append_assoc] at hw ⊢
            exact hinn _ rfl text hw
end Go.Proofs.YtcjomeghcihecaaDoor
