/- Layer 2, the document's answer: screeref02.sizes and cut, over rows of decimal digits. Layer 2, the document's answer: screeref02.plus, digit by digit. Layer 2, the document's answer: screeref02.minus, digit by digit. Layer 2: signs and rows of digits as integers. -/
import Derived.Test.YtpebnofjcodikaaGreatDoorPGWa
namespace Go.Proofs.YtpebnofjcodikaaGreatDoor
section
open Go.ChangeShapes Go.WideShapes Go.ChangeAt Go.RowKit
set_option linter.unusedVariables false
set_option linter.unusedSimpArgs false
end
section
open Go.ChangeShapes Go.WideShapes Go.ChangeAt Go.RowKit
set_option linter.unusedVariables false
set_option linter.unusedSimpArgs false
theorem infoU8 : (Tryz.prog.info? 5).map (fun i => (i.zero, i.size, i.bytes)) = some (some (.int .u8 0), 1, 1) := by kernel_rfl
abbrev U8 : TypeId := 5
abbrev OB (w : World) (B : Nat) (v : Value) (ds : List Int) : Prop := OW .u8 U8 w B v ds
structure PlusState (xs ys os : List Int) (k : Nat) (c : Int) : Prop where
  len : os.length = k
  dig : Dig 10 os
  sum : val 10 os + 10 ^ k * c = val 10 (xs.take k) + val 10 (ys.take k)
theorem PlusState.start (xs ys : List Int) : PlusState xs ys [] 0 0 := ⟨rfl, Dig.nil (by decide), by simp [val]⟩
theorem PlusState.step {xs ys os : List Int} {k : Nat} {c c' d : Int} (h : PlusState xs ys os k c) (e : d + 10 * c' = c + xs.getD k 0 + ys.getD k 0) (hd : 0 ≤ d ∧ d < 10) : PlusState xs ys (os ++ [d]) (k + 1) c' := by
  refine ⟨by simp [h.len], h.dig.append (Dig.cons hd (Dig.nil (by decide))), ?_⟩
  rw [val_snoc, val_take', val_take', h.len, Int.pow_succ]
  have h1 := h.sum
  have : (10 : Int) ^ k * (d + 10 * c') = 10 ^ k * (c + xs.getD k 0 + ys.getD k 0) := by rw [e]
  grind
theorem PlusState.finish {xs ys os : List Int} {k : Nat} {c : Int} (h : PlusState xs ys os k c) (hx : xs.length ≤ k) (hy : ys.length ≤ k) (hc : 0 ≤ c ∧ c ≤ 1) : Dig 10 (os ++ [c]) ∧ val 10 (os ++ [c]) = val 10 xs + val 10 ys := by
  refine ⟨h.dig.append (Dig.cons (by omega) (Dig.nil (by decide))), ?_⟩
  rw [val_snoc, h.len, h.sum, val_full 10 hx, val_full 10 hy]
end
section
open Go.ChangeShapes Go.WideShapes Go.ChangeAt Go.RowKit
set_option linter.unusedVariables false
set_option linter.unusedSimpArgs false
structure MinusState (xs ys os : List Int) (k : Nat) (c : Int) : Prop where
  len : os.length = k
  dig : Dig 10 os
  diff : val 10 os - 10 ^ k * c = val 10 (xs.take k) - val 10 (ys.take k)
theorem MinusState.start (xs ys : List Int) : MinusState xs ys [] 0 0 := ⟨rfl, Dig.nil (by decide), by simp [val]⟩
theorem MinusState.step {xs ys os : List Int} {k : Nat} {c c' d : Int} (h : MinusState xs ys os k c) (e : d - 10 * c' = xs.getD k 0 - ys.getD k 0 - c) (hd : 0 ≤ d ∧ d < 10) : MinusState xs ys (os ++ [d]) (k + 1) c' := by
  refine ⟨by simp [h.len], h.dig.append (Dig.cons hd (Dig.nil (by decide))), ?_⟩
  rw [val_snoc, val_take', val_take', h.len, Int.pow_succ]
  have h1 := h.diff
  have : (10 : Int) ^ k * (d - 10 * c') = 10 ^ k * (xs.getD k 0 - ys.getD k 0 - c) := by rw [e]
  grind
theorem MinusState.finish {xs ys os : List Int} {k : Nat} {c : Int} (h : MinusState xs ys os k c) (hx : xs.length ≤ k) (hy : ys.length ≤ k) (hge : val 10 ys ≤ val 10 xs) (hc : 0 ≤ c ∧ c ≤ 1) : val 10 os = val 10 xs - val 10 ys := by
  have h1 := h.diff
  rw [val_full 10 hx, val_full 10 hy] at h1
  have h2 := val_lt (by decide : (0 : Int) < 10) h.dig
  rw [h.len] at h2
  by_cases e : c = 0
  · subst e; simpa using h1
  · obtain rfl : c = 1 := by omega
    omega
end
section
open Go.ChangeShapes Go.WideShapes Go.ChangeAt Go.RowKit
set_option linter.unusedVariables false
set_option linter.unusedSimpArgs false
def sg (neg : Bool) (a : Int) : Int := if neg then -a else a
/-- A sign and a row of digits stand for an integer. -/
structure Sgn (b : Int) (neg : Bool) (ws : List Int) (z : Int) : Prop where
  canon : Canon b ws
  sign : neg = true → 0 < ws.length
  eq : z = sg neg (val b ws)
theorem Sgn.abs {b : Int} (hb : 0 < b) {neg : Bool} {ws : List Int} {z : Int} (h : Sgn b neg ws z) : val b ws = (z.natAbs : Int) := by
  have h1 := val_nonneg hb h.canon.1
  have := h.eq
  unfold sg at this
  split at this <;> omega
theorem Sgn.neg_iff {b : Int} (hb : 0 < b) {neg : Bool} {ws : List Int} {z : Int} (h : Sgn b neg ws z) : neg = decide (z < 0) := by
  have h1 := val_nonneg hb h.canon.1
  have := h.eq
  cases neg with
  | true => have h2 := h.canon.pos hb (h.sign rfl); simp [sg] at this; simp; omega
  | false => simp [sg] at this; simp; omega
theorem Sgn.uniq {b : Int} (hb : 1 < b) {n1 n2 : Bool} {xs ys : List Int} {z : Int} (h : Sgn b n1 xs z) (g : Sgn b n2 ys z) : n1 = n2 ∧ xs = ys :=
  ⟨(h.neg_iff (by omega)).trans (g.neg_iff (by omega)).symm, canon_uniq hb h.canon g.canon ((h.abs (by omega)).trans (g.abs (by omega)).symm)⟩
theorem Sgn.same {b : Int} (hb : 1 < b) {n1 n2 : Bool} {xs ys : List Int} {z : Int} (h : Sgn b n1 xs z) (g : Sgn b n2 ys z) : sameB n1 xs n2 ys = true := by
  obtain ⟨rfl, rfl⟩ := h.uniq hb g
  simp [sameB]
theorem Sgn.zero {b : Int} (hb : 0 < b) : Sgn b false [] 0 := ⟨Canon.nil hb, (fun h => by cases h), rfl⟩
theorem Sgn.empty {b : Int} (hb : 0 < b) {neg : Bool} {ws : List Int} {z : Int} (h : Sgn b neg ws z) : ws.length = 0 ↔ z = 0 := by
  have h1 := h.abs hb
  constructor
  · intro e
    obtain rfl := List.length_eq_zero_iff.1 e
    simp [val] at h1; omega
  · intro e
    subst e
    by_cases hl : 0 < ws.length
    · have := h.canon.pos hb hl; simp at h1; omega
    · omega
theorem Sgn.len {b : Int} (hb : 1 < b) {neg : Bool} {ws : List Int} {z : Int} (h : Sgn b neg ws z) (k : Nat) : ws.length ≤ k ↔ (z.natAbs : Int) < b ^ k := by
  rw [canon_len hb h.canon, h.abs (by omega)]
theorem Canon.fit {ws : List Int} (h : Canon B18 ws) : Fit ws := fun i => by have := h.1 i; rw [B18] at this; omega
theorem goodB_of {neg : Bool} {ws : List Int} {z : Int} (h : Sgn B18 neg ws z) (hl : ws.length ≤ 30) : goodB neg ws = true := by
  by_cases h0 : ws.length = 0
  · unfold goodB
    rw [if_pos h0]
    cases neg with
    | false => rfl
    | true => have := h.sign rfl; omega
  · exact goodB_yes (by omega) hl (h.canon.2 (by omega)) (fun i _ => by have := h.canon.1 i; rw [B18] at this; omega)
theorem goodB_sgn {neg : Bool} {ws : List Int} (h : goodB neg ws = true) (hf : Fit ws) : Sgn B18 neg ws (sg neg (val B18 ws)) ∧ ws.length ≤ 30 := by
  unfold goodB at h
  by_cases h0 : ws.length = 0
  · rw [if_pos h0] at h
    obtain rfl := List.length_eq_zero_iff.1 h0
    refine ⟨⟨Canon.nil (by decide), fun e => ?_, rfl⟩, by simp⟩
    subst e; simp at h
  · rw [if_neg h0] at h
    simp only [Bool.and_eq_true, decide_eq_true_eq, bne_iff_ne, ne_eq, List.all_eq_true] at h
    obtain ⟨h1, h2, h3⟩ := h
    refine ⟨⟨⟨fun i => ?_, fun _ => h2⟩, fun _ => by omega, rfl⟩, h1⟩
    have hfi := hf i
    refine ⟨hfi.1, ?_⟩
    by_cases hi : i < ws.length
    · have := h3 (ws[i]) (List.getElem_mem hi)
      rw [List.getD_eq_getElem?_getD, List.getElem?_eq_getElem hi]
      simpa using this
    · rw [getD_len (by omega)]; decide
/-- At most 540 decimal digits. -/
structure Small (z : Int) : Prop where
  lt : (z.natAbs : Int) < 10 ^ 540
theorem lim_eq : B18 ^ 30 = 10 ^ 540 := by
  have e : B18 = 10 ^ 18 := by decide
  rw [e, ← Int.pow_mul]
theorem Sgn.small {neg : Bool} {ws : List Int} {z : Int} (h : Sgn B18 neg ws z) : ws.length ≤ 30 ↔ Small z := by
  rw [h.len (by decide), lim_eq]
  exact ⟨fun h => ⟨h⟩, fun h => h.lt⟩
theorem Sgn.fits {neg : Bool} {ds : List Int} {z : Int} (h : Sgn 10 neg ds z) : ds.length ≤ 540 ↔ Small z := by
  rw [h.len (by decide)]
  exact ⟨fun h => ⟨h⟩, fun h => h.lt⟩
/-- What 'made' makes of a row of one's own. -/
theorem made_sgn {w : World} {g B0 k : Nat} {ws : List Int} (neg : Bool) (hk : CutAt ws k) (hd : Dig B18 ws) (hL : LU w g ws) (hB : B0 ≤ g) :
    ∃ neg' p ws', madeV neg (some ⟨g, 0, none⟩) k = .agg #[.bool neg', .slice p k k] ∧ (∀ w' : World, w'.heap[g]? = w.heap[g]? → MU w' B0 (.slice p k k) ws') ∧ Sgn B18 neg' ws' (sg neg (val B18 ws)) ∧ ws'.length = k := by
  obtain ⟨h1, h2, h3⟩ := hk.canon (b := B18) (by decide) hd
  by_cases h0 : k = 0
  · subst h0
    refine ⟨false, none, [], if_pos rfl, fun w' _ => Mine.nil _ _, ⟨Canon.nil (by decide), fun h => (by cases h), ?_⟩, rfl⟩
    rw [List.take_zero] at h2
    rw [← h2]
    cases neg <;> rfl
  · refine ⟨neg, _, ws.take k, if_neg h0, fun w' e => LR.mine_take (hL.block e) hB hk.1, ⟨h1, fun _ => by omega, by rw [h2]⟩, h3⟩
end
end Go.Proofs.YtpebnofjcodikaaGreatDoor
