/- Layer 2: decimal texts without leading noughts: there is but one of each number. -/
import Derived.Test.YticebchmafipiaaDoorWtP
import Derived.Test.YticebchmafipiaaDoorWtF
namespace Go.Proofs.YticebchmafipiaaDoor
open Go Go.ChangeShapes Go.WideShapes Go.ChangeAt Go.RowKit Go.PlainAid
set_option linter.unusedVariables false
set_option linter.unusedSimpArgs false
/-- A text's digits, the lowest first. -/
def revD (l : List UInt8) : List Int := (l.map fun c => (c.toNat : Int) - 48).reverse
theorem revD_val (l : List UInt8) : val 10 (revD l) = spell l := by
  induction l with
  | nil => rfl
  | cons c r ih =>
    unfold revD at ih ⊢
    rw [List.map_cons, List.reverse_cons, val_append, ih]
    simp only [val, spell, List.length_reverse, List.length_map, Int.mul_zero, Int.add_zero]
    rw [Int.mul_comm (10 ^ _)]
    omega
theorem revD_dig {l : List UInt8} (h : AllDig l) : Dig 10 (revD l) := fun i => by
  unfold revD
  rw [List.getD_eq_getElem?_getD]
  cases hi : ((l.map fun c => (c.toNat : Int) - 48).reverse)[i]? with
  | none => simp
  | some x =>
    have hm := List.mem_of_getElem? hi
    rw [List.mem_reverse, List.mem_map] at hm
    obtain ⟨c, hc, rfl⟩ := hm
    have := h c hc
    simp only [Option.getD_some]
    omega
theorem revD_canon {c : UInt8} {r : List UInt8} (h : AllDig (c :: r)) (h0 : c.toNat ≠ 48) : Canon 10 (revD (c :: r)) := by
  refine ⟨revD_dig h, fun _ => ?_⟩
  unfold revD
  rw [List.map_cons, List.reverse_cons, List.getD_eq_getElem?_getD, List.length_append, List.length_singleton, Nat.add_sub_cancel, List.getElem?_append_right (Nat.le_refl _), Nat.sub_self]
  simp only [List.getElem?_cons_zero, Option.getD_some]
  omega
theorem revD_show {l : List UInt8} (h : AllDig l) (neg : Bool) : strOfNums (showN neg (revD l)) = ⟨((if neg then [45] else []) ++ l).toArray⟩ := by
  unfold strOfNums showN revD
  congr 2
  rw [List.map_append, List.reverse_reverse, List.map_map, List.map_map]
  congr 1
  · cases neg <;> rfl
  · conv => rhs; rw [← List.map_id l]
    apply List.map_congr_left
    intro c hc
    have := h c hc
    simp only [Function.comp]
    rw [show (48 + ((c.toNat : Int) - 48)).toNat = c.toNat by omega]
    simp
/-- A text that spells a number, without leading noughts, is what Show writes. -/
theorem show_uniq {neg : Bool} {c : UInt8} {r : List UInt8} {ds : List Int} (h : AllDig (c :: r)) (h0 : c.toNat ≠ 48) (hd : Canon 10 ds) (hv : val 10 ds = spell (c :: r)) : showB neg ds = ⟨((if neg then [45] else []) ++ (c :: r)).toArray⟩ := by
  have e : ds = revD (c :: r) := canon_uniq (by decide) hd (revD_canon h h0) (by rw [revD_val]; exact hv)
  subst e
  unfold showB
  rw [if_neg (by simp [revD]), revD_show h]
theorem u8n {n : Nat} (h : n < 256) : (UInt8.ofNat n).toNat = n := UInt8.toNat_ofNat_of_lt' h
theorem dec_dig (u : Nat) : AllDig (Lib.decDigits u) := by
  induction u using Nat.strongRecOn with
  | _ u ih =>
    by_cases h : u < 10
    · rw [Lib.decDigits_one h]
      intro c hc
      rw [List.mem_singleton] at hc
      subst hc
      rw [u8n (by omega)]
      omega
    · rw [Lib.decDigits, dif_neg h]
      intro c hc
      rw [List.mem_append] at hc
      rcases hc with hc | hc
      · exact ih (u / 10) (by omega) c hc
      · rw [List.mem_singleton] at hc
        subst hc
        rw [u8n (by omega)]
        omega
theorem dec_spell (u : Nat) : spell (Lib.decDigits u) = (u : Int) := by
  induction u using Nat.strongRecOn with
  | _ u ih =>
    by_cases h : u < 10
    · rw [Lib.decDigits_one h]
      simp only [spell, List.length_nil, Int.pow_zero]
      rw [u8n (by omega)]
      omega
    · rw [Lib.decDigits, dif_neg h, spell_append, ih (u / 10) (by omega)]
      simp only [spell, List.length_nil, List.length_singleton, Int.pow_zero]
      rw [u8n (by omega)]
      omega
theorem dec_head (u : Nat) (h : 1 ≤ u) : ∃ c r, Lib.decDigits u = c :: r ∧ c.toNat ≠ 48 := by
  induction u using Nat.strongRecOn with
  | _ u ih =>
    by_cases h9 : u < 10
    · refine ⟨_, _, Lib.decDigits_one h9, ?_⟩
      rw [u8n (by omega)]
      omega
    · obtain ⟨c, r, e, hc⟩ := ih (u / 10) (by omega) (by omega)
      rw [Lib.decDigits, dif_neg h9, e]
      exact ⟨c, _, rfl, hc⟩
/-- The digits of a limb, with noughts ahead. -/
def pad18 (u : Nat) : List UInt8 := List.replicate (18 - Lib.nDigits u) 48 ++ Lib.decDigits u
theorem pad_dig (u : Nat) : AllDig (pad18 u) := fun c hc => by
  unfold pad18 at hc
  rw [List.mem_append] at hc
  rcases hc with hc | hc
  · have := List.eq_of_mem_replicate hc
    subst this
    decide
  · exact dec_dig u c hc
theorem pad_spell (u : Nat) : spell (pad18 u) = (u : Int) := by
  unfold pad18
  rw [spell_append, spell_zeros (fun c hc => List.eq_of_mem_replicate hc), dec_spell]
  simp
theorem nd18 {u : Nat} (h : u < 1000000000000000000) : Lib.nDigits u ≤ 18 := by
  by_cases h0 : u = 0
  · subst h0; rw [Lib.nDigits_small (by decide)]; decide
  · apply Classical.byContradiction
    intro hc
    obtain ⟨c, r, e, hc0⟩ := dec_head u (by omega)
    have h1 := dec_spell u
    have hl := Lib.decDigits_length u
    rw [e] at h1 hl
    simp only [spell] at h1
    have hd := dec_dig u
    rw [e] at hd
    have h2 := spell_bd (l := r) fun x hx => hd x (by simp [hx])
    have h3 := hd c (by simp)
    simp at hl
    have h4 : (10 : Int) ^ 18 ≤ 10 ^ r.length := pow_mono' (by decide) (by omega)
    have h5 : (10 : Int) ^ 18 = 1000000000000000000 := by decide
    have h6 : (1 : Int) * 10 ^ r.length ≤ ((c.toNat : Int) - 48) * 10 ^ r.length := Int.mul_le_mul_of_nonneg_right (by omega) (by omega)
    omega
theorem pad_len {u : Nat} (h : u < 1000000000000000000) : (pad18 u).length = 18 := by
  have := nd18 h
  unfold pad18
  rw [List.length_append, List.length_replicate, Lib.decDigits_length]
  omega
/-- What stands in the builder when i limbs behind the highest are written. -/
def txt (xs : List Int) : Nat → List UInt8
  | 0 => Lib.decDigits (xs.getD (xs.length - 1) 0).toNat
  | i + 1 => txt xs i ++ pad18 (xs.getD (xs.length - 2 - i) 0).toNat
theorem txt_dig (xs : List Int) : ∀ i, AllDig (txt xs i)
  | 0 => dec_dig _
  | i + 1 => fun c hc => by
    rw [txt, List.mem_append] at hc
    rcases hc with hc | hc
    · exact txt_dig xs i c hc
    · exact pad_dig _ c hc
theorem txt_spell {xs : List Int} (hd : Dig B18 xs) : ∀ i, i < xs.length → spell (txt xs i) = val B18 (xs.drop (xs.length - 1 - i))
  | 0, hi => by
    have h0 := (hd (xs.length - 1)).1
    rw [txt, dec_spell, Nat.sub_zero, List.drop_eq_getElem_cons (by omega), List.drop_eq_nil_iff.2 (by omega)]
    rw [List.getD_eq_getElem?_getD, List.getElem?_eq_getElem (by omega)] at h0 ⊢
    simp only [Option.getD_some, val, Int.mul_zero, Int.add_zero] at h0 ⊢
    omega
  | i + 1, hi => by
    have h0 := hd (xs.length - 2 - i)
    rw [txt, spell_append, pad_spell, pad_len (by have := h0.2; rw [B18] at this; have := h0.1; omega), txt_spell hd i (by omega)]
    rw [show xs.length - 1 - (i + 1) = xs.length - 2 - i by omega, List.drop_eq_getElem_cons (i := xs.length - 2 - i) (by omega), show xs.length - 2 - i + 1 = xs.length - 1 - i by omega]
    rw [List.getD_eq_getElem?_getD, List.getElem?_eq_getElem (by omega)] at h0 ⊢
    simp only [Option.getD_some, val] at h0 ⊢
    rw [show (10 : Int) ^ 18 = B18 by decide, Int.mul_comm B18]
    omega
theorem txt_head {xs : List Int} (h : 1 ≤ (xs.getD (xs.length - 1) 0).toNat) : ∀ i, ∃ c r, txt xs i = c :: r ∧ c.toNat ≠ 48
  | 0 => dec_head _ h
  | i + 1 => by
    obtain ⟨c, r, e, hc⟩ := txt_head h i
    exact ⟨c, r ++ _, by rw [txt, e]; rfl, hc⟩
/-- What Text writes is what Show writes. -/
theorem text_show {neg : Bool} {xs ds : List Int} {z : Int} (hx : Sgn B18 neg xs z) (hd : Sgn 10 neg ds z) (h0 : 0 < xs.length) : showB neg ds = ⟨((if neg then [45] else []) ++ txt xs (xs.length - 1)).toArray⟩ := by
  have h1 := hx.canon.2 h0
  have h2 := (hx.canon.1 (xs.length - 1)).1
  obtain ⟨c, r, e, hc⟩ := txt_head (xs := xs) (by omega) (xs.length - 1)
  have h3 := txt_spell hx.canon.1 (xs.length - 1) (by omega)
  rw [Nat.sub_self, List.drop_zero] at h3
  have h4 := txt_dig xs (xs.length - 1)
  rw [e] at h3 h4 ⊢
  refine show_uniq h4 hc hd.canon ?_
  rw [h3, hx.abs (by decide), hd.abs (by decide)]
end Go.Proofs.YticebchmafipiaaDoor
