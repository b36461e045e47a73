/- Layer 2: whole.Parse, walked. Layer 2: strconv.FormatUint at base 10, of any uint64. Layer 2: decimal texts without leading noughts: there is but one of each number. Layer 2: whole.Text, walked. Layer 2: the law WholeTexts, walked, at every input. -/
import Derived.Test.YtbhommcpgejbfaaGreatDoorPGWh
import Derived.Test.YtbhommcpgejbfaaGreatDoorPGWe
import Derived.Lib.AppendIntMem
import Derived.Lib.ItoaLen
import Derived.Deep.RegionHeld3
namespace Go.Proofs.YtbhommcpgejbfaaGreatDoor
section
open Go Go.ChangeShapes Go.WideShapes Go.ChangeAt Go.RowKit Go.PlainAid Go.Joins
set_option linter.unusedVariables false
set_option linter.unusedSimpArgs false
theorem body_size (s : ByteArray) : (bodyT s).size = s.size - fromT s := by
  unfold bodyT
  rw [list_size, List.length_drop, ← Lib.size_eq]
theorem body_bt (s : ByteArray) {k : Nat} (h : k < (bodyT s).size) : bt (bodyT s) k = bt s (fromT s + k) := by
  have h' := h
  rw [body_size] at h'
  rw [bt_list _ h, bt_list s (by omega)]
  simp [bodyT, List.getElem_drop]
theorem allDig_of {B : ByteArray} (h : ∀ j, j < B.size → 48 ≤ bt B j ∧ bt B j ≤ 57) : AllDig B.data.toList := fun c hc => by
  obtain ⟨j, hj, rfl⟩ := List.mem_iff_getElem.1 hc
  have hj' : j < B.size := by rw [Lib.size_eq]; exact hj
  have := h j hj'
  rw [bt_list B hj'] at this
  omega
theorem be_empty (B : ByteArray) : B.toList.isEmpty = decide (B.size = 0) := by
  obtain ⟨⟨l⟩⟩ := B
  have e : (ByteArray.mk ⟨l⟩).toList = l := by simp
  rw [e]
  cases l <;> simp [ByteArray.size]
/-- What Parse answers. -/
def ParsePost (W : World) (s : ByteArray) (e : Ending) (w' : World) : Prop :=
  ∃ neg u ws f, e = .returned (.tuple #[.agg #[.bool neg, u], .int .i64 f]) ∧ MU w' W.heap.size u ws ∧ TQ B18 s neg ws f ∧ Below W.heap.size W w'
theorem ParsePost.bad {w w' : World} {s : ByteArray} (h : ¬ OkT s) (hb : Below w.heap.size w w') : ParsePost w s (.returned (.tuple #[.agg #[.bool false, .slice none 0 0], .int .i64 4])) w' :=
  ⟨false, _, [], 4, rfl, .inl ⟨rfl, rfl⟩, .inl ⟨h, rfl, rfl, rfl⟩, hb⟩
theorem dw_head {p : UInt8 → Bool} : ∀ {l : List UInt8} {d : UInt8} {r : List UInt8}, l.dropWhile p = d :: r → p d = false
  | c :: l, d, r, h => by
    rw [List.dropWhile_cons] at h
    by_cases hc : p c = true
    · rw [if_pos hc] at h; exact dw_head h
    · rw [if_neg hc] at h
      simp only [List.cons.injEq] at h
      rw [← h.1]; simpa using hc
theorem spell_zeros : ∀ {l : List UInt8}, (∀ c ∈ l, c = 48) → spell l = 0
  | [], _ => rfl
  | c :: r, h => by
    have := h c (by simp)
    subst this
    have hr := spell_zeros (l := r) fun x hx => h x (List.mem_cons_of_mem _ hx)
    simp only [spell, hr]
    simp
/-- The text behind the sign and the leading noughts, as the row of digits. -/
theorem trim_cut {s : ByteArray} (h : DigsFrom s (fromT s)) : CutAt (rdN s (fromT s)) (trimT (bodyT s)).size ∧ spell (trimT (bodyT s)).data.toList = val 10 (rdN s (fromT s)) := by
  obtain ⟨l, hl⟩ : ∃ l, s.data.toList.drop (fromT s) = l := ⟨_, rfl⟩
  have hn : l.length = s.size - fromT s := by rw [← hl, List.length_drop, ← Lib.size_eq]
  have hT : trimT (bodyT s) = ⟨(l.dropWhile (· == 48)).toArray⟩ := by rw [← hl]; rfl
  have hTs : (trimT (bodyT s)).size = (l.dropWhile (· == 48)).length := by rw [hT, list_size]
  have hZD : l.takeWhile (· == 48) ++ l.dropWhile (· == 48) = l := List.takeWhile_append_dropWhile
  have hZ : ∀ c ∈ l.takeWhile (· == 48), c = 48 := fun c hc => by
    have := List.all_eq_true.1 (List.all_takeWhile (p := (· == (48 : UInt8))) (l := l)) c hc
    simpa using this
  have hlen := congrArg List.length hZD
  rw [List.length_append] at hlen
  have hsp : spell (l.dropWhile (· == 48)) = val 10 (rdN s (fromT s)) := by
    rw [rdN_spell s _ _ rfl, hl]
    conv => rhs; rw [← hZD]
    rw [spell_append, spell_zeros hZ, Int.zero_mul, Int.zero_add]
  have hrd : ∀ j, (hj : j < l.length) → (rdN s (fromT s)).getD j 0 = ((l[l.length - 1 - j]'(by omega)).toNat : Int) - 48 := fun j hj => by
    unfold rdN
    rw [List.getD_eq_getElem?_getD, List.getElem?_map, List.getElem?_range (by omega)]
    simp only [Option.map_some, Option.getD_some]
    rw [bt_list s (by omega)]
    have e1 : s.data.toList[s.size - 1 - j]? = l[l.length - 1 - j]? := by
      have key : ∀ i, l[i]? = s.data.toList[fromT s + i]? := fun i => by rw [← hl, List.getElem?_drop]
      rw [key, show fromT s + (l.length - 1 - j) = s.size - 1 - j by omega]
    rw [List.getElem?_eq_getElem (by rw [← Lib.size_eq]; omega), List.getElem?_eq_getElem (by omega)] at e1
    rw [Option.some.inj e1]
  rw [hTs]
  refine ⟨⟨by rw [rdN_len]; omega, fun j hj => ?_, fun hk => ?_⟩, by rw [hT]; exact hsp⟩
  · by_cases hjl : j < l.length
    · rw [hrd j hjl]
      have hi : l.length - 1 - j < (l.takeWhile (· == 48)).length := by omega
      have e : l[l.length - 1 - j]'(by omega) = (l.takeWhile (· == 48))[l.length - 1 - j] := by
        have h2 : (l.takeWhile (· == 48) ++ l.dropWhile (· == 48))[l.length - 1 - j]? = l[l.length - 1 - j]? := by rw [hZD]
        rw [List.getElem?_append_left hi, List.getElem?_eq_getElem hi, List.getElem?_eq_getElem (by omega)] at h2
        exact (Option.some.inj h2).symm
      rw [e, hZ _ (List.getElem_mem hi)]
      rfl
    · rw [List.getD_eq_getElem?_getD, List.getElem?_eq_none (by rw [rdN_len]; omega)]; rfl
  · obtain ⟨d, r, hd⟩ : ∃ d r, l.dropWhile (· == 48) = d :: r := by
      cases hd : l.dropWhile (· == 48) with
      | nil => rw [hd] at hk; simp at hk
      | cons d r => exact ⟨d, r, rfl⟩
    have h1 := dw_head hd
    have h2 : (l.takeWhile (· == 48) ++ l.dropWhile (· == 48))[l.length - 1 - ((l.dropWhile (· == 48)).length - 1)]? = l[l.length - 1 - ((l.dropWhile (· == 48)).length - 1)]? := by rw [hZD]
    rw [List.getElem?_append_right (by omega), show l.length - 1 - ((l.dropWhile (· == 48)).length - 1) - (l.takeWhile (· == 48)).length = 0 by omega, List.getElem?_eq_getElem (by omega), List.getElem?_eq_getElem (l := l) (by omega)] at h2
    rw [hrd _ (by omega), ← Option.some.inj h2]
    have h3 : (l.dropWhile (· == 48))[0]'(by omega) = d := by simp only [hd, List.getElem_cons_zero]
    rw [h3]
    intro e
    have h48 : d.toNat = 48 := by omega
    have : d = 48 := UInt8.toNat_inj.1 (by rw [h48]; rfl)
    rw [this] at h1
    simp at h1
def strLen : Value → Nat
  | .string b => b.size
  | _ => 0
end
section
open Go Go.ChangeShapes Go.WideShapes Go.ChangeAt Go.RowKit Go.Sort Go.Lib
set_option linter.unusedVariables false
set_option linter.unusedSimpArgs false
/-- The library's table of powers of ten lies where it was laid. -/
def P10 (w : World) : Prop := Lib.TabIs Tryz.prog w "internal/strconv.uint64pow10" .u64 Lib.pow10Tab
theorem below_grow (w : World) (k : Nat) (os : Array Obj) : Below w.heap.size w (grow (w.drewN k) os) :=
  ⟨(below_drewN (Below.refl w.heap.size w) k).os, by simp [grow], (below_drewN (Below.refl w.heap.size w) k).output, by simp [grow], fun g hg => Lib.heap_grow_old w k os g hg⟩
set_option maxRecDepth 100000 in
set_option maxHeartbeats 1000000 in
theorem formatUint_big (u : Nat) (hu : 100 ≤ u) (hu64 : u < 18446744073709551616) (w : World) (htab : P10 w) :
    Calls Tryz.prog 67 #[.int .u64 (u : Int), .int .i64 10] w fun e w' => e = .returned (.string ⟨(Lib.decDigits u).toArray⟩) ∧ Below w.heap.size w w' := by
  have hnd20 : Lib.nDigits u ≤ 20 := Lib.nDigits_le20 u hu64
  have hsl : ∀ W, (Instr.sliceAt 117 (.pointer (some ⟨w.heap.size, 0, none⟩)) none (some (.int .i64 (Lib.nDigits u : Int))) none).run Tryz.prog W = .ok (.slice (some ⟨w.heap.size, 0, none⟩) (Lib.nDigits u) 24) W := fun W => by
    rw [run_sliceAt_array_h W 117 ⟨w.heap.size, 0, none⟩ (by kernel_rfl) .i64 (Lib.nDigits u : Int) (by omega) (by rw [show Tryz.prog.arrayLen 117 = 24 by kernel_rfl]; omega)]
    rw [show Tryz.prog.arrayLen 117 = 24 by kernel_rfl, show (sizeOf (Tryz.prog.elem 117)).run Tryz.prog W = .ok 1 W by kernel_rfl]
    simp [Result.andThen, slicedAt, Addr.add]
  have hH0 := Lib.holds_zero0 w 117 (Lib.nDigits u) (by omega)
  have hfmt := Tryz.internal_strconv_formatBase10 w.heap.size 0 24 u (Array.replicate (Lib.nDigits u) 0) (w.alloc (.cells Lib.zeros24 117)) hH0 (by rw [Array.size_replicate]; exact Lib.lt_pow_nDigits u) hu64 (by rw [Array.size_replicate]; omega)
  rw [Array.size_replicate] at hfmt
  have HH0 := Lib.hid hH0
  have HT := Lib.hid htab
  have hge : ¬ ((u : Int) < 100) := by omega
  clear hH0 htab
  go_enter Tryz.func67, Tryz.ntmps67
  go_wp2_with (first
    | (go_at_call 88; refine (Tryz.internal_strconv_numDigits u (by omega) hu64 _ (Lib.tabIs_alloc HT.out _)).mono ?_; rintro e w' ⟨rfl, rfl⟩)
    | fail)
  refine hfmt.mono ?_
  rintro e w' ⟨rfl, k, v', dk, rfl, hF⟩
  have hcv : (convert 48 9 (.slice (some ⟨w.heap.size, 0, none⟩) (Lib.nDigits u) 24)).run Tryz.prog ((putRow (fun (b : UInt8) => Value.int .u8 (b.toNat : Int)) (w.alloc (.cells Lib.zeros24 117)) w.heap.size 0 dk).drewN k) = .ok (.string ⟨(Lib.decDigits u).toArray⟩) ((putRow (fun (b : UInt8) => Value.int .u8 (b.toNat : Int)) (w.alloc (.cells Lib.zeros24 117)) w.heap.size 0 dk).drewN k) := by
    have h := run_convert_bytes_back (P := Tryz.prog) ((putRow (fun (b : UInt8) => Value.int .u8 (b.toNat : Int)) (w.alloc (.cells Lib.zeros24 117)) w.heap.size 0 dk).drewN k) 48 9 5 ⟨w.heap.size, 0, none⟩ 24 (Lib.decDigits u) Tryz.underlying48 Tryz.underlying5 Tryz.underlying9 (fun j hj => by
      rw [Lib.row_is_numeral hF j hj, Lib.add_plain, World.cell?_drewN]
      exact cell?_putRow (fun (b : UInt8) => Value.int .u8 (b.toNat : Int)) _ w.heap.size 0 _ dk HH0.out (by rw [hF.size, Array.size_replicate]) j (by rw [hF.size]; rw [Lib.decDigits_length] at hj; exact hj))
    rw [Lib.decDigits_length] at h
    exact h
  go_wp2_with fail
  go_ret
  obtain ⟨os, eo⟩ := Lib.fin_at w (.cells Lib.zeros24 117) dk k 0
  refine ⟨rfl, ?_⟩
  rw [eo]
  exact below_grow w k os
theorem formatUint_any (u : Nat) (hu64 : u < 18446744073709551616) (w : World) (htab : P10 w) :
    Calls Tryz.prog 38 #[.int .u64 (u : Int), .int .i64 10] w fun e w' => e = .returned (.string ⟨(Lib.decDigits u).toArray⟩) ∧ Below w.heap.size w w' := by
  go_enter Tryz.func38, Tryz.ntmps38
  go_wp2_with fail
  by_cases h : u < 100
  · refine (formatUint_in u h _).mono ?_
    rintro e w' ⟨rfl, rfl⟩
    go_wp2_with fail
    go_ret
    exact ⟨rfl, Below.refl _ _⟩
  · refine (formatUint_big u (by omega) hu64 _ htab).mono ?_
    rintro e w' ⟨rfl, hb⟩
    go_wp2_with fail
    go_ret
    exact ⟨rfl, hb⟩
theorem P10.keep {w w' : World} (h : P10 w) (hb : Below w.heap.size w w') : P10 w' := by
  unfold P10 Lib.TabIs World.var? at *
  cases hg : Tryz.prog.globalNamed "internal/strconv.uint64pow10" with
  | none => simp [hg] at h
  | some g =>
    simp only [hg, Option.bind_some] at h ⊢
    cases hgb : w.heap[g]? with
    | none => simp [hgb] at h
    | some o =>
      rw [hb.block g (Array.getElem?_eq_some_iff.1 hgb).1]
      exact h
end
section
open Go Go.ChangeShapes Go.WideShapes Go.ChangeAt Go.RowKit Go.PlainAid
set_option linter.unusedVariables false
set_option linter.unusedSimpArgs false
/-- A text's digits, the lowest first. -/
def revD (l : List UInt8) : List Int := (l.map fun c => (c.toNat : Int) - 48).reverse
theorem revD_val (l : List UInt8) : val 10 (revD l) = spell l := by
  induction l with
  | nil => rfl
  | cons c r ih =>
    unfold revD at ih ⊢
    rw [List.map_cons, List.reverse_cons, val_append, ih]
    simp only [val, spell, List.length_reverse, List.length_map, Int.mul_zero, Int.add_zero]
    rw [Int.mul_comm (10 ^ _)]
    omega
theorem revD_dig {l : List UInt8} (h : AllDig l) : Dig 10 (revD l) := fun i => by
  unfold revD
  rw [List.getD_eq_getElem?_getD]
  cases hi : ((l.map fun c => (c.toNat : Int) - 48).reverse)[i]? with
  | none => simp
  | some x =>
    have hm := List.mem_of_getElem? hi
    rw [List.mem_reverse, List.mem_map] at hm
    obtain ⟨c, hc, rfl⟩ := hm
    have := h c hc
    simp only [Option.getD_some]
    omega
theorem revD_canon {c : UInt8} {r : List UInt8} (h : AllDig (c :: r)) (h0 : c.toNat ≠ 48) : Canon 10 (revD (c :: r)) := by
  refine ⟨revD_dig h, fun _ => ?_⟩
  unfold revD
  rw [List.map_cons, List.reverse_cons, List.getD_eq_getElem?_getD, List.length_append, List.length_singleton, Nat.add_sub_cancel, List.getElem?_append_right (Nat.le_refl _), Nat.sub_self]
  simp only [List.getElem?_cons_zero, Option.getD_some]
  omega
theorem revD_show {l : List UInt8} (h : AllDig l) (neg : Bool) : strOfNums (showN neg (revD l)) = ⟨((if neg then [45] else []) ++ l).toArray⟩ := by
  unfold strOfNums showN revD
  congr 2
  rw [List.map_append, List.reverse_reverse, List.map_map, List.map_map]
  congr 1
  · cases neg <;> rfl
  · conv => rhs; rw [← List.map_id l]
    apply List.map_congr_left
    intro c hc
    have := h c hc
    simp only [Function.comp]
    rw [show (48 + ((c.toNat : Int) - 48)).toNat = c.toNat by omega]
    simp
/-- A text that spells a number, without leading noughts, is what Show writes. -/
theorem show_uniq {neg : Bool} {c : UInt8} {r : List UInt8} {ds : List Int} (h : AllDig (c :: r)) (h0 : c.toNat ≠ 48) (hd : Canon 10 ds) (hv : val 10 ds = spell (c :: r)) : showB neg ds = ⟨((if neg then [45] else []) ++ (c :: r)).toArray⟩ := by
  have e : ds = revD (c :: r) := canon_uniq (by decide) hd (revD_canon h h0) (by rw [revD_val]; exact hv)
  subst e
  unfold showB
  rw [if_neg (by simp [revD]), revD_show h]
theorem u8n {n : Nat} (h : n < 256) : (UInt8.ofNat n).toNat = n := UInt8.toNat_ofNat_of_lt' h
theorem dec_dig (u : Nat) : AllDig (Lib.decDigits u) := by
  induction u using Nat.strongRecOn with
  | _ u ih =>
    by_cases h : u < 10
    · rw [Lib.decDigits_one h]
      intro c hc
      rw [List.mem_singleton] at hc
      subst hc
      rw [u8n (by omega)]
      omega
    · rw [Lib.decDigits, dif_neg h]
      intro c hc
      rw [List.mem_append] at hc
      rcases hc with hc | hc
      · exact ih (u / 10) (by omega) c hc
      · rw [List.mem_singleton] at hc
        subst hc
        rw [u8n (by omega)]
        omega
theorem dec_spell (u : Nat) : spell (Lib.decDigits u) = (u : Int) := by
  induction u using Nat.strongRecOn with
  | _ u ih =>
    by_cases h : u < 10
    · rw [Lib.decDigits_one h]
      simp only [spell, List.length_nil, Int.pow_zero]
      rw [u8n (by omega)]
      omega
    · rw [Lib.decDigits, dif_neg h, spell_append, ih (u / 10) (by omega)]
      simp only [spell, List.length_nil, List.length_singleton, Int.pow_zero]
      rw [u8n (by omega)]
      omega
theorem dec_head (u : Nat) (h : 1 ≤ u) : ∃ c r, Lib.decDigits u = c :: r ∧ c.toNat ≠ 48 := by
  induction u using Nat.strongRecOn with
  | _ u ih =>
    by_cases h9 : u < 10
    · refine ⟨_, _, Lib.decDigits_one h9, ?_⟩
      rw [u8n (by omega)]
      omega
    · obtain ⟨c, r, e, hc⟩ := ih (u / 10) (by omega) (by omega)
      rw [Lib.decDigits, dif_neg h9, e]
      exact ⟨c, _, rfl, hc⟩
/-- The digits of a limb, with noughts ahead. -/
def pad18 (u : Nat) : List UInt8 := List.replicate (18 - Lib.nDigits u) 48 ++ Lib.decDigits u
theorem pad_dig (u : Nat) : AllDig (pad18 u) := fun c hc => by
  unfold pad18 at hc
  rw [List.mem_append] at hc
  rcases hc with hc | hc
  · have := List.eq_of_mem_replicate hc
    subst this
    decide
  · exact dec_dig u c hc
theorem pad_spell (u : Nat) : spell (pad18 u) = (u : Int) := by
  unfold pad18
  rw [spell_append, spell_zeros (fun c hc => List.eq_of_mem_replicate hc), dec_spell]
  simp
theorem nd18 {u : Nat} (h : u < 1000000000000000000) : Lib.nDigits u ≤ 18 := by
  by_cases h0 : u = 0
  · subst h0; rw [Lib.nDigits_small (by decide)]; decide
  · apply Classical.byContradiction
    intro hc
    obtain ⟨c, r, e, hc0⟩ := dec_head u (by omega)
    have h1 := dec_spell u
    have hl := Lib.decDigits_length u
    rw [e] at h1 hl
    simp only [spell] at h1
    have hd := dec_dig u
    rw [e] at hd
    have h2 := spell_bd (l := r) fun x hx => hd x (by simp [hx])
    have h3 := hd c (by simp)
    simp at hl
    have h4 : (10 : Int) ^ 18 ≤ 10 ^ r.length := pow_mono' (by decide) (by omega)
    have h5 : (10 : Int) ^ 18 = 1000000000000000000 := by decide
    have h6 : (1 : Int) * 10 ^ r.length ≤ ((c.toNat : Int) - 48) * 10 ^ r.length := Int.mul_le_mul_of_nonneg_right (by omega) (by omega)
    omega
theorem pad_len {u : Nat} (h : u < 1000000000000000000) : (pad18 u).length = 18 := by
  have := nd18 h
  unfold pad18
  rw [List.length_append, List.length_replicate, Lib.decDigits_length]
  omega
/-- What stands in the builder when i limbs behind the highest are written. -/
def txt (xs : List Int) : Nat → List UInt8
  | 0 => Lib.decDigits (xs.getD (xs.length - 1) 0).toNat
  | i + 1 => txt xs i ++ pad18 (xs.getD (xs.length - 2 - i) 0).toNat
theorem txt_dig (xs : List Int) : ∀ i, AllDig (txt xs i)
  | 0 => dec_dig _
  | i + 1 => fun c hc => by
    rw [txt, List.mem_append] at hc
    rcases hc with hc | hc
    · exact txt_dig xs i c hc
    · exact pad_dig _ c hc
theorem txt_spell {xs : List Int} (hd : Dig B18 xs) : ∀ i, i < xs.length → spell (txt xs i) = val B18 (xs.drop (xs.length - 1 - i))
  | 0, hi => by
    have h0 := (hd (xs.length - 1)).1
    rw [txt, dec_spell, Nat.sub_zero, List.drop_eq_getElem_cons (by omega), List.drop_eq_nil_iff.2 (by omega)]
    rw [List.getD_eq_getElem?_getD, List.getElem?_eq_getElem (by omega)] at h0 ⊢
    simp only [Option.getD_some, val, Int.mul_zero, Int.add_zero] at h0 ⊢
    omega
  | i + 1, hi => by
    have h0 := hd (xs.length - 2 - i)
    rw [txt, spell_append, pad_spell, pad_len (by have := h0.2; rw [B18] at this; have := h0.1; omega), txt_spell hd i (by omega)]
    rw [show xs.length - 1 - (i + 1) = xs.length - 2 - i by omega, List.drop_eq_getElem_cons (i := xs.length - 2 - i) (by omega), show xs.length - 2 - i + 1 = xs.length - 1 - i by omega]
    rw [List.getD_eq_getElem?_getD, List.getElem?_eq_getElem (by omega)] at h0 ⊢
    simp only [Option.getD_some, val] at h0 ⊢
    rw [show (10 : Int) ^ 18 = B18 by decide, Int.mul_comm B18]
    omega
theorem txt_head {xs : List Int} (h : 1 ≤ (xs.getD (xs.length - 1) 0).toNat) : ∀ i, ∃ c r, txt xs i = c :: r ∧ c.toNat ≠ 48
  | 0 => dec_head _ h
  | i + 1 => by
    obtain ⟨c, r, e, hc⟩ := txt_head h i
    exact ⟨c, r ++ _, by rw [txt, e]; rfl, hc⟩
/-- What Text writes is what Show writes. -/
theorem text_show {neg : Bool} {xs ds : List Int} {z : Int} (hx : Sgn B18 neg xs z) (hd : Sgn 10 neg ds z) (h0 : 0 < xs.length) : showB neg ds = ⟨((if neg then [45] else []) ++ txt xs (xs.length - 1)).toArray⟩ := by
  have h1 := hx.canon.2 h0
  have h2 := (hx.canon.1 (xs.length - 1)).1
  obtain ⟨c, r, e, hc⟩ := txt_head (xs := xs) (by omega) (xs.length - 1)
  have h3 := txt_spell hx.canon.1 (xs.length - 1) (by omega)
  rw [Nat.sub_self, List.drop_zero] at h3
  have h4 := txt_dig xs (xs.length - 1)
  rw [e] at h3 h4 ⊢
  refine show_uniq h4 hc hd.canon ?_
  rw [h3, hx.abs (by decide), hd.abs (by decide)]
end
section
open Go Go.ChangeShapes Go.WideShapes Go.ChangeAt Go.RowKit Go.PlainAid
set_option linter.unusedVariables false
set_option linter.unusedSimpArgs false
theorem builder_keep {B b : Nat} {p : Value} {bs : List Value} {w w' : World} (h : Lib.BuilderAt BT BE B b p bs w) (hb : Below w.heap.size w w') : Lib.BuilderAt BT BE B b p bs w' := by
  obtain ⟨h1, v, h2, h3, h4⟩ := h
  exact ⟨h1, v, (hb.block b (Array.getElem?_eq_some_iff.1 h2).1).trans h2, World.ownsRow.kept (row := Option.none) h3 ⟨hb.os, hb.tape, hb.output, hb.size, fun k hk _ => hb.block k hk⟩ (by cases v.ownBlock <;> simp), h4⟩
theorem bytes_str (l : List UInt8) (s : ByteArray) : Lib.byteCells l ++ Lib.strCells s = Lib.byteCells (l ++ s.data.toList) := by
  unfold Lib.byteCells Lib.strCells
  rw [List.map_append]
set_option maxRecDepth 100000 in
set_option maxHeartbeats 1000000 in
theorem text_bad (neg : Bool) (u : Value) (xs : List Int) (w : World) (hr : Rd w u xs) (hf : Fit xs) (hg : goodB neg xs = false) :
    Calls Tryz.prog 12 #[.agg #[.bool neg, u]] w (TextPost w ⟨#[]⟩) := by
  have HR := Lib.hid hr
  have HG := Lib.hid hg
  clear hr hg
  go_enter Tryz.func12, Tryz.ntmps12
  go_wp2_with fail
  generalize hw2 : World.alloc w _ = w2
  have q0 : w2.cell? ⟨w.heap.size, 0, none⟩ = some (.bool neg) := by rw [← hw2]; simp
  have q1 : w2.cell? ⟨w.heap.size, 1, none⟩ = some u := by rw [← hw2]; simp
  have HB2 := Lib.hid (show Below w.heap.size w w2 by rw [← hw2]; exact (Below.refl _ _).alloc (Nat.le_refl _) _)
  clear hw2
  refine (good_no _ _ xs w2 (HR.out.keep HB2.out) hf HG.out).mono ?_
  rintro e w3 ⟨rfl, hb3⟩
  have HB3 := Lib.hid (HB2.out.trans (hb3.mono HB2.out.size))
  clear hb3 q0 q1
  go_wp2_with fail
  go_ret
  exact ⟨rfl, HB3.out⟩
theorem txt_len {xs : List Int} (hd : Dig B18 xs) : ∀ i, (txt xs i).length ≤ 18 * (i + 1)
  | 0 => by
    have h := hd (xs.length - 1)
    rw [B18] at h
    rw [txt, Lib.decDigits_length]
    exact nd18 (by omega)
  | i + 1 => by
    have h := hd (xs.length - 2 - i)
    rw [B18] at h
    have := txt_len hd i
    rw [txt, List.length_append, pad_len (by omega)]
    omega
theorem zeros_ext {n : Nat} (h : n ≤ 18) : ((⟨#[48, 48, 48, 48, 48, 48, 48, 48, 48, 48, 48, 48, 48, 48, 48, 48, 48, 48]⟩ : ByteArray).extract n 18).data.toList = List.replicate (18 - n) 48 := by
  rw [← Lib.toList_data, Lib.extract_toList, show (⟨#[48, 48, 48, 48, 48, 48, 48, 48, 48, 48, 48, 48, 48, 48, 48, 48, 48, 48]⟩ : ByteArray).data.toList = List.replicate 18 48 from rfl, List.drop_replicate, List.take_replicate, Nat.min_self]
/-- The text of a number in form. -/
def textB (neg : Bool) (xs : List Int) : ByteArray := if xs.length = 0 then ⟨#[48]⟩ else ⟨((if neg then [45] else []) ++ txt xs (xs.length - 1)).toArray⟩
set_option maxRecDepth 100000 in
set_option maxHeartbeats 4000000 in
theorem text_any (neg : Bool) (u : Value) (xs : List Int) (z : Int) (w : World) (hr : Rd w u xs) (hs : Sgn B18 neg xs z) (hl : xs.length ≤ 30) (hP : P10 w) :
    Calls Tryz.prog 12 #[.agg #[.bool neg, u]] w (TextPost w (textB neg xs)) := by
  have HR := Lib.hid hr
  obtain ⟨p, c, rfl, _, _, hp⟩ := rd_form hr
  have HP1 := Lib.hid hp
  have HS := Lib.hid hs
  have HPT := Lib.hid hP
  clear hr hp hs hP
  go_enter Tryz.func12, Tryz.ntmps12
  go_wp2_with fail
  generalize hw2 : World.alloc w _ = w2
  have q0 : w2.cell? ⟨w.heap.size, 0, none⟩ = some (.bool neg) := by rw [← hw2]; simp
  have q1 : w2.cell? ⟨w.heap.size, 1, none⟩ = some (.slice p xs.length c) := by rw [← hw2]; simp
  have HB2 := Lib.hid (show Below w.heap.size w w2 by rw [← hw2]; exact (Below.refl _ _).alloc (Nat.le_refl _) _)
  clear hw2
  refine (good_yes _ _ xs _ w2 (HR.out.keep HB2.out) HS.out hl).mono ?_
  rintro e w3 ⟨rfl, hb3⟩
  have t0 := below_cell hb3 q0
  have t1 := below_cell hb3 q1
  have HB3 := Lib.hid (HB2.out.trans (hb3.mono HB2.out.size))
  clear q0 q1 hb3 HB2
  by_cases h0 : xs.length = 0
  · have hz : ((xs.length : Int) == 0) = true := by simp [h0]
    have HT := Lib.hid (show textB neg xs = ⟨#[48]⟩ by unfold textB; rw [if_pos h0])
    go_wp2_with fail
    go_ret
    exact ⟨by rw [HT.out]; rfl, HB3.out⟩
  · have hz : ((xs.length : Int) == 0) = false := by rw [beq_eq_false_iff_ne]; omega
    have HT := Lib.hid (show textB neg xs = ⟨((if neg then [45] else []) ++ txt xs (xs.length - 1)).toArray⟩ by unfold textB; rw [if_neg h0])
    obtain ⟨b, off, rfl, hcell⟩ := HP1.out (by omega)
    have HC := Lib.hid hcell
    have hn1 : 1 ≤ xs.length := by omega
    have t2 := below_cell HB3.out (hcell (xs.length - 1) (by omega))
    have hd0 := HS.out.canon.1 (xs.length - 1)
    rw [B18] at hd0
    obtain ⟨t, ht⟩ : ∃ t : Nat, xs.getD (xs.length - 1) 0 = (t : Int) := ⟨(xs.getD (xs.length - 1) 0).toNat, by omega⟩
    have HT0 := Lib.hid (show txt xs 0 = Lib.decDigits t by rw [txt, ht]; rfl)
    rw [ht] at t2 hd0
    clear hcell HP1 ht
    have HP3 := Lib.hid (HPT.out.keep HB3.out)
    have hm1 := World.block_lt_of_cell? _ _ t1
    go_wp2_with fail
    refine (formatUint_any t (by omega) w3 HP3.out).mono ?_
    rintro e w4 ⟨rfl, hb4⟩
    have s0 := below_cell hb4 t0
    have s1 := below_cell hb4 t1
    have HB4 := Lib.hid (HB3.out.trans (hb4.mono HB3.out.size))
    have HP4 := Lib.hid (HP3.out.keep hb4)
    clear hb4 t0 t1 t2
    have hlt4 := World.block_lt_of_cell? _ _ s1
    have hnd0 := nd18 (u := t) (by omega)
    have hpl0 : (Lib.decDigits t).length = Lib.nDigits t := Lib.decDigits_length t
    have hcat : ¬ 9223372036854775807 < 1 + (Lib.decDigits t).length := by omega
    cases neg with
    | true =>
      go_wp2_with fail
      refine (writeString_any w4.heap.size w4.heap.size [] _ _ (Lib.fresh_isBuilder BT BE w4) (by rw [Lib.size_eq]; simp; omega) (by simp)).mono ?_
      rintro e w5 ⟨rfl, hBu, hb5⟩
      have HBU := Lib.hid (show Lib.BuilderAt BT BE w4.heap.size w4.heap.size (.pointer (some ⟨w4.heap.size, 0, none⟩)) (Lib.byteCells ([45] ++ txt xs 0)) w5 by rw [HT0.out]; simpa [Lib.strCells, Lib.byteCells] using hBu)
      have HB5 := Lib.hid (show Below w4.heap.size w4 w5 from ((Below.refl _ _).alloc (Nat.le_refl _) _).trans hb5)
      clear hBu hb5 HT0
      have s5 := below_cell HB5.out s1
      go_wp2_with fail
      go_loopw [6, 7, 31] (fun _ _ iv wr => ∃ i : Nat, iv = .int .i64 i ∧ i ≤ xs.length - 1 ∧ Lib.BuilderAt BT BE w4.heap.size w4.heap.size (.pointer (some ⟨w4.heap.size, 0, none⟩)) (Lib.byteCells ([45] ++ txt xs i)) wr ∧ Below w4.heap.size w4 wr) (fun _ _ iv _ => xs.length - 1 - (intOf iv).toNat)
      case atStart => exact ⟨0, by go_num, by omega, HBU.out, HB5.out⟩
      case round =>
        obtain ⟨i, rfl, hi, hbu, hbw⟩ := hrel
        have HBI := Lib.hid hbu
        have HBW := Lib.hid hbw
        have hsz := hbw.size
        have s6 := below_cell hbw s1
        have HLW := Lib.hid (HB4.out.trans (hbw.mono HB4.out.size))
        have HPW := Lib.hid (HP4.out.keep hbw)
        clear hbu hbw s5 s1 s0
        by_cases hi1 : i < xs.length - 1
        · have hiz : (i : Int) < (xs.length : Int) - 1 := by omega
          have ci := below_cell HLW.out (HC.out (xs.length - 2 - i) (by omega))
          have hdv := HS.out.canon.1 (xs.length - 2 - i)
          rw [B18] at hdv
          obtain ⟨v, hv⟩ : ∃ v : Nat, xs.getD (xs.length - 2 - i) 0 = (v : Int) := ⟨(xs.getD (xs.length - 2 - i) 0).toNat, by omega⟩
          have HTN := Lib.hid (show txt xs (i + 1) = txt xs i ++ pad18 v by rw [txt, hv]; rfl)
          rw [hv] at ci hdv
          clear hv
          have hnd := nd18 (u := v) (by omega)
          have hpl : (Lib.decDigits v).length = Lib.nDigits v := Lib.decDigits_length v
          have hti : ((xs.length : Int) - 2 - (i : Int)).toNat = xs.length - 2 - i := by omega
          have hw1 : IntKind.i64.wrap ((xs.length : Int) - 2) = (xs.length : Int) - 2 := IntWalk.i64_in _ (by omega)
          have hw2 : IntKind.i64.wrap ((xs.length : Int) - 2 - (i : Int)) = (xs.length : Int) - 2 - (i : Int) := IntWalk.i64_in _ (by omega)
          have hw3 : (0 : Int) ≤ (xs.length : Int) - 2 - (i : Int) := by omega
          have hw4 : (xs.length : Int) - 2 - (i : Int) < (xs.length : Int) := by omega
          go_wp2_with fail
          refine (formatUint_any v (by omega) wr HPW.out).mono ?_
          rintro e w6 ⟨rfl, hb6⟩
          have HB6 := Lib.hid (HBW.out.trans (hb6.mono hsz))
          have HB6U := Lib.hid (builder_keep HBI.out hb6)
          have hz6 := hb6.size
          clear hb6 s6 ci
          have hps : (⟨(Lib.decDigits v).toArray⟩ : ByteArray).size = Lib.nDigits v := by rw [list_size, hpl]
          have hndz : ((Lib.nDigits v : Nat) : Int) ≤ 18 := by omega
          go_wp2_with fail
          have hzx := zeros_ext hnd
          have htl := txt_len HS.out.canon.1 i
          refine (writeString_any w4.heap.size w4.heap.size _ _ w6 (.inr HB6U.out) (by rw [Lib.byteCells_length, Lib.size_eq, hzx, List.length_replicate]; simp; omega) (by omega)).mono ?_
          rintro e w7 ⟨rfl, hBu, hb7⟩
          rw [bytes_str, hzx] at hBu
          have HB7U := Lib.hid hBu
          have HB7 := Lib.hid (HB6.out.trans hb7)
          have hz7 := hb7.size
          clear hBu hb7
          go_wp2_with fail
          refine (writeString_any w4.heap.size w4.heap.size _ _ w7 (.inr HB7U.out) (by rw [Lib.byteCells_length, hps]; simp; omega) (by omega)).mono ?_
          rintro e w8 ⟨rfl, hBu, hb8⟩
          rw [bytes_str] at hBu
          have HB8U := Lib.hid (show Lib.BuilderAt BT BE w4.heap.size w4.heap.size (.pointer (some ⟨w4.heap.size, 0, none⟩)) (Lib.byteCells ([45] ++ txt xs (i + 1))) w8 by
            rw [HTN.out]
            unfold pad18
            rw [← List.append_assoc, ← List.append_assoc]
            exact hBu)
          have HB8 := Lib.hid (HB7.out.trans hb8)
          clear hBu hb8
          go_wp2_with fail
          go_roundw
          case rel => exact ⟨i + 1, by go_num, by omega, HB8U.out, HB8.out⟩
          case measure => simp [intOf]; omega
        · obtain rfl : i = xs.length - 1 := by omega
          have hiz : ¬ (((xs.length - 1 : Nat) : Int) < (xs.length : Int) - 1) := by omega
          go_wp2_with fail
          refine (Tryz.Builder_String_any w4.heap.size w4.heap.size ([45] ++ txt xs (xs.length - 1)) wr (.inr HBI.out) (by omega)).mono ?_
          rintro e w9 ⟨rfl, hb9⟩
          have HB9 := Lib.hid (HLW.out.trans (hb9.mono (by have := HB4.out.size; omega)))
          clear hb9
          go_wp2_with fail
          go_ret
          exact ⟨by rw [HT.out]; rfl, HB9.out⟩
    | false =>
      go_wp2_with fail
      refine (writeString_any w4.heap.size w4.heap.size [] _ _ (Lib.fresh_isBuilder BT BE w4) (by rw [Lib.size_eq]; simp; omega) (by simp)).mono ?_
      rintro e w5 ⟨rfl, hBu, hb5⟩
      have HBU := Lib.hid (show Lib.BuilderAt BT BE w4.heap.size w4.heap.size (.pointer (some ⟨w4.heap.size, 0, none⟩)) (Lib.byteCells ([] ++ txt xs 0)) w5 by rw [HT0.out]; simpa [Lib.strCells, Lib.byteCells] using hBu)
      have HB5 := Lib.hid (show Below w4.heap.size w4 w5 from ((Below.refl _ _).alloc (Nat.le_refl _) _).trans hb5)
      clear hBu hb5 HT0
      have s5 := below_cell HB5.out s1
      go_wp2_with fail
      go_loopw [6, 7, 31] (fun _ _ iv wr => ∃ i : Nat, iv = .int .i64 i ∧ i ≤ xs.length - 1 ∧ Lib.BuilderAt BT BE w4.heap.size w4.heap.size (.pointer (some ⟨w4.heap.size, 0, none⟩)) (Lib.byteCells ([] ++ txt xs i)) wr ∧ Below w4.heap.size w4 wr) (fun _ _ iv _ => xs.length - 1 - (intOf iv).toNat)
      case atStart => exact ⟨0, by go_num, by omega, HBU.out, HB5.out⟩
      case round =>
        obtain ⟨i, rfl, hi, hbu, hbw⟩ := hrel
        have HBI := Lib.hid hbu
        have HBW := Lib.hid hbw
        have hsz := hbw.size
        have s6 := below_cell hbw s1
        have HLW := Lib.hid (HB4.out.trans (hbw.mono HB4.out.size))
        have HPW := Lib.hid (HP4.out.keep hbw)
        clear hbu hbw s5 s1 s0
        by_cases hi1 : i < xs.length - 1
        · have hiz : (i : Int) < (xs.length : Int) - 1 := by omega
          have ci := below_cell HLW.out (HC.out (xs.length - 2 - i) (by omega))
          have hdv := HS.out.canon.1 (xs.length - 2 - i)
          rw [B18] at hdv
          obtain ⟨v, hv⟩ : ∃ v : Nat, xs.getD (xs.length - 2 - i) 0 = (v : Int) := ⟨(xs.getD (xs.length - 2 - i) 0).toNat, by omega⟩
          have HTN := Lib.hid (show txt xs (i + 1) = txt xs i ++ pad18 v by rw [txt, hv]; rfl)
          rw [hv] at ci hdv
          clear hv
          have hnd := nd18 (u := v) (by omega)
          have hpl : (Lib.decDigits v).length = Lib.nDigits v := Lib.decDigits_length v
          have hti : ((xs.length : Int) - 2 - (i : Int)).toNat = xs.length - 2 - i := by omega
          have hw1 : IntKind.i64.wrap ((xs.length : Int) - 2) = (xs.length : Int) - 2 := IntWalk.i64_in _ (by omega)
          have hw2 : IntKind.i64.wrap ((xs.length : Int) - 2 - (i : Int)) = (xs.length : Int) - 2 - (i : Int) := IntWalk.i64_in _ (by omega)
          have hw3 : (0 : Int) ≤ (xs.length : Int) - 2 - (i : Int) := by omega
          have hw4 : (xs.length : Int) - 2 - (i : Int) < (xs.length : Int) := by omega
          go_wp2_with fail
          refine (formatUint_any v (by omega) wr HPW.out).mono ?_
          rintro e w6 ⟨rfl, hb6⟩
          have HB6 := Lib.hid (HBW.out.trans (hb6.mono hsz))
          have HB6U := Lib.hid (builder_keep HBI.out hb6)
          have hz6 := hb6.size
          clear hb6 s6 ci
          have hps : (⟨(Lib.decDigits v).toArray⟩ : ByteArray).size = Lib.nDigits v := by rw [list_size, hpl]
          have hndz : ((Lib.nDigits v : Nat) : Int) ≤ 18 := by omega
          go_wp2_with fail
          have hzx := zeros_ext hnd
          have htl := txt_len HS.out.canon.1 i
          refine (writeString_any w4.heap.size w4.heap.size _ _ w6 (.inr HB6U.out) (by rw [Lib.byteCells_length, Lib.size_eq, hzx, List.length_replicate]; simp; omega) (by omega)).mono ?_
          rintro e w7 ⟨rfl, hBu, hb7⟩
          rw [bytes_str, hzx] at hBu
          have HB7U := Lib.hid hBu
          have HB7 := Lib.hid (HB6.out.trans hb7)
          have hz7 := hb7.size
          clear hBu hb7
          go_wp2_with fail
          refine (writeString_any w4.heap.size w4.heap.size _ _ w7 (.inr HB7U.out) (by rw [Lib.byteCells_length, hps]; simp; omega) (by omega)).mono ?_
          rintro e w8 ⟨rfl, hBu, hb8⟩
          rw [bytes_str] at hBu
          have HB8U := Lib.hid (show Lib.BuilderAt BT BE w4.heap.size w4.heap.size (.pointer (some ⟨w4.heap.size, 0, none⟩)) (Lib.byteCells ([] ++ txt xs (i + 1))) w8 by
            rw [HTN.out]
            unfold pad18
            rw [← List.append_assoc, ← List.append_assoc]
            exact hBu)
          have HB8 := Lib.hid (HB7.out.trans hb8)
          clear hBu hb8
          go_wp2_with fail
          go_roundw
          case rel => exact ⟨i + 1, by go_num, by omega, HB8U.out, HB8.out⟩
          case measure => simp [intOf]; omega
        · obtain rfl : i = xs.length - 1 := by omega
          have hiz : ¬ (((xs.length - 1 : Nat) : Int) < (xs.length : Int) - 1) := by omega
          go_wp2_with fail
          refine (Tryz.Builder_String_any w4.heap.size w4.heap.size ([] ++ txt xs (xs.length - 1)) wr (.inr HBI.out) (by omega)).mono ?_
          rintro e w9 ⟨rfl, hb9⟩
          have HB9 := Lib.hid (HLW.out.trans (hb9.mono (by have := HB4.out.size; omega)))
          clear hb9
          go_wp2_with fail
          go_ret
          exact ⟨by rw [HT.out]; rfl, HB9.out⟩
end
section
open Go Go.ChangeShapes Go.WideShapes Go.ChangeAt Go.RowKit Go.PlainAid
set_option linter.unusedVariables false
set_option linter.unusedSimpArgs false
theorem text_show2 {n1 nn : Bool} {xs ds : List Int} {z : Int} (hx : Sgn B18 n1 xs z) (hd : Sgn 10 nn ds z) : nn = n1 ∧ showB nn ds = textB n1 xs := by
  have hn : nn = n1 := (hd.neg_iff (by decide)).trans (hx.neg_iff (by decide)).symm
  subst hn
  refine ⟨rfl, ?_⟩
  by_cases h0 : xs.length = 0
  · have hz := (hx.empty (by decide)).1 h0
    have hd0 := (hd.empty (by decide)).2 hz
    unfold showB textB
    rw [if_pos h0, if_pos hd0]
  · rw [text_show hx hd (by omega)]
    unfold textB
    rw [if_neg h0]
def TxAt (V : World) (s : ByteArray) (e : Ending) (w' : World) : Prop := e = .returned (.string s) ∧ Below V.heap.size V w'
theorem text_at {V wx : World} {n1 : Bool} {u1 : Value} {xs : List Int} {z : Int} (hr : Rd V u1 xs) (hs : Sgn B18 n1 xs z) (hl : xs.length ≤ 30) (hP : P10 V) (hx : Below V.heap.size V wx) : Calls Tryz.prog 12 #[.agg #[.bool n1, u1]] wx (TxAt V (textB n1 xs)) :=
  (text_any n1 u1 xs z wx (hr.keep hx) hs hl (hP.keep hx)).mono fun _ _ h => ⟨h.1, hx.trans (h.2.mono hx.size)⟩
def OfNum (V wx : World) (n1 : Bool) (xs : List Int) (e : Ending) (w' : World) : Prop :=
  ∃ p c ds, e = .returned (.agg #[.bool n1, .slice p (List.length ds) c]) ∧ Rb w' (.slice p ds.length c) ds ∧ Dig 10 ds ∧ ds.length ≤ 540 ∧ showB n1 ds = textB n1 xs ∧ Below V.heap.size V w' ∧ Below wx.heap.size wx w'
theorem ofnum_at {V wx : World} {n1 : Bool} {u1 : Value} {xs : List Int} {z : Int} (hr : Rd V u1 xs) (hs : Sgn B18 n1 xs z) (hl : xs.length ≤ 30) (hx : Below V.heap.size V wx) : Calls Tryz.prog 17 #[.agg #[.bool n1, u1]] wx (OfNum V wx n1 xs) := by
  refine (of_any n1 u1 xs z wx (hr.keep hx) hs (by omega)).mono ?_
  rintro e w' ⟨nn, u, ds, rfl, hrb, hs2, hb⟩
  obtain ⟨rfl, hsh⟩ := text_show2 hs hs2
  obtain ⟨p, c, rfl, _, _, _⟩ := rb_form hrb
  exact ⟨p, c, ds, rfl, hrb, hs2.canon.1, hs2.fits.2 (hs.small.1 hl), hsh, hx.trans (hb.mono hx.size), hb⟩
theorem show_at {V wx : World} {n1 : Bool} {u : Value} {xs ds : List Int} (hr : Rb wx u ds) (hd : Dig 10 ds) (hl : ds.length ≤ 540) (hsh : showB n1 ds = textB n1 xs) (hx : Below V.heap.size V wx) : Calls Tryz.prog 16 #[.agg #[.bool n1, u]] wx (TxAt V (textB n1 xs)) := by
  refine (show_any n1 u ds wx hr hd (by omega)).mono ?_
  rintro e w' ⟨rfl, hb⟩
  exact ⟨by rw [hsh], hx.trans (hb.mono hx.size)⟩
end
end Go.Proofs.YtbhommcpgejbfaaGreatDoor
