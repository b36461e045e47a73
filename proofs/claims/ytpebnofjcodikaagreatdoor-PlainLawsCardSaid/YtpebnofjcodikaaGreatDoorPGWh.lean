/- Layer 2: the document's Show: a number's text. Layer 2: the document's Read: a text's number, digit by digit. Layer 2: numbers written in digits, from the highest down: what ParseUint, the trimming and the windows of a text are. Layer 2: what Parse calls of Go's library: the sign cut, the noughts cut, a number read. Layer 2: whole.Parse, walked. Layer 2: strconv.FormatUint at base 10, of any uint64. Layer 2: decimal texts without leading noughts: there is but one of each number. Layer 2: whole.Text, walked. -/
import Derived.Test.YtpebnofjcodikaaGreatDoorPGWg
import Derived.Laws.BytesArg
import Derived.PlainAid
import Derived.Deep.QuietTactic
import Derived.BigQuiet
import Derived.Lib.ParseIntB
import Derived.Lib.TrimByte
import Derived.Lib.Strings
import Derived.Test.YtpebnofjcodikaaGreatDoorShelf2
import Derived.Lib.SmallJoins
import Derived.Test.YtpebnofjcodikaaGreatDoorPGWd
import Derived.Lib.AppendIntMem
import Derived.Lib.ItoaLen
namespace Go.Proofs.YtpebnofjcodikaaGreatDoor
section
open Go Go.ChangeShapes Go.WideShapes Go.ChangeAt Go.RowKit
set_option linter.unusedVariables false
set_option linter.unusedSimpArgs false
end
section
open Go Go.ChangeShapes Go.WideShapes Go.ChangeAt Go.RowKit Go.PlainAid
set_option linter.unusedVariables false
set_option linter.unusedSimpArgs false
/-- All bytes from m on are digits. -/
def DigsFrom (s : ByteArray) (m : Nat) : Prop := ∀ k, m ≤ k → k < s.size → 48 ≤ bt s k ∧ bt s k ≤ 57
theorem DigsFrom.step {s : ByteArray} {k : Nat} (h : DigsFrom s (k + 1)) (h0 : 48 ≤ bt s k) (h1 : bt s k ≤ 57) : DigsFrom s k := fun j hj hl => by
  by_cases e : j = k
  · subst e; exact ⟨h0, h1⟩
  · exact h j (by omega) hl
end
section
open Go Go.ChangeShapes Go.WideShapes Go.ChangeAt Go.RowKit Go.PlainAid
set_option linter.unusedVariables false
set_option linter.unusedSimpArgs false
/-- The number that digits spell, the highest first. -/
def spell : List UInt8 → Int
  | [] => 0
  | c :: r => ((c.toNat : Int) - 48) * 10 ^ r.length + spell r
theorem spell_append (a b : List UInt8) : spell (a ++ b) = spell a * 10 ^ b.length + spell b := by
  induction a with
  | nil => simp [spell]
  | cons c r ih =>
    simp only [List.cons_append, spell, ih, List.length_append]
    rw [Int.pow_add, Int.add_mul, Int.mul_assoc]
    omega
def AllDig (l : List UInt8) : Prop := ∀ c ∈ l, 48 ≤ c.toNat ∧ c.toNat ≤ 57
theorem spell_bd {l : List UInt8} (h : AllDig l) : 0 ≤ spell l ∧ spell l < 10 ^ l.length := by
  induction l with
  | nil => simp [spell]
  | cons c r ih =>
    have h1 := ih fun x hx => h x (by simp [hx])
    have h2 := h c (by simp)
    have h3 : (0 : Int) < 10 ^ r.length := pow_pos' (by decide) _
    simp only [spell, List.length_cons, Int.pow_succ]
    have h4 : 0 ≤ ((c.toNat : Int) - 48) * 10 ^ r.length := Int.mul_nonneg (by omega) (by omega)
    have h5 : ((c.toNat : Int) - 48) * 10 ^ r.length ≤ 9 * 10 ^ r.length := Int.mul_le_mul_of_nonneg_right (by omega) (by omega)
    omega
theorem bt_list (s : ByteArray) {k : Nat} (h : k < s.size) : bt s k = ((s.data.toList[k]'(by rw [← Lib.size_eq]; exact h)).toNat : Int) := by
  unfold bt
  rw [dif_pos h]
  simp
  rfl
end
section
open Go Go.ChangeShapes Go.WideShapes Go.ChangeAt Go.RowKit Go.PlainAid Go.Joins
set_option linter.unusedVariables false
set_option linter.unusedSimpArgs false
theorem list_size (l : List UInt8) : (⟨l.toArray⟩ : ByteArray).size = l.length := by rw [Lib.size_eq]
end
section
open Go Go.ChangeShapes Go.WideShapes Go.ChangeAt Go.RowKit Go.PlainAid Go.Joins
set_option linter.unusedVariables false
set_option linter.unusedSimpArgs false
end
section
open Go Go.ChangeShapes Go.WideShapes Go.ChangeAt Go.RowKit Go.Sort Go.Lib
set_option linter.unusedVariables false
set_option linter.unusedSimpArgs false
/-- The library's table of powers of ten lies where it was laid. -/
def P10 (w : World) : Prop := Lib.TabIs Tryz.prog w "internal/strconv.uint64pow10" .u64 Lib.pow10Tab
theorem below_grow (w : World) (k : Nat) (os : Array Obj) : Below w.heap.size w (grow (w.drewN k) os) :=
  ⟨(below_drewN (Below.refl w.heap.size w) k).os, by simp [grow], (below_drewN (Below.refl w.heap.size w) k).output, by simp [grow], fun g hg => Lib.heap_grow_old w k os g hg⟩
set_option maxRecDepth 100000 in
set_option maxHeartbeats 1000000 in
theorem formatUint_big (u : Nat) (hu : 100 ≤ u) (hu64 : u < 18446744073709551616) (w : World) (htab : P10 w) :
    Calls Tryz.prog 134 #[.int .u64 (u : Int), .int .i64 10] w fun e w' => e = .returned (.string ⟨(Lib.decDigits u).toArray⟩) ∧ Below w.heap.size w w' := by
  have hnd20 : Lib.nDigits u ≤ 20 := Lib.nDigits_le20 u hu64
  have hsl : ∀ W, (Instr.sliceAt 171 (.pointer (some ⟨w.heap.size, 0, none⟩)) none (some (.int .i64 (Lib.nDigits u : Int))) none).run Tryz.prog W = .ok (.slice (some ⟨w.heap.size, 0, none⟩) (Lib.nDigits u) 24) W := fun W => by
    rw [run_sliceAt_array_h W 171 ⟨w.heap.size, 0, none⟩ (by kernel_rfl) .i64 (Lib.nDigits u : Int) (by omega) (by rw [show Tryz.prog.arrayLen 171 = 24 by kernel_rfl]; omega)]
    rw [show Tryz.prog.arrayLen 171 = 24 by kernel_rfl, show (sizeOf (Tryz.prog.elem 171)).run Tryz.prog W = .ok 1 W by kernel_rfl]
    simp [Result.andThen, slicedAt, Addr.add]
  have hH0 := Lib.holds_zero0 w 171 (Lib.nDigits u) (by omega)
  have hfmt := Tryz.internal_strconv_formatBase10 w.heap.size 0 24 u (Array.replicate (Lib.nDigits u) 0) (w.alloc (.cells Lib.zeros24 171)) hH0 (by rw [Array.size_replicate]; exact Lib.lt_pow_nDigits u) hu64 (by rw [Array.size_replicate]; omega)
  rw [Array.size_replicate] at hfmt
  have HH0 := Lib.hid hH0
  have HT := Lib.hid htab
  have hge : ¬ ((u : Int) < 100) := by omega
  clear hH0 htab
  go_enter Tryz.func134, Tryz.ntmps134
  go_wp2_with (first
    | (go_at_call 156; refine (Tryz.internal_strconv_numDigits u (by omega) hu64 _ (Lib.tabIs_alloc HT.out _)).mono ?_; rintro e w' ⟨rfl, rfl⟩)
    | fail)
  refine hfmt.mono ?_
  rintro e w' ⟨rfl, k, v', dk, rfl, hF⟩
  have hcv : (convert 38 9 (.slice (some ⟨w.heap.size, 0, none⟩) (Lib.nDigits u) 24)).run Tryz.prog ((putRow (fun (b : UInt8) => Value.int .u8 (b.toNat : Int)) (w.alloc (.cells Lib.zeros24 171)) w.heap.size 0 dk).drewN k) = .ok (.string ⟨(Lib.decDigits u).toArray⟩) ((putRow (fun (b : UInt8) => Value.int .u8 (b.toNat : Int)) (w.alloc (.cells Lib.zeros24 171)) w.heap.size 0 dk).drewN k) := by
    have h := run_convert_bytes_back (P := Tryz.prog) ((putRow (fun (b : UInt8) => Value.int .u8 (b.toNat : Int)) (w.alloc (.cells Lib.zeros24 171)) w.heap.size 0 dk).drewN k) 38 9 5 ⟨w.heap.size, 0, none⟩ 24 (Lib.decDigits u) Tryz.underlying38 Tryz.underlying5 Tryz.underlying9 (fun j hj => by
      rw [Lib.row_is_numeral hF j hj, Lib.add_plain, World.cell?_drewN]
      exact cell?_putRow (fun (b : UInt8) => Value.int .u8 (b.toNat : Int)) _ w.heap.size 0 _ dk HH0.out (by rw [hF.size, Array.size_replicate]) j (by rw [hF.size]; rw [Lib.decDigits_length] at hj; exact hj))
    rw [Lib.decDigits_length] at h
    exact h
  go_wp2_with fail
  go_ret
  obtain ⟨os, eo⟩ := Lib.fin_at w (.cells Lib.zeros24 171) dk k 0
  refine ⟨rfl, ?_⟩
  rw [eo]
  exact below_grow w k os
theorem formatUint_any (u : Nat) (hu64 : u < 18446744073709551616) (w : World) (htab : P10 w) :
    Calls Tryz.prog 108 #[.int .u64 (u : Int), .int .i64 10] w fun e w' => e = .returned (.string ⟨(Lib.decDigits u).toArray⟩) ∧ Below w.heap.size w w' := by
  go_enter Tryz.func108, Tryz.ntmps108
  go_wp2_with fail
  by_cases h : u < 100
  · refine (formatUint_in u h _).mono ?_
    rintro e w' ⟨rfl, rfl⟩
    go_wp2_with fail
    go_ret
    exact ⟨rfl, Below.refl _ _⟩
  · refine (formatUint_big u (by omega) hu64 _ htab).mono ?_
    rintro e w' ⟨rfl, hb⟩
    go_wp2_with fail
    go_ret
    exact ⟨rfl, hb⟩
theorem P10.keep {w w' : World} (h : P10 w) (hb : Below w.heap.size w w') : P10 w' := by
  unfold P10 Lib.TabIs World.var? at *
  cases hg : Tryz.prog.globalNamed "internal/strconv.uint64pow10" with
  | none => simp [hg] at h
  | some g =>
    simp only [hg, Option.bind_some] at h ⊢
    cases hgb : w.heap[g]? with
    | none => simp [hgb] at h
    | some o =>
      rw [hb.block g (Array.getElem?_eq_some_iff.1 hgb).1]
      exact h
end
section
open Go Go.ChangeShapes Go.WideShapes Go.ChangeAt Go.RowKit Go.PlainAid
set_option linter.unusedVariables false
set_option linter.unusedSimpArgs false
theorem u8n {n : Nat} (h : n < 256) : (UInt8.ofNat n).toNat = n := UInt8.toNat_ofNat_of_lt' h
theorem dec_dig (u : Nat) : AllDig (Lib.decDigits u) := by
  induction u using Nat.strongRecOn with
  | _ u ih =>
    by_cases h : u < 10
    · rw [Lib.decDigits_one h]
      intro c hc
      rw [List.mem_singleton] at hc
      subst hc
      rw [u8n (by omega)]
      omega
    · rw [Lib.decDigits, dif_neg h]
      intro c hc
      rw [List.mem_append] at hc
      rcases hc with hc | hc
      · exact ih (u / 10) (by omega) c hc
      · rw [List.mem_singleton] at hc
        subst hc
        rw [u8n (by omega)]
        omega
theorem dec_spell (u : Nat) : spell (Lib.decDigits u) = (u : Int) := by
  induction u using Nat.strongRecOn with
  | _ u ih =>
    by_cases h : u < 10
    · rw [Lib.decDigits_one h]
      simp only [spell, List.length_nil, Int.pow_zero]
      rw [u8n (by omega)]
      omega
    · rw [Lib.decDigits, dif_neg h, spell_append, ih (u / 10) (by omega)]
      simp only [spell, List.length_nil, List.length_singleton, Int.pow_zero]
      rw [u8n (by omega)]
      omega
theorem dec_head (u : Nat) (h : 1 ≤ u) : ∃ c r, Lib.decDigits u = c :: r ∧ c.toNat ≠ 48 := by
  induction u using Nat.strongRecOn with
  | _ u ih =>
    by_cases h9 : u < 10
    · refine ⟨_, _, Lib.decDigits_one h9, ?_⟩
      rw [u8n (by omega)]
      omega
    · obtain ⟨c, r, e, hc⟩ := ih (u / 10) (by omega) (by omega)
      rw [Lib.decDigits, dif_neg h9, e]
      exact ⟨c, _, rfl, hc⟩
/-- The digits of a limb, with noughts ahead. -/
def pad18 (u : Nat) : List UInt8 := List.replicate (18 - Lib.nDigits u) 48 ++ Lib.decDigits u
theorem pad_dig (u : Nat) : AllDig (pad18 u) := fun c hc => by
  unfold pad18 at hc
  rw [List.mem_append] at hc
  rcases hc with hc | hc
  · have := List.eq_of_mem_replicate hc
    subst this
    decide
  · exact dec_dig u c hc
theorem nd18 {u : Nat} (h : u < 1000000000000000000) : Lib.nDigits u ≤ 18 := by
  by_cases h0 : u = 0
  · subst h0; rw [Lib.nDigits_small (by decide)]; decide
  · apply Classical.byContradiction
    intro hc
    obtain ⟨c, r, e, hc0⟩ := dec_head u (by omega)
    have h1 := dec_spell u
    have hl := Lib.decDigits_length u
    rw [e] at h1 hl
    simp only [spell] at h1
    have hd := dec_dig u
    rw [e] at hd
    have h2 := spell_bd (l := r) fun x hx => hd x (by simp [hx])
    have h3 := hd c (by simp)
    simp at hl
    have h4 : (10 : Int) ^ 18 ≤ 10 ^ r.length := pow_mono' (by decide) (by omega)
    have h5 : (10 : Int) ^ 18 = 1000000000000000000 := by decide
    have h6 : (1 : Int) * 10 ^ r.length ≤ ((c.toNat : Int) - 48) * 10 ^ r.length := Int.mul_le_mul_of_nonneg_right (by omega) (by omega)
    omega
theorem pad_len {u : Nat} (h : u < 1000000000000000000) : (pad18 u).length = 18 := by
  have := nd18 h
  unfold pad18
  rw [List.length_append, List.length_replicate, Lib.decDigits_length]
  omega
/-- What stands in the builder when i limbs behind the highest are written. -/
def txt (xs : List Int) : Nat → List UInt8
  | 0 => Lib.decDigits (xs.getD (xs.length - 1) 0).toNat
  | i + 1 => txt xs i ++ pad18 (xs.getD (xs.length - 2 - i) 0).toNat
theorem txt_dig (xs : List Int) : ∀ i, AllDig (txt xs i)
  | 0 => dec_dig _
  | i + 1 => fun c hc => by
    rw [txt, List.mem_append] at hc
    rcases hc with hc | hc
    · exact txt_dig xs i c hc
    · exact pad_dig _ c hc
end
section
open Go Go.ChangeShapes Go.WideShapes Go.ChangeAt Go.RowKit Go.PlainAid
set_option linter.unusedVariables false
set_option linter.unusedSimpArgs false
theorem builder_keep {B b : Nat} {p : Value} {bs : List Value} {w w' : World} (h : Lib.BuilderAt BT BE B b p bs w) (hb : Below w.heap.size w w') : Lib.BuilderAt BT BE B b p bs w' := by
  obtain ⟨h1, v, h2, h3, h4⟩ := h
  exact ⟨h1, v, (hb.block b (Array.getElem?_eq_some_iff.1 h2).1).trans h2, World.ownsRow.kept (row := Option.none) h3 ⟨hb.os, hb.tape, hb.output, hb.size, fun k hk _ => hb.block k hk⟩ (by cases v.ownBlock <;> simp), h4⟩
theorem bytes_str (l : List UInt8) (s : ByteArray) : Lib.byteCells l ++ Lib.strCells s = Lib.byteCells (l ++ s.data.toList) := by
  unfold Lib.byteCells Lib.strCells
  rw [List.map_append]
theorem txt_len {xs : List Int} (hd : Dig B18 xs) : ∀ i, (txt xs i).length ≤ 18 * (i + 1)
  | 0 => by
    have h := hd (xs.length - 1)
    rw [B18] at h
    rw [txt, Lib.decDigits_length]
    exact nd18 (by omega)
  | i + 1 => by
    have h := hd (xs.length - 2 - i)
    rw [B18] at h
    have := txt_len hd i
    rw [txt, List.length_append, pad_len (by omega)]
    omega
theorem zeros_ext {n : Nat} (h : n ≤ 18) : ((⟨#[48, 48, 48, 48, 48, 48, 48, 48, 48, 48, 48, 48, 48, 48, 48, 48, 48, 48]⟩ : ByteArray).extract n 18).data.toList = List.replicate (18 - n) 48 := by
  rw [← Lib.toList_data, Lib.extract_toList, show (⟨#[48, 48, 48, 48, 48, 48, 48, 48, 48, 48, 48, 48, 48, 48, 48, 48, 48, 48]⟩ : ByteArray).data.toList = List.replicate 18 48 from rfl, List.drop_replicate, List.take_replicate, Nat.min_self]
/-- The text of a number in form. -/
def textB (neg : Bool) (xs : List Int) : ByteArray := if xs.length = 0 then ⟨#[48]⟩ else ⟨((if neg then [45] else []) ++ txt xs (xs.length - 1)).toArray⟩
set_option maxRecDepth 100000 in
set_option maxHeartbeats 4000000 in
theorem text_any (neg : Bool) (u : Value) (xs : List Int) (z : Int) (w : World) (hr : Rd w u xs) (hs : Sgn B18 neg xs z) (hl : xs.length ≤ 30) (hP : P10 w) :
    Calls Tryz.prog 77 #[.agg #[.bool neg, u]] w (TextPost w (textB neg xs)) := by
  have HR := Lib.hid hr
  obtain ⟨p, c, rfl, _, _, hp⟩ := rd_form hr
  have HP1 := Lib.hid hp
  have HS := Lib.hid hs
  have HPT := Lib.hid hP
  clear hr hp hs hP
  go_enter Tryz.func77, Tryz.ntmps77
  go_wp2_with fail
  generalize hw2 : World.alloc w _ = w2
  have q0 : w2.cell? ⟨w.heap.size, 0, none⟩ = some (.bool neg) := by rw [← hw2]; simp
  have q1 : w2.cell? ⟨w.heap.size, 1, none⟩ = some (.slice p xs.length c) := by rw [← hw2]; simp
  have HB2 := Lib.hid (show Below w.heap.size w w2 by rw [← hw2]; exact (Below.refl _ _).alloc (Nat.le_refl _) _)
  clear hw2
  refine (good_yes _ _ xs _ w2 (HR.out.keep HB2.out) HS.out hl).mono ?_
  rintro e w3 ⟨rfl, hb3⟩
  have t0 := below_cell hb3 q0
  have t1 := below_cell hb3 q1
  have HB3 := Lib.hid (HB2.out.trans (hb3.mono HB2.out.size))
  clear q0 q1 hb3 HB2
  by_cases h0 : xs.length = 0
  · have hz : ((xs.length : Int) == 0) = true := by simp [h0]
    have HT := Lib.hid (show textB neg xs = ⟨#[48]⟩ by unfold textB; rw [if_pos h0])
    go_wp2_with fail
    go_ret
    exact ⟨by rw [HT.out]; rfl, HB3.out⟩
  · have hz : ((xs.length : Int) == 0) = false := by rw [beq_eq_false_iff_ne]; omega
    have HT := Lib.hid (show textB neg xs = ⟨((if neg then [45] else []) ++ txt xs (xs.length - 1)).toArray⟩ by unfold textB; rw [if_neg h0])
    obtain ⟨b, off, rfl, hcell⟩ := HP1.out (by omega)
    have HC := Lib.hid hcell
    have hn1 : 1 ≤ xs.length := by omega
    have t2 := below_cell HB3.out (hcell (xs.length - 1) (by omega))
    have hd0 := HS.out.canon.1 (xs.length - 1)
    rw [B18] at hd0
    obtain ⟨t, ht⟩ : ∃ t : Nat, xs.getD (xs.length - 1) 0 = (t : Int) := ⟨(xs.getD (xs.length - 1) 0).toNat, by omega⟩
    have HT0 := Lib.hid (show txt xs 0 = Lib.decDigits t by rw [txt, ht]; rfl)
    rw [ht] at t2 hd0
    clear hcell HP1 ht
    have HP3 := Lib.hid (HPT.out.keep HB3.out)
    have hm1 := World.block_lt_of_cell? _ _ t1
    go_wp2_with fail
    refine (formatUint_any t (by omega) w3 HP3.out).mono ?_
    rintro e w4 ⟨rfl, hb4⟩
    have s0 := below_cell hb4 t0
    have s1 := below_cell hb4 t1
    have HB4 := Lib.hid (HB3.out.trans (hb4.mono HB3.out.size))
    have HP4 := Lib.hid (HP3.out.keep hb4)
    clear hb4 t0 t1 t2
    have hlt4 := World.block_lt_of_cell? _ _ s1
    have hnd0 := nd18 (u := t) (by omega)
    have hpl0 : (Lib.decDigits t).length = Lib.nDigits t := Lib.decDigits_length t
    have hcat : ¬ 9223372036854775807 < 1 + (Lib.decDigits t).length := by omega
    cases neg with
    | true =>
      go_wp2_with fail
      refine (writeString_any w4.heap.size w4.heap.size [] _ _ (Lib.fresh_isBuilder BT BE w4) (by rw [Lib.size_eq]; simp; omega) (by simp)).mono ?_
      rintro e w5 ⟨rfl, hBu, hb5⟩
      have HBU := Lib.hid (show Lib.BuilderAt BT BE w4.heap.size w4.heap.size (.pointer (some ⟨w4.heap.size, 0, none⟩)) (Lib.byteCells ([45] ++ txt xs 0)) w5 by rw [HT0.out]; simpa [Lib.strCells, Lib.byteCells] using hBu)
      have HB5 := Lib.hid (show Below w4.heap.size w4 w5 from ((Below.refl _ _).alloc (Nat.le_refl _) _).trans hb5)
      clear hBu hb5 HT0
      have s5 := below_cell HB5.out s1
      go_wp2_with fail
      go_loopw [6, 7, 31] (fun _ _ iv wr => ∃ i : Nat, iv = .int .i64 i ∧ i ≤ xs.length - 1 ∧ Lib.BuilderAt BT BE w4.heap.size w4.heap.size (.pointer (some ⟨w4.heap.size, 0, none⟩)) (Lib.byteCells ([45] ++ txt xs i)) wr ∧ Below w4.heap.size w4 wr) (fun _ _ iv _ => xs.length - 1 - (intOf iv).toNat)
      case atStart => exact ⟨0, by go_num, by omega, HBU.out, HB5.out⟩
      case round =>
        obtain ⟨i, rfl, hi, hbu, hbw⟩ := hrel
        have HBI := Lib.hid hbu
        have HBW := Lib.hid hbw
        have hsz := hbw.size
        have s6 := below_cell hbw s1
        have HLW := Lib.hid (HB4.out.trans (hbw.mono HB4.out.size))
        have HPW := Lib.hid (HP4.out.keep hbw)
        clear hbu hbw s5 s1 s0
        by_cases hi1 : i < xs.length - 1
        · have hiz : (i : Int) < (xs.length : Int) - 1 := by omega
          have ci := below_cell HLW.out (HC.out (xs.length - 2 - i) (by omega))
          have hdv := HS.out.canon.1 (xs.length - 2 - i)
          rw [B18] at hdv
          obtain ⟨v, hv⟩ : ∃ v : Nat, xs.getD (xs.length - 2 - i) 0 = (v : Int) := ⟨(xs.getD (xs.length - 2 - i) 0).toNat, by omega⟩
          have HTN := Lib.hid (show txt xs (i + 1) = txt xs i ++ pad18 v by rw [txt, hv]; rfl)
          rw [hv] at ci hdv
          clear hv
          have hnd := nd18 (u := v) (by omega)
          have hpl : (Lib.decDigits v).length = Lib.nDigits v := Lib.decDigits_length v
          have hti : ((xs.length : Int) - 2 - (i : Int)).toNat = xs.length - 2 - i := by omega
          have hw1 : IntKind.i64.wrap ((xs.length : Int) - 2) = (xs.length : Int) - 2 := IntWalk.i64_in _ (by omega)
          have hw2 : IntKind.i64.wrap ((xs.length : Int) - 2 - (i : Int)) = (xs.length : Int) - 2 - (i : Int) := IntWalk.i64_in _ (by omega)
          have hw3 : (0 : Int) ≤ (xs.length : Int) - 2 - (i : Int) := by omega
          have hw4 : (xs.length : Int) - 2 - (i : Int) < (xs.length : Int) := by omega
          go_wp2_with fail
          refine (formatUint_any v (by omega) wr HPW.out).mono ?_
          rintro e w6 ⟨rfl, hb6⟩
          have HB6 := Lib.hid (HBW.out.trans (hb6.mono hsz))
          have HB6U := Lib.hid (builder_keep HBI.out hb6)
          have hz6 := hb6.size
          clear hb6 s6 ci
          have hps : (⟨(Lib.decDigits v).toArray⟩ : ByteArray).size = Lib.nDigits v := by rw [list_size, hpl]
          have hndz : ((Lib.nDigits v : Nat) : Int) ≤ 18 := by omega
          go_wp2_with fail
          have hzx := zeros_ext hnd
          have htl := txt_len HS.out.canon.1 i
          refine (writeString_any w4.heap.size w4.heap.size _ _ w6 (.inr HB6U.out) (by rw [Lib.byteCells_length, Lib.size_eq, hzx, List.length_replicate]; simp; omega) (by omega)).mono ?_
          rintro e w7 ⟨rfl, hBu, hb7⟩
          rw [bytes_str, hzx] at hBu
          have HB7U := Lib.hid hBu
          have HB7 := Lib.hid (HB6.out.trans hb7)
          have hz7 := hb7.size
          clear hBu hb7
          go_wp2_with fail
          refine (writeString_any w4.heap.size w4.heap.size _ _ w7 (.inr HB7U.out) (by rw [Lib.byteCells_length, hps]; simp; omega) (by omega)).mono ?_
          rintro e w8 ⟨rfl, hBu, hb8⟩
          rw [bytes_str] at hBu
          have HB8U := Lib.hid (show Lib.BuilderAt BT BE w4.heap.size w4.heap.size (.pointer (some ⟨w4.heap.size, 0, none⟩)) (Lib.byteCells ([45] ++ txt xs (i + 1))) w8 by
            rw [HTN.out]
            unfold pad18
            rw [← List.append_assoc, ← List.append_assoc]
            exact hBu)
          have HB8 := Lib.hid (HB7.out.trans hb8)
          clear hBu hb8
          go_wp2_with fail
          go_roundw
          case rel => exact ⟨i + 1, by go_num, by omega, HB8U.out, HB8.out⟩
          case measure => simp [intOf]; omega
        · obtain rfl : i = xs.length - 1 := by omega
          have hiz : ¬ (((xs.length - 1 : Nat) : Int) < (xs.length : Int) - 1) := by omega
          go_wp2_with fail
          refine (Tryz.Builder_String_any w4.heap.size w4.heap.size ([45] ++ txt xs (xs.length - 1)) wr (.inr HBI.out) (by omega)).mono ?_
          rintro e w9 ⟨rfl, hb9⟩
          have HB9 := Lib.hid (HLW.out.trans (hb9.mono (by have := HB4.out.size; omega)))
          clear hb9
          go_wp2_with fail
          go_ret
          exact ⟨by rw [HT.out]; rfl, HB9.out⟩
    | false =>
      go_wp2_with fail
      refine (writeString_any w4.heap.size w4.heap.size [] _ _ (Lib.fresh_isBuilder BT BE w4) (by rw [Lib.size_eq]; simp; omega) (by simp)).mono ?_
      rintro e w5 ⟨rfl, hBu, hb5⟩
      have HBU := Lib.hid (show Lib.BuilderAt BT BE w4.heap.size w4.heap.size (.pointer (some ⟨w4.heap.size, 0, none⟩)) (Lib.byteCells ([] ++ txt xs 0)) w5 by rw [HT0.out]; simpa [Lib.strCells, Lib.byteCells] using hBu)
      have HB5 := Lib.hid (show Below w4.heap.size w4 w5 from ((Below.refl _ _).alloc (Nat.le_refl _) _).trans hb5)
      clear hBu hb5 HT0
      have s5 := below_cell HB5.out s1
      go_wp2_with fail
      go_loopw [6, 7, 31] (fun _ _ iv wr => ∃ i : Nat, iv = .int .i64 i ∧ i ≤ xs.length - 1 ∧ Lib.BuilderAt BT BE w4.heap.size w4.heap.size (.pointer (some ⟨w4.heap.size, 0, none⟩)) (Lib.byteCells ([] ++ txt xs i)) wr ∧ Below w4.heap.size w4 wr) (fun _ _ iv _ => xs.length - 1 - (intOf iv).toNat)
      case atStart => exact ⟨0, by go_num, by omega, HBU.out, HB5.out⟩
      case round =>
        obtain ⟨i, rfl, hi, hbu, hbw⟩ := hrel
        have HBI := Lib.hid hbu
        have HBW := Lib.hid hbw
        have hsz := hbw.size
        have s6 := below_cell hbw s1
        have HLW := Lib.hid (HB4.out.trans (hbw.mono HB4.out.size))
        have HPW := Lib.hid (HP4.out.keep hbw)
        clear hbu hbw s5 s1 s0
        by_cases hi1 : i < xs.length - 1
        · have hiz : (i : Int) < (xs.length : Int) - 1 := by omega
          have ci := below_cell HLW.out (HC.out (xs.length - 2 - i) (by omega))
          have hdv := HS.out.canon.1 (xs.length - 2 - i)
          rw [B18] at hdv
          obtain ⟨v, hv⟩ : ∃ v : Nat, xs.getD (xs.length - 2 - i) 0 = (v : Int) := ⟨(xs.getD (xs.length - 2 - i) 0).toNat, by omega⟩
          have HTN := Lib.hid (show txt xs (i + 1) = txt xs i ++ pad18 v by rw [txt, hv]; rfl)
          rw [hv] at ci hdv
          clear hv
          have hnd := nd18 (u := v) (by omega)
          have hpl : (Lib.decDigits v).length = Lib.nDigits v := Lib.decDigits_length v
          have hti : ((xs.length : Int) - 2 - (i : Int)).toNat = xs.length - 2 - i := by omega
          have hw1 : IntKind.i64.wrap ((xs.length : Int) - 2) = (xs.length : Int) - 2 := IntWalk.i64_in _ (by omega)
          have hw2 : IntKind.i64.wrap ((xs.length : Int) - 2 - (i : Int)) = (xs.length : Int) - 2 - (i : Int) := IntWalk.i64_in _ (by omega)
          have hw3 : (0 : Int) ≤ (xs.length : Int) - 2 - (i : Int) := by omega
          have hw4 : (xs.length : Int) - 2 - (i : Int) < (xs.length : Int) := by omega
          go_wp2_with fail
          refine (formatUint_any v (by omega) wr HPW.out).mono ?_
          rintro e w6 ⟨rfl, hb6⟩
          have HB6 := Lib.hid (HBW.out.trans (hb6.mono hsz))
          have HB6U := Lib.hid (builder_keep HBI.out hb6)
          have hz6 := hb6.size
          clear hb6 s6 ci
          have hps : (⟨(Lib.decDigits v).toArray⟩ : ByteArray).size = Lib.nDigits v := by rw [list_size, hpl]
          have hndz : ((Lib.nDigits v : Nat) : Int) ≤ 18 := by omega
          go_wp2_with fail
          have hzx := zeros_ext hnd
          have htl := txt_len HS.out.canon.1 i
          refine (writeString_any w4.heap.size w4.heap.size _ _ w6 (.inr HB6U.out) (by rw [Lib.byteCells_length, Lib.size_eq, hzx, List.length_replicate]; simp; omega) (by omega)).mono ?_
          rintro e w7 ⟨rfl, hBu, hb7⟩
          rw [bytes_str, hzx] at hBu
          have HB7U := Lib.hid hBu
          have HB7 := Lib.hid (HB6.out.trans hb7)
          have hz7 := hb7.size
          clear hBu hb7
          go_wp2_with fail
          refine (writeString_any w4.heap.size w4.heap.size _ _ w7 (.inr HB7U.out) (by rw [Lib.byteCells_length, hps]; simp; omega) (by omega)).mono ?_
          rintro e w8 ⟨rfl, hBu, hb8⟩
          rw [bytes_str] at hBu
          have HB8U := Lib.hid (show Lib.BuilderAt BT BE w4.heap.size w4.heap.size (.pointer (some ⟨w4.heap.size, 0, none⟩)) (Lib.byteCells ([] ++ txt xs (i + 1))) w8 by
            rw [HTN.out]
            unfold pad18
            rw [← List.append_assoc, ← List.append_assoc]
            exact hBu)
          have HB8 := Lib.hid (HB7.out.trans hb8)
          clear hBu hb8
          go_wp2_with fail
          go_roundw
          case rel => exact ⟨i + 1, by go_num, by omega, HB8U.out, HB8.out⟩
          case measure => simp [intOf]; omega
        · obtain rfl : i = xs.length - 1 := by omega
          have hiz : ¬ (((xs.length - 1 : Nat) : Int) < (xs.length : Int) - 1) := by omega
          go_wp2_with fail
          refine (Tryz.Builder_String_any w4.heap.size w4.heap.size ([] ++ txt xs (xs.length - 1)) wr (.inr HBI.out) (by omega)).mono ?_
          rintro e w9 ⟨rfl, hb9⟩
          have HB9 := Lib.hid (HLW.out.trans (hb9.mono (by have := HB4.out.size; omega)))
          clear hb9
          go_wp2_with fail
          go_ret
          exact ⟨by rw [HT.out]; rfl, HB9.out⟩
end
end Go.Proofs.YtpebnofjcodikaaGreatDoor
