/- Layer 2: whole.Text, walked. -/
import Derived.Test.YticebchmafipiaaDoorWtD
namespace Go.Proofs.YticebchmafipiaaDoor
open Go Go.ChangeShapes Go.WideShapes Go.ChangeAt Go.RowKit Go.PlainAid
set_option linter.unusedVariables false
set_option linter.unusedSimpArgs false
theorem builder_keep {B b : Nat} {p : Value} {bs : List Value} {w w' : World} (h : Lib.BuilderAt BT BE B b p bs w) (hb : Below w.heap.size w w') : Lib.BuilderAt BT BE B b p bs w' := by
  obtain ⟨h1, v, h2, h3, h4⟩ := h
  exact ⟨h1, v, (hb.block b (Array.getElem?_eq_some_iff.1 h2).1).trans h2, World.ownsRow.kept (row := Option.none) h3 ⟨hb.os, hb.tape, hb.output, hb.size, fun k hk _ => hb.block k hk⟩ (by cases v.ownBlock <;> simp), h4⟩
theorem bytes_str (l : List UInt8) (s : ByteArray) : Lib.byteCells l ++ Lib.strCells s = Lib.byteCells (l ++ s.data.toList) := by
  unfold Lib.byteCells Lib.strCells
  rw [List.map_append]
set_option maxRecDepth 100000 in
set_option maxHeartbeats 1000000 in
theorem text_bad (neg : Bool) (u : Value) (xs : List Int) (w : World) (hr : Rd w u xs) (hf : Fit xs) (hg : goodB neg xs = false) :
    Calls Tryd.prog 10 #[.agg #[.bool neg, u]] w (TextPost w ⟨#[]⟩) := by
  have HR := Lib.hid hr
  have HG := Lib.hid hg
  clear hr hg
  go_enter Tryd.func10, Tryd.ntmps10
  go_wp2_with fail
  generalize hw2 : World.alloc w _ = w2
  have q0 : w2.cell? ⟨w.heap.size, 0, none⟩ = some (.bool neg) := by rw [← hw2]; simp
  have q1 : w2.cell? ⟨w.heap.size, 1, none⟩ = some u := by rw [← hw2]; simp
  have HB2 := Lib.hid (show Below w.heap.size w w2 by rw [← hw2]; exact (Below.refl _ _).alloc (Nat.le_refl _) _)
  clear hw2
  refine (good_no _ _ xs w2 (HR.out.keep HB2.out) hf HG.out).mono ?_
  rintro e w3 ⟨rfl, hb3⟩
  have HB3 := Lib.hid (HB2.out.trans (hb3.mono HB2.out.size))
  clear hb3 q0 q1
  go_wp2_with fail
  go_ret
  exact ⟨rfl, HB3.out⟩
theorem txt_len {xs : List Int} (hd : Dig B18 xs) : ∀ i, (txt xs i).length ≤ 18 * (i + 1)
  | 0 => by
    have h := hd (xs.length - 1)
    rw [B18] at h
    rw [txt, Lib.decDigits_length]
    exact nd18 (by omega)
  | i + 1 => by
    have h := hd (xs.length - 2 - i)
    rw [B18] at h
    have := txt_len hd i
    rw [txt, List.length_append, pad_len (by omega)]
    omega
theorem zeros_ext {n : Nat} (h : n ≤ 18) : ((⟨#[48, 48, 48, 48, 48, 48, 48, 48, 48, 48, 48, 48, 48, 48, 48, 48, 48, 48]⟩ : ByteArray).extract n 18).data.toList = List.replicate (18 - n) 48 := by
  rw [← Lib.toList_data, Lib.extract_toList, show (⟨#[48, 48, 48, 48, 48, 48, 48, 48, 48, 48, 48, 48, 48, 48, 48, 48, 48, 48]⟩ : ByteArray).data.toList = List.replicate 18 48 from rfl, List.drop_replicate, List.take_replicate, Nat.min_self]
/-- The text of a number in form. -/
def textB (neg : Bool) (xs : List Int) : ByteArray := if xs.length = 0 then ⟨#[48]⟩ else ⟨((if neg then [45] else []) ++ txt xs (xs.length - 1)).toArray⟩
set_option maxRecDepth 100000 in
set_option maxHeartbeats 4000000 in
theorem text_any (neg : Bool) (u : Value) (xs : List Int) (z : Int) (w : World) (hr : Rd w u xs) (hs : Sgn B18 neg xs z) (hl : xs.length ≤ 30) (hP : P10 w) :
    Calls Tryd.prog 10 #[.agg #[.bool neg, u]] w (TextPost w (textB neg xs)) := by
  have HR := Lib.hid hr
  obtain ⟨p, c, rfl, _, _, hp⟩ := rd_form hr
  have HP1 := Lib.hid hp
  have HS := Lib.hid hs
  have HPT := Lib.hid hP
  clear hr hp hs hP
  go_enter Tryd.func10, Tryd.ntmps10
  go_wp2_with fail
  generalize hw2 : World.alloc w _ = w2
  have q0 : w2.cell? ⟨w.heap.size, 0, none⟩ = some (.bool neg) := by rw [← hw2]; simp
  have q1 : w2.cell? ⟨w.heap.size, 1, none⟩ = some (.slice p xs.length c) := by rw [← hw2]; simp
  have HB2 := Lib.hid (show Below w.heap.size w w2 by rw [← hw2]; exact (Below.refl _ _).alloc (Nat.le_refl _) _)
  clear hw2
  refine (good_yes _ _ xs _ w2 (HR.out.keep HB2.out) HS.out hl).mono ?_
  rintro e w3 ⟨rfl, hb3⟩
  have t0 := below_cell hb3 q0
  have t1 := below_cell hb3 q1
  have HB3 := Lib.hid (HB2.out.trans (hb3.mono HB2.out.size))
  clear q0 q1 hb3 HB2
  by_cases h0 : xs.length = 0
  · have hz : ((xs.length : Int) == 0) = true := by simp [h0]
    have HT := Lib.hid (show textB neg xs = ⟨#[48]⟩ by unfold textB; rw [if_pos h0])
    go_wp2_with fail
    go_ret
    exact ⟨by rw [HT.out]; rfl, HB3.out⟩
  · have hz : ((xs.length : Int) == 0) = false := by rw [beq_eq_false_iff_ne]; omega
    have HT := Lib.hid (show textB neg xs = ⟨((if neg then [45] else []) ++ txt xs (xs.length - 1)).toArray⟩ by unfold textB; rw [if_neg h0])
    obtain ⟨b, off, rfl, hcell⟩ := HP1.out (by omega)
    have HC := Lib.hid hcell
    have hn1 : 1 ≤ xs.length := by omega
    have t2 := below_cell HB3.out (hcell (xs.length - 1) (by omega))
    have hd0 := HS.out.canon.1 (xs.length - 1)
    rw [B18] at hd0
    obtain ⟨t, ht⟩ : ∃ t : Nat, xs.getD (xs.length - 1) 0 = (t : Int) := ⟨(xs.getD (xs.length - 1) 0).toNat, by omega⟩
    have HT0 := Lib.hid (show txt xs 0 = Lib.decDigits t by rw [txt, ht]; rfl)
    rw [ht] at t2 hd0
    clear hcell HP1 ht
    have HP3 := Lib.hid (HPT.out.keep HB3.out)
    have hm1 := World.block_lt_of_cell? _ _ t1
    go_wp2_with fail
    refine (formatUint_any t (by omega) w3 HP3.out).mono ?_
    rintro e w4 ⟨rfl, hb4⟩
    have s0 := below_cell hb4 t0
    have s1 := below_cell hb4 t1
    have HB4 := Lib.hid (HB3.out.trans (hb4.mono HB3.out.size))
    have HP4 := Lib.hid (HP3.out.keep hb4)
    clear hb4 t0 t1 t2
    have hlt4 := World.block_lt_of_cell? _ _ s1
    have hnd0 := nd18 (u := t) (by omega)
    have hpl0 : (Lib.decDigits t).length = Lib.nDigits t := Lib.decDigits_length t
    have hcat : ¬ 9223372036854775807 < 1 + (Lib.decDigits t).length := by omega
    cases neg with
    | true =>
      go_wp2_with fail
      refine (writeString_any w4.heap.size w4.heap.size [] _ _ (Lib.fresh_isBuilder BT BE w4) (by rw [Lib.size_eq]; simp; omega) (by simp)).mono ?_
      rintro e w5 ⟨rfl, hBu, hb5⟩
      have HBU := Lib.hid (show Lib.BuilderAt BT BE w4.heap.size w4.heap.size (.pointer (some ⟨w4.heap.size, 0, none⟩)) (Lib.byteCells ([45] ++ txt xs 0)) w5 by rw [HT0.out]; simpa [Lib.strCells, Lib.byteCells] using hBu)
      have HB5 := Lib.hid (show Below w4.heap.size w4 w5 from ((Below.refl _ _).alloc (Nat.le_refl _) _).trans hb5)
      clear hBu hb5 HT0
      have s5 := below_cell HB5.out s1
      go_wp2_with fail
      go_loopw [6, 7, 31] (fun _ _ iv wr => ∃ i : Nat, iv = .int .i64 i ∧ i ≤ xs.length - 1 ∧ Lib.BuilderAt BT BE w4.heap.size w4.heap.size (.pointer (some ⟨w4.heap.size, 0, none⟩)) (Lib.byteCells ([45] ++ txt xs i)) wr ∧ Below w4.heap.size w4 wr) (fun _ _ iv _ => xs.length - 1 - (intOf iv).toNat)
      case atStart => exact ⟨0, by go_num, by omega, HBU.out, HB5.out⟩
      case round =>
        obtain ⟨i, rfl, hi, hbu, hbw⟩ := hrel
        have HBI := Lib.hid hbu
        have HBW := Lib.hid hbw
        have hsz := hbw.size
        have s6 := below_cell hbw s1
        have HLW := Lib.hid (HB4.out.trans (hbw.mono HB4.out.size))
        have HPW := Lib.hid (HP4.out.keep hbw)
        clear hbu hbw s5 s1 s0
        by_cases hi1 : i < xs.length - 1
        · have hiz : (i : Int) < (xs.length : Int) - 1 := by omega
          have ci := below_cell HLW.out (HC.out (xs.length - 2 - i) (by omega))
          have hdv := HS.out.canon.1 (xs.length - 2 - i)
          rw [B18] at hdv
          obtain ⟨v, hv⟩ : ∃ v : Nat, xs.getD (xs.length - 2 - i) 0 = (v : Int) := ⟨(xs.getD (xs.length - 2 - i) 0).toNat, by omega⟩
          have HTN := Lib.hid (show txt xs (i + 1) = txt xs i ++ pad18 v by rw [txt, hv]; rfl)
          rw [hv] at ci hdv
          clear hv
          have hnd := nd18 (u := v) (by omega)
          have hpl : (Lib.decDigits v).length = Lib.nDigits v := Lib.decDigits_length v
          have hti : ((xs.length : Int) - 2 - (i : Int)).toNat = xs.length - 2 - i := by omega
          have hw1 : IntKind.i64.wrap ((xs.length : Int) - 2) = (xs.length : Int) - 2 := IntWalk.i64_in _ (by omega)
          have hw2 : IntKind.i64.wrap ((xs.length : Int) - 2 - (i : Int)) = (xs.length : Int) - 2 - (i : Int) := IntWalk.i64_in _ (by omega)
          have hw3 : (0 : Int) ≤ (xs.length : Int) - 2 - (i : Int) := by omega
          have hw4 : (xs.length : Int) - 2 - (i : Int) < (xs.length : Int) := by omega
          go_wp2_with fail
          refine (formatUint_any v (by omega) wr HPW.out).mono ?_
          rintro e w6 ⟨rfl, hb6⟩
          have HB6 := Lib.hid (HBW.out.trans (hb6.mono hsz))
          have HB6U := Lib.hid (builder_keep HBI.out hb6)
          have hz6 := hb6.size
          clear hb6 s6 ci
          have hps : (⟨(Lib.decDigits v).toArray⟩ : ByteArray).size = Lib.nDigits v := by rw [list_size, hpl]
          have hndz : ((Lib.nDigits v : Nat) : Int) ≤ 18 := by omega
          go_wp2_with fail
          have hzx := zeros_ext hnd
          have htl := txt_len HS.out.canon.1 i
          refine (writeString_any w4.heap.size w4.heap.size _ _ w6 (.inr HB6U.out) (by rw [Lib.byteCells_length, Lib.size_eq, hzx, List.length_replicate]; simp; omega) (by omega)).mono ?_
          rintro e w7 ⟨rfl, hBu, hb7⟩
          rw [bytes_str, hzx] at hBu
          have HB7U := Lib.hid hBu
          have HB7 := Lib.hid (HB6.out.trans hb7)
          have hz7 := hb7.size
          clear hBu hb7
          go_wp2_with fail
          refine (writeString_any w4.heap.size w4.heap.size _ _ w7 (.inr HB7U.out) (by rw [Lib.byteCells_length, hps]; simp; omega) (by omega)).mono ?_
          rintro e w8 ⟨rfl, hBu, hb8⟩
          rw [bytes_str] at hBu
          have HB8U := Lib.hid (show Lib.BuilderAt BT BE w4.heap.size w4.heap.size (.pointer (some ⟨w4.heap.size, 0, none⟩)) (Lib.byteCells ([45] ++ txt xs (i + 1))) w8 by
            rw [HTN.out]
            unfold pad18
            rw [← List.append_assoc, ← List.append_assoc]
            exact hBu)
          have HB8 := Lib.hid (HB7.out.trans hb8)
          clear hBu hb8
          go_wp2_with fail
          go_roundw
          case rel => exact ⟨i + 1, by go_num, by omega, HB8U.out, HB8.out⟩
          case measure => simp [intOf]; omega
        · obtain rfl : i = xs.length - 1 := by omega
          have hiz : ¬ (((xs.length - 1 : Nat) : Int) < (xs.length : Int) - 1) := by omega
          go_wp2_with fail
          refine (Tryd.Builder_String_any w4.heap.size w4.heap.size ([45] ++ txt xs (xs.length - 1)) wr (.inr HBI.out) (by omega)).mono ?_
          rintro e w9 ⟨rfl, hb9⟩
          have HB9 := Lib.hid (HLW.out.trans (hb9.mono (by have := HB4.out.size; omega)))
          clear hb9
          go_wp2_with fail
          go_ret
          exact ⟨by rw [HT.out]; rfl, HB9.out⟩
    | false =>
      go_wp2_with fail
      refine (writeString_any w4.heap.size w4.heap.size [] _ _ (Lib.fresh_isBuilder BT BE w4) (by rw [Lib.size_eq]; simp; omega) (by simp)).mono ?_
      rintro e w5 ⟨rfl, hBu, hb5⟩
      have HBU := Lib.hid (show Lib.BuilderAt BT BE w4.heap.size w4.heap.size (.pointer (some ⟨w4.heap.size, 0, none⟩)) (Lib.byteCells ([] ++ txt xs 0)) w5 by rw [HT0.out]; simpa [Lib.strCells, Lib.byteCells] using hBu)
      have HB5 := Lib.hid (show Below w4.heap.size w4 w5 from ((Below.refl _ _).alloc (Nat.le_refl _) _).trans hb5)
      clear hBu hb5 HT0
      have s5 := below_cell HB5.out s1
      go_wp2_with fail
      go_loopw [6, 7, 31] (fun _ _ iv wr => ∃ i : Nat, iv = .int .i64 i ∧ i ≤ xs.length - 1 ∧ Lib.BuilderAt BT BE w4.heap.size w4.heap.size (.pointer (some ⟨w4.heap.size, 0, none⟩)) (Lib.byteCells ([] ++ txt xs i)) wr ∧ Below w4.heap.size w4 wr) (fun _ _ iv _ => xs.length - 1 - (intOf iv).toNat)
      case atStart => exact ⟨0, by go_num, by omega, HBU.out, HB5.out⟩
      case round =>
        obtain ⟨i, rfl, hi, hbu, hbw⟩ := hrel
        have HBI := Lib.hid hbu
        have HBW := Lib.hid hbw
        have hsz := hbw.size
        have s6 := below_cell hbw s1
        have HLW := Lib.hid (HB4.out.trans (hbw.mono HB4.out.size))
        have HPW := Lib.hid (HP4.out.keep hbw)
        clear hbu hbw s5 s1 s0
        by_cases hi1 : i < xs.length - 1
        · have hiz : (i : Int) < (xs.length : Int) - 1 := by omega
          have ci := below_cell HLW.out (HC.out (xs.length - 2 - i) (by omega))
          have hdv := HS.out.canon.1 (xs.length - 2 - i)
          rw [B18] at hdv
          obtain ⟨v, hv⟩ : ∃ v : Nat, xs.getD (xs.length - 2 - i) 0 = (v : Int) := ⟨(xs.getD (xs.length - 2 - i) 0).toNat, by omega⟩
          have HTN := Lib.hid (show txt xs (i + 1) = txt xs i ++ pad18 v by rw [txt, hv]; rfl)
          rw [hv] at ci hdv
          clear hv
          have hnd := nd18 (u := v) (by omega)
          have hpl : (Lib.decDigits v).length = Lib.nDigits v := Lib.decDigits_length v
          have hti : ((xs.length : Int) - 2 - (i : Int)).toNat = xs.length - 2 - i := by omega
          have hw1 : IntKind.i64.wrap ((xs.length : Int) - 2) = (xs.length : Int) - 2 := IntWalk.i64_in _ (by omega)
          have hw2 : IntKind.i64.wrap ((xs.length : Int) - 2 - (i : Int)) = (xs.length : Int) - 2 - (i : Int) := IntWalk.i64_in _ (by omega)
          have hw3 : (0 : Int) ≤ (xs.length : Int) - 2 - (i : Int) := by omega
          have hw4 : (xs.length : Int) - 2 - (i : Int) < (xs.length : Int) := by omega
          go_wp2_with fail
          refine (formatUint_any v (by omega) wr HPW.out).mono ?_
          rintro e w6 ⟨rfl, hb6⟩
          have HB6 := Lib.hid (HBW.out.trans (hb6.mono hsz))
          have HB6U := Lib.hid (builder_keep HBI.out hb6)
          have hz6 := hb6.size
          clear hb6 s6 ci
          have hps : (⟨(Lib.decDigits v).toArray⟩ : ByteArray).size = Lib.nDigits v := by rw [list_size, hpl]
          have hndz : ((Lib.nDigits v : Nat) : Int) ≤ 18 := by omega
          go_wp2_with fail
          have hzx := zeros_ext hnd
          have htl := txt_len HS.out.canon.1 i
          refine (writeString_any w4.heap.size w4.heap.size _ _ w6 (.inr HB6U.out) (by rw [Lib.byteCells_length, Lib.size_eq, hzx, List.length_replicate]; simp; omega) (by omega)).mono ?_
          rintro e w7 ⟨rfl, hBu, hb7⟩
          rw [bytes_str, hzx] at hBu
          have HB7U := Lib.hid hBu
          have HB7 := Lib.hid (HB6.out.trans hb7)
          have hz7 := hb7.size
          clear hBu hb7
          go_wp2_with fail
          refine (writeString_any w4.heap.size w4.heap.size _ _ w7 (.inr HB7U.out) (by rw [Lib.byteCells_length, hps]; simp; omega) (by omega)).mono ?_
          rintro e w8 ⟨rfl, hBu, hb8⟩
          rw [bytes_str] at hBu
          have HB8U := Lib.hid (show Lib.BuilderAt BT BE w4.heap.size w4.heap.size (.pointer (some ⟨w4.heap.size, 0, none⟩)) (Lib.byteCells ([] ++ txt xs (i + 1))) w8 by
            rw [HTN.out]
            unfold pad18
            rw [← List.append_assoc, ← List.append_assoc]
            exact hBu)
          have HB8 := Lib.hid (HB7.out.trans hb8)
          clear hBu hb8
          go_wp2_with fail
          go_roundw
          case rel => exact ⟨i + 1, by go_num, by omega, HB8U.out, HB8.out⟩
          case measure => simp [intOf]; omega
        · obtain rfl : i = xs.length - 1 := by omega
          have hiz : ¬ (((xs.length - 1 : Nat) : Int) < (xs.length : Int) - 1) := by omega
          go_wp2_with fail
          refine (Tryd.Builder_String_any w4.heap.size w4.heap.size ([] ++ txt xs (xs.length - 1)) wr (.inr HBI.out) (by omega)).mono ?_
          rintro e w9 ⟨rfl, hb9⟩
          have HB9 := Lib.hid (HLW.out.trans (hb9.mono (by have := HB4.out.size; omega)))
          clear hb9
          go_wp2_with fail
          go_ret
          exact ⟨by rw [HT.out]; rfl, HB9.out⟩
end Go.Proofs.YticebchmafipiaaDoor
