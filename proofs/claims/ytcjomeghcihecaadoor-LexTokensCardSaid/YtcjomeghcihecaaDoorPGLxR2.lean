/- Layer 4: the document's digits and blanks. Layer 4: the document's number. -/
import Derived.Test.YtcjomeghcihecaaDoorPLxV2
import Derived.Test.YtcjomeghcihecaaDoorPLxB4
import Derived.Deep.CutRange
namespace Go.Proofs.YtcjomeghcihecaaDoor
section
open Go Go.ChangeShapes Go.WideShapes Go.ChangeAt Go.RowKit Go.PlainAid Go.Maps
set_option linter.unusedVariables false
set_option linter.unusedSimpArgs false
set_option maxRecDepth 100000 in
set_option maxHeartbeats 1600000 in
theorem digits_r (s : ByteArray) (w : World) (hs : s.size ≤ 20000) (i : Nat) (hi : i ≤ s.size) :
    Calls Tryd.prog 44 #[.string s, .int .i64 i] w fun e w' => e = .returned (.int .i64 (i + digN (Rs s i) : Nat)) ∧ w = w' := by
  have hb := get_bt s
  have HB := Lib.hid (dig_len_le s i)
  go_enter Tryd.func44, Tryd.ntmps44
  go_wp2_with fail
  go_loopw [1] (fun iv wr => ∃ j : Nat, iv = .int .i64 j ∧ i ≤ j ∧ j ≤ s.size ∧ digN (Rs s i) = (j - i) + digN (Rs s j) ∧ w = wr) (fun iv _ => s.size - (intOf iv).toNat)
  case atStart => exact ⟨i, rfl, Nat.le_refl _, hi, by omega, rfl⟩
  case round =>
    obtain ⟨j, rfl, hij, hjs, hd, rfl⟩ := hrel
    have HD := Lib.hid hd
    clear hd
    by_cases hlt : j < s.size
    · have hlz : (j : Int) < (s.size : Int) := by omega
      cases hc : isDi (bt s j)
      · have hv : i + digN (Rs s i) = j := by
          have h1 := dig_stop hlt hc
          have h2 := HD.out
          omega
        go_wp2_with (first | (go_at_call 27; (with_reducible refine (rDigit_any (bt s j) _).mono ?_); rintro e w1 ⟨rfl, hw1⟩; (have hw2 := hw1.symm; clear hw1; subst hw2)) | fail)
        refine bodyPost_ret (v := .int .i64 (j : Int)) (by simp [results, Tryd.results44, go_sem]) rfl ⟨?_, rfl⟩
        first | rfl | rw [hv]
      · go_wp2_with (first | (go_at_call 27; (with_reducible refine (rDigit_any (bt s j) _).mono ?_); rintro e w1 ⟨rfl, hw1⟩; (have hw2 := hw1.symm; clear hw1; subst hw2)) | fail)
        go_roundw
        case rel =>
          refine ⟨j + 1, by go_num, by omega, by omega, ?_, by first | rfl | trivial⟩
          have h1 := dig_step hlt hc
          have h2 := HD.out
          omega
        case measure => simp [intOf]; omega
    · have hlz : ¬ (j : Int) < (s.size : Int) := by omega
      have hv : i + digN (Rs s i) = j := by
        have h1 := dig_end (s := s) (k := j) (by omega)
        have h2 := HD.out
        omega
      go_wp2_with fail
      refine bodyPost_ret (v := .int .i64 (j : Int)) (by simp [results, Tryd.results44, go_sem]) rfl ⟨?_, rfl⟩
      first | rfl | rw [hv]
/-- Behind blanks; at the end, if a comment stands there. -/
def blE (s : ByteArray) (i : Nat) : Nat := if i + blkN (Rs s i) < s.size ∧ bt s (i + blkN (Rs s i)) = 35 then s.size else i + blkN (Rs s i)
set_option maxRecDepth 100000 in
set_option maxHeartbeats 1600000 in
theorem blanks_r (s : ByteArray) (w : World) (hs : s.size ≤ 20000) (i : Nat) (hi : i ≤ s.size) :
    Calls Tryd.prog 24 #[.string s, .int .i64 i] w fun e w' => e = .returned (.int .i64 (blE s i : Nat)) ∧ w = w' := by
  have hb := get_bt s
  have HB := Lib.hid (blk_len_le s i)
  go_enter Tryd.func24, Tryd.ntmps24
  go_wp2_with fail
  go_loopw [1] (fun iv wr => ∃ j : Nat, iv = .int .i64 j ∧ i ≤ j ∧ j ≤ s.size ∧ blkN (Rs s i) = (j - i) + blkN (Rs s j) ∧ w = wr) (fun iv _ => s.size - (intOf iv).toNat)
  case atStart => exact ⟨i, rfl, Nat.le_refl _, hi, by omega, rfl⟩
  case round =>
    obtain ⟨j, rfl, hij, hjs, hd, rfl⟩ := hrel
    have HD := Lib.hid hd
    clear hd
    by_cases hlt : j < s.size
    · have hlz : (j : Int) < (s.size : Int) := by omega
      by_cases hc : bt s j = 32
      · have hcb : (bt s j == 32) = true := by simpa using hc
        have h1 := blk_step hlt hc
        have H1 := Lib.hid h1
        clear h1 hc
        go_wp2_with fail
        go_roundw
        case rel =>
          refine ⟨j + 1, by go_num, by omega, by omega, ?_, by first | rfl | trivial⟩
          have h1 := H1.out
          have h2 := HD.out
          omega
        case measure => simp [intOf]; omega
      · have hcb : (bt s j == 32) = false := by simpa using hc
        have hv : i + blkN (Rs s i) = j := by
          have h1 := blk_stop hlt hc
          have h2 := HD.out
          omega
        by_cases h35 : bt s j = 35
        · have hcc : (bt s j == 35) = true := by simpa using h35
          have hv2 : blE s i = s.size := by unfold blE; rw [hv, if_pos ⟨hlt, h35⟩]
          have HV := Lib.hid hv2
          clear hc hv hv2 h35
          go_wp2_with fail
          refine bodyPost_ret (v := .int .i64 (s.size : Int)) (by simp [results, Tryd.results24, go_sem]) rfl ⟨?_, rfl⟩
          rw [HV.out]
        · have hcc : (bt s j == 35) = false := by simpa using h35
          have hv2 : blE s i = j := by unfold blE; rw [hv, if_neg (fun h => h35 h.2)]
          have HV := Lib.hid hv2
          clear hc hv hv2 h35
          go_wp2_with fail
          refine bodyPost_ret (v := .int .i64 (j : Int)) (by simp [results, Tryd.results24, go_sem]) rfl ⟨?_, rfl⟩
          rw [HV.out]
    · have hlz : ¬ (j : Int) < (s.size : Int) := by omega
      have hv : i + blkN (Rs s i) = j := by
        have h2 := HD.out
        have h3 := blk_len_le s j
        omega
      have hv2 : blE s i = j := by unfold blE; rw [hv, if_neg (fun h => by omega)]
      have HV := Lib.hid hv2
      clear hv hv2
      go_wp2_with fail
      refine bodyPost_ret (v := .int .i64 (j : Int)) (by simp [results, Tryd.results24, go_sem]) rfl ⟨?_, rfl⟩
      rw [HV.out]
end
section
open Go Go.ChangeShapes Go.WideShapes Go.ChangeAt Go.RowKit Go.PlainAid Go.Maps
set_option linter.unusedVariables false
set_option linter.unusedSimpArgs false
/-- A piece as the document answers it. -/
def PcP (W : World) (a : Nat) (r : Option Pc) (e : Ending) (w' : World) : Prop := ∃ (k : Int) (t : ByteArray) (tw : Int), e = .returned (.agg #[.int .i64 k, .string t, .int .i64 tw]) ∧ Below W.heap.size W w' ∧
  ((r = none ∧ k = -1) ∨ ∃ p, r = some p ∧ k = p.1 ∧ t = bsOf p.2.1 ∧ tw = ((a + p.2.2 : Nat) : Int))
theorem ext_list (s : ByteArray) (a n : Nat) : (s.extract a (a + n)).data.toList = (Rs s a).take n := by
  rw [← Lib.toList_data, Lib.extract_toList]
  unfold Rs
  rw [Nat.add_sub_cancel_left]
theorem ext_bs (s : ByteArray) (a n : Nat) : s.extract a (a + n) = bsOf ((Rs s a).take n) := by
  have e : (s.extract a (a + n)).data.toList = (Rs s a).take n := ext_list s a n
  unfold bsOf
  rw [← e]
theorem ext_bt {s : ByteArray} {a n k : Nat} (h : a + n ≤ s.size) (hk : k < n) : bt (s.extract a (a + n)) k = bt s (a + k) := by
  have hz : (s.extract a (a + n)).size = n := by rw [Lib.size_eq, ext_list, List.length_take, Rs_len]; omega
  rw [bt_eq (by rw [hz]; exact hk), bt_eq (by omega)]
  congr 2
  have e := ext_list s a n
  have h2 : (s.extract a (a + n)).data.toList[k]? = s.data.toList[a + k]? := by
    rw [e, List.getElem?_take_of_lt hk]
    unfold Rs
    rw [List.getElem?_drop]
  rw [List.getElem?_eq_getElem (by rw [← Lib.size_eq, hz]; exact hk), List.getElem?_eq_getElem (by rw [← Lib.size_eq]; omega)] at h2
  exact Option.some.inj h2
theorem dig_pos {s : ByteArray} {k : Nat} : 0 < digN (Rs s k) ↔ k < s.size ∧ isDi (bt s k) = true := by
  by_cases h : k < s.size
  · cases hc : isDi (bt s k)
    · rw [dig_stop h hc]; simp
    · rw [dig_step h hc]; simp [h]
  · rw [dig_end (by omega)]; simp [h]
def frT (s : ByteArray) (d : Nat) : Bool := decide (d + 1 < s.size) && (bt s d == 46) && isDi (bt s (d + 1))
def exT (s : ByteArray) (f : Nat) : Bool := decide (f < s.size) && (bt s f == 101)
def sgT (s : ByteArray) (k : Nat) : Bool := decide (k < s.size) && ((bt s k == 43) || (bt s k == 45))
theorem frE_r (s : ByteArray) (a : Nat) : frE (Rs s a) = if frT s (a + digN (Rs s a)) = true then digN (Rs s a) + 1 + digN (Rs s (a + digN (Rs s a) + 1)) else digN (Rs s a) := by
  rw [frE_at]
  have e : (hasI s (a + digN (Rs s a)) [46] = true ∧ 0 < digN (Rs s (a + digN (Rs s a) + 1))) ↔ frT s (a + digN (Rs s a)) = true := by
    rw [hasI_one, dig_pos]
    unfold frT
    simp only [Bool.and_eq_true, decide_eq_true_eq, beq_iff_eq]
    constructor
    · rintro ⟨⟨h1, h2⟩, h3, h4⟩; exact ⟨⟨h3, h2⟩, h4⟩
    · rintro ⟨⟨h3, h2⟩, h4⟩; exact ⟨⟨by omega, h2⟩, h3, h4⟩
  by_cases h : frT s (a + digN (Rs s a)) = true
  · rw [if_pos (e.2 h), if_pos h]
  · rw [if_neg (fun hh => h (e.1 hh)), if_neg h]
theorem sgE_r (s : ByteArray) (a k : Nat) : sgE (Rs s a) k = if sgT s (a + k) = true then k + 1 else k := by
  rw [sgE_at]
  have e : hasI s (a + k) [43, 45] = true ↔ sgT s (a + k) = true := by
    rw [hasI_two]
    unfold sgT
    simp only [Bool.and_eq_true, Bool.or_eq_true, decide_eq_true_eq, beq_iff_eq]
    exact Iff.rfl
  by_cases h : sgT s (a + k) = true
  · rw [if_pos (e.2 h), if_pos h]
  · rw [if_neg (fun hh => h (e.1 hh)), if_neg h]
theorem exE_r (s : ByteArray) (a : Nat) : exE (Rs s a) = if exT s (a + frE (Rs s a)) = true ∧ 0 < digN (Rs s (a + sgE (Rs s a) (frE (Rs s a) + 1))) then sgE (Rs s a) (frE (Rs s a) + 1) + digN (Rs s (a + sgE (Rs s a) (frE (Rs s a) + 1))) else frE (Rs s a) := by
  rw [exE_at]
  have e : hasI s (a + frE (Rs s a)) [101] = true ↔ exT s (a + frE (Rs s a)) = true := by
    rw [hasI_one]
    unfold exT
    simp only [Bool.and_eq_true, decide_eq_true_eq, beq_iff_eq]
    exact Iff.rfl
  by_cases h : exT s (a + frE (Rs s a)) = true ∧ 0 < digN (Rs s (a + sgE (Rs s a) (frE (Rs s a) + 1)))
  · rw [if_pos ⟨e.2 h.1, h.2⟩, if_pos h]
  · rw [if_neg (fun hh => h ⟨e.1 hh.1, hh.2⟩), if_neg h]
def exK (l : Bs) (k : Int) : Int := if exE l = frE l then k else 6
theorem exK_num (l : Bs) : exK l (frK l) = numK l := by
  unfold exK frK numK
  have h1 := digN_frE l
  have h2 := frE_exE l
  by_cases h3 : exE l = frE l
  · rw [if_pos h3, h3]
  · rw [if_neg h3, if_neg (by omega)]
def bd1 (s : ByteArray) (a x : Nat) (k : Int) : Bool := decide (540 < x - a) || ((k == 5) && decide (1 < x - a) && (bt s a == 48))
def bd2 (s : ByteArray) (x : Nat) : Bool := decide (x < s.size) && (isLi (bt s x) || (bt s x == 46))
theorem numBad_r (s : ByteArray) (a : Nat) (ha : a < s.size) : numBad (Rs s a) = (bd1 s a (a + exE (Rs s a)) (numK (Rs s a)) || bd2 s (a + exE (Rs s a))) := by
  have h0 : decide ((Rs s a)[0]? = some 48) = (bt s a == 48) := by
    rw [Bool.eq_iff_iff, decide_eq_true_eq, Rs_idx, beq_iff_eq, Nat.add_zero]
    exact ⟨fun h => h.2, fun h => ⟨ha, h⟩⟩
  have h1 : badC (Rs s a)[exE (Rs s a)]? = bd2 s (a + exE (Rs s a)) := by
    unfold badC bd2
    by_cases h : a + exE (Rs s a) < s.size
    · obtain ⟨c, hc, _⟩ := bt_byte h
      rw [Rs_idx.2 ⟨h, hc⟩, hc]
      simp only [h, decide_true, Bool.true_and, isL_int]
      congr 1
      rw [Bool.eq_iff_iff, decide_eq_true_eq, beq_iff_eq]
      omega
    · have e : (Rs s a)[exE (Rs s a)]? = none := List.getElem?_eq_none (by rw [Rs_len]; omega)
      rw [e]
      simp [h]
  unfold numBad
  rw [h0, h1]
  unfold bd1
  rw [Nat.add_sub_cancel_left]
  congr 3
end
end Go.Proofs.YtcjomeghcihecaaDoor
