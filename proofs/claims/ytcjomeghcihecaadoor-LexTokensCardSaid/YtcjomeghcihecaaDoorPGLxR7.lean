/- Layer 4: the document's next. Layer 4: the document's next, walked. -/
import Derived.Test.YtcjomeghcihecaaDoorPGLxR5
namespace Go.Proofs.YtcjomeghcihecaaDoor
section
open Go Go.ChangeShapes Go.WideShapes Go.ChangeAt Go.RowKit Go.PlainAid Go.Maps
set_option linter.unusedVariables false
set_option linter.unusedSimpArgs false
theorem isPrefix_take : ∀ (s l : Bs), s.isPrefixOf l = true ↔ s.length ≤ l.length ∧ l.take s.length = s
  | [], l => by simp
  | c :: s, [] => by simp [List.isPrefixOf]
  | c :: s, d :: l => by
    have ih := isPrefix_take s l
    simp only [List.isPrefixOf, Bool.and_eq_true, beq_iff_eq, List.length_cons, List.take_succ_cons, List.cons.injEq]
    rw [ih]
    constructor
    · rintro ⟨h1, h2, h3⟩; exact ⟨by omega, h1.symm, h3⟩
    · rintro ⟨h1, h2, h3⟩; exact ⟨h2.symm, by omega, h3⟩
theorem find_len {k : Nat} (l : Bs) : ∀ {L : List Bs}, (∀ s ∈ L, s.length = k) → L.find? (fun s => s.isPrefixOf l) = if k ≤ l.length ∧ L.contains (l.take k) = true then some (l.take k) else none
  | [], _ => by simp
  | s :: L, h => by
    have hs := h s List.mem_cons_self
    have ih := find_len l (L := L) fun t ht => h t (List.mem_cons_of_mem _ ht)
    rw [List.find?_cons]
    cases hp : s.isPrefixOf l with
    | true =>
      obtain ⟨h1, h2⟩ := (isPrefix_take s l).1 hp
      rw [hs] at h1 h2
      simp only [h2, h1, List.contains_cons, BEq.rfl, Bool.true_or, and_self, if_true]
    | false =>
      simp only [ih, List.contains_cons]
      have hne : k ≤ l.length → (l.take k == s) = false := fun hk => by
        rw [beq_eq_false_iff_ne]
        intro e
        have : s.isPrefixOf l = true := (isPrefix_take s l).2 ⟨by omega, by rw [hs]; exact e⟩
        rw [this] at hp
        cases hp
      by_cases hk : k ≤ l.length
      · rw [hne hk, Bool.false_or]
      · rw [if_neg (fun hh => hk hh.1), if_neg (fun hh => hk hh.1)]
def sy3 : List Bs := [[47, 47, 61], [42, 42, 61]]
def sy2 : List Bs := [[47, 47], [42, 42], [61, 61], [33, 61], [60, 61], [62, 61], [43, 61], [45, 61], [42, 61], [47, 61], [37, 61]]
def sy1 : List Bs := [[43], [45], [42], [47], [37], [61], [60], [62], [40], [41], [91], [93], [123], [125], [44], [58], [46]]
theorem syms_parts : symsB = sy3 ++ (sy2 ++ sy1) := rfl
def okS (l : Bs) (n : Nat) : Bool := decide (n ≤ l.length) && symsB.contains (l.take n)
theorem not_len {L : List Bs} {k : Nat} (h : ∀ s ∈ L, s.length = k) {t : Bs} (ht : t.length ≠ k) : L.contains t = false := by
  rw [← Bool.not_eq_true, List.contains_iff_mem]
  exact fun hm => ht (h t hm)
theorem len3 : ∀ s ∈ sy3, s.length = 3 := by decide
theorem len2 : ∀ s ∈ sy2, s.length = 2 := by decide
theorem len1 : ∀ s ∈ sy1, s.length = 1 := by decide
theorem contains_app (a b : List Bs) (t : Bs) : (a ++ b).contains t = (a.contains t || b.contains t) := by
  rw [Bool.eq_iff_iff, Bool.or_eq_true, List.contains_iff_mem, List.contains_iff_mem, List.contains_iff_mem, List.mem_append]
theorem symF_r (l : Bs) : symF l = if okS l 3 = true then some (l.take 3) else if okS l 2 = true then some (l.take 2) else if okS l 1 = true then some (l.take 1) else none := by
  unfold symF
  rw [syms_parts, List.find?_append, List.find?_append, find_len l len3, find_len l len2, find_len l len1]
  have e3 : (okS l 3 = true) ↔ (3 ≤ l.length ∧ sy3.contains (l.take 3) = true) := by
    unfold okS
    rw [syms_parts, contains_app, contains_app, Bool.and_eq_true, decide_eq_true_eq]
    refine and_congr_right fun h => ?_
    have hl : (l.take 3).length = 3 := by rw [List.length_take]; omega
    rw [not_len len2 (by omega), not_len len1 (by omega), Bool.or_false, Bool.or_false]
  have e2 : (okS l 2 = true) ↔ (2 ≤ l.length ∧ sy2.contains (l.take 2) = true) := by
    unfold okS
    rw [syms_parts, contains_app, contains_app, Bool.and_eq_true, decide_eq_true_eq]
    refine and_congr_right fun h => ?_
    have hl : (l.take 2).length = 2 := by rw [List.length_take]; omega
    rw [not_len len3 (by omega), not_len len1 (by omega), Bool.false_or, Bool.or_false]
  have e1 : (okS l 1 = true) ↔ (1 ≤ l.length ∧ sy1.contains (l.take 1) = true) := by
    unfold okS
    rw [syms_parts, contains_app, contains_app, Bool.and_eq_true, decide_eq_true_eq]
    refine and_congr_right fun h => ?_
    have hl : (l.take 1).length = 1 := by rw [List.length_take]; omega
    rw [not_len len3 (by omega), not_len len2 (by omega), Bool.false_or, Bool.false_or]
  simp only [← e3, ← e2, ← e1]
  by_cases g3 : okS l 3 = true
  · simp [g3]
  · by_cases g2 : okS l 2 = true
    · simp [g3, g2]
    · by_cases g1 : okS l 1 = true
      · simp [g3, g2, g1]
      · simp [g3, g2, g1]
theorem symF_hit {l : Bs} {n : Nat} (h1 : 1 ≤ n) (h3 : n ≤ 3) (hno : ∀ m, n < m → m ≤ 3 → okS l m = false) (hy : okS l n = true) : symF l = some (l.take n) := by
  rw [symF_r]
  have : n = 1 ∨ n = 2 ∨ n = 3 := by omega
  rcases this with rfl | rfl | rfl
  · rw [hno 3 (by omega) (by omega), hno 2 (by omega) (by omega), hy]; simp
  · rw [hno 3 (by omega) (by omega), hy]; simp
  · rw [hy]; simp
theorem symF_miss {l : Bs} (hno : ∀ m, 0 < m → m ≤ 3 → okS l m = false) : symF l = none := by
  rw [symF_r, hno 3 (by omega) (by omega), hno 2 (by omega) (by omega), hno 1 (by omega) (by omega)]
  simp
end
section
open Go Go.ChangeShapes Go.WideShapes Go.ChangeAt Go.RowKit Go.PlainAid Go.Maps
set_option linter.unusedVariables false
set_option linter.unusedSimpArgs false
theorem tokD_at {s : ByteArray} {a : Nat} (ha : a < s.size) : tokD (Rs s a) = if isLi (bt s a) = true then some (namD (Rs s a)) else if isDi (bt s a) = true then numD (Rs s a) else if bt s a = 39 ∨ bt s a = 34 then (strS ((bt s a).toNat.toUInt8) .plain (Rs s (a + 1))).map (fun p => (7, p.1, p.2 + 1)) else symD (Rs s a) := by
  obtain ⟨c, h1, h2⟩ := Rs_cons ha
  have hc : (bt s a).toNat.toUInt8 = c := by rw [h2]; simp
  rw [hc, h2, h1]
  simp only [tokD, isL_int, isD_int, strD]
  by_cases g1 : isLi (c.toNat : Int) = true
  · rw [if_pos g1, if_pos g1]
  · rw [if_neg g1, if_neg g1]
    by_cases g2 : isDi (c.toNat : Int) = true
    · rw [if_pos g2, if_pos g2]
    · rw [if_neg g2, if_neg g2]
      by_cases g3 : c.toNat = 39 ∨ c.toNat = 34
      · rw [if_pos g3, if_pos (by omega)]
      · rw [if_neg g3, if_neg (by omega)]
set_option maxRecDepth 100000 in
set_option maxHeartbeats 4000000 in
theorem next_r (s : ByteArray) (w : World) (hs : s.size ≤ 20000) (a : Nat) (ha : a < s.size) :
    Calls Tryd.prog 25 #[.string s, .int .i64 a] w (PcP w a (tokD (Rs s a))) := by
  have hb := get_bt s
  obtain ⟨r, hr⟩ : ∃ x, tokD (Rs s a) = x := ⟨_, rfl⟩
  rw [hr]
  have HTK := Lib.hid (tokD_at ha)
  rw [hr] at HTK
  clear hr
  go_enter Tryd.func25, Tryd.ntmps25
  go_upto_region 1 with fail
  obtain ⟨W1, hW1⟩ : ∃ W, w.alloc (.cells #[.int .i64 0, .string ⟨#[]⟩, .int .i64 0] 52) = W := ⟨_, rfl⟩
  have hz1 : w.heap.size + 1 ≤ W1.heap.size := by rw [← hW1]; simp
  have hbx : Bx3 W1 w.heap.size (.int .i64 0) (.string ⟨#[]⟩) (.int .i64 0) 52 := by rw [← hW1]; exact Bx3.made _ _ _ _ _
  have HBX := Lib.hid hbx
  clear hbx
  have HW1 := Lib.hid (show Below w.heap.size w W1 by rw [← hW1]; exact (Below.refl _ _).alloc (Nat.le_refl _) _)
  rw [hW1]
  clear hW1
  obtain ⟨B, hB⟩ : ∃ b, w.heap.size + 1 = b := ⟨_, rfl⟩
  rw [hB] at hz1
  have hCB : w.heap.size < B := by omega
  have hBC : w.heap.size ≤ B := by omega
  clear hB
  have hz0 : (a : Int) < (s.size : Int) := by omega
  cases hL : isLi (bt s a) with
  | true =>
    have hv : r = some (namD (Rs s a)) := by rw [HTK.out, if_pos hL]
    have HV := Lib.hid hv
    have HNL := Lib.hid (nam_len_le s a)
    clear hv HTK
    go_wp2_with (first | (go_at_call 26; (with_reducible refine (rLetter_any (bt s a) _).mono ?_); rintro e w1 ⟨rfl, hw1⟩; (have hw2 := hw1.symm; clear hw1; subst hw2)) | fail)
    go_loopw [6] (fun s6 wr => ∃ j : Nat, s6 = .int .i64 j ∧ a ≤ j ∧ j ≤ s.size ∧ namN (Rs s a) = (j - a) + namN (Rs s j) ∧ W1 = wr) (fun s6 _ => s.size - (intOf s6).toNat)
    case atStart => exact ⟨a, rfl, Nat.le_refl _, by omega, by omega, rfl⟩
    case round =>
      obtain ⟨j, rfl, haj, hjs, hd, rfl⟩ := hrel
      have HD := Lib.hid hd
      clear hd
      have FINAL : True := trivial
      by_cases hgo : j < s.size ∧ (isLi (bt s j) || isDi (bt s j)) = true
      · obtain ⟨hlt, hc⟩ := hgo
        have hlz : (j : Int) < (s.size : Int) := by omega
        have w3x : IntKind.i64.wrap ((j : Int) + 1) = (j : Int) + 1 := i64_in (by omega) (by omega)
        have h1 := nam_step hlt hc
        have H1 := Lib.hid h1
        clear h1
        cases hj : isLi (bt s j) with
        | true =>
          clear hc
          go_wp2_with (first | (go_at_call 26; (with_reducible refine (rLetter_any (bt s j) _).mono ?_); rintro e w1 ⟨rfl, hw1⟩; (have hw2 := hw1.symm; clear hw1; subst hw2)) | (go_at_call 27; (with_reducible refine (rDigit_any (bt s j) _).mono ?_); rintro e w1 ⟨rfl, hw1⟩; (have hw2 := hw1.symm; clear hw1; subst hw2)) | fail)
          go_roundw
          case rel => exact ⟨j + 1, by go_num, by omega, by omega, by have h1 := H1.out; have h2 := HD.out; omega, by first | rfl | trivial⟩
          case measure => simp [intOf]; omega
        | false =>
          rw [hj, Bool.false_or] at hc
          go_wp2_with (first | (go_at_call 26; (with_reducible refine (rLetter_any (bt s j) _).mono ?_); rintro e w1 ⟨rfl, hw1⟩; (have hw2 := hw1.symm; clear hw1; subst hw2)) | (go_at_call 27; (with_reducible refine (rDigit_any (bt s j) _).mono ?_); rintro e w1 ⟨rfl, hw1⟩; (have hw2 := hw1.symm; clear hw1; subst hw2)) | fail)
          go_roundw
          case rel => exact ⟨j + 1, by go_num, by omega, by omega, by have h1 := H1.out; have h2 := HD.out; omega, by first | rfl | trivial⟩
          case measure => simp [intOf]; omega
      · have hN : a + namN (Rs s a) = j := by
          have h2 := HD.out
          by_cases hlt : j < s.size
          · have hc : (isLi (bt s j) || isDi (bt s j)) = false := by
              cases h : (isLi (bt s j) || isDi (bt s j)) with
              | false => rfl
              | true => exact absurd ⟨hlt, h⟩ hgo
            have h1 := nam_stop hlt hc
            omega
          · have h1 := nam_end (s := s) (k := j) (by omega)
            omega
        have hT : s.extract a j = bsOf ((Rs s a).take (namN (Rs s a))) := by rw [← hN]; exact ext_bs s a _
        obtain ⟨T, hTe⟩ : ∃ x, s.extract a j = x := ⟨_, rfl⟩
        have hTe2 : T = bsOf ((Rs s a).take (namN (Rs s a))) := by rw [← hTe]; exact hT
        have HWD := Lib.hid (fun wx => isword_any ((Rs s a).take (namN (Rs s a))) wx)
        rw [← hTe2] at HWD
        have HTE2 := Lib.hid hTe2
        have HN := Lib.hid hN
        obtain ⟨wb, hwb⟩ : ∃ b, wordsB.contains ((Rs s a).take (namN (Rs s a))) = b := ⟨_, rfl⟩
        rw [hwb] at HWD
        have HWB := Lib.hid hwb
        clear hT hTe2 hN hwb
        have HBD := Lib.hid (Below.refl B W1)
        have haz : (a : Int) ≤ (j : Int) := by omega
        have hjz : (j : Int) ≤ (s.size : Int) := by omega
        have HBW2 := HBX.out.keep HBD.out hCB
        obtain ⟨z0, z1, z2⟩ := HBW2.cells
        have f0 := HBW2.frozen 0
        have f1 := HBW2.frozen 1
        have f2 := HBW2.frozen 2
        clear HBW2
        have hKP : ∀ k : Int, k = namK ((Rs s a).take (namN (Rs s a))) → ((r = none ∧ k = -1) ∨ ∃ p, r = some p ∧ k = p.1 ∧ T = bsOf p.2.1 ∧ (j : Int) = ((a + p.2.2 : Nat) : Int)) := fun k hk => .inr ⟨namD (Rs s a), HV.out, hk, HTE2.out, by show (j : Int) = ((a + namN (Rs s a) : Nat) : Int); rw [HN.out]⟩
        have HKP := Lib.hid hKP
        clear hKP
        by_cases hlt : j < s.size
        · have hlz : (j : Int) < (s.size : Int) := by omega
          have hc1 : isLi (bt s j) = false := by
            cases h : isLi (bt s j) with
            | false => rfl
            | true => exact absurd ⟨hlt, by rw [h]; rfl⟩ hgo
          have hc2 : isDi (bt s j) = false := by
            cases h : isDi (bt s j) with
            | false => rfl
            | true => exact absurd ⟨hlt, by rw [h]; simp⟩ hgo
          clear hgo
          cases wb
          all_goals
            go_wp2_with (first | (go_at_call 26; (with_reducible refine (rLetter_any (bt s j) _).mono ?_); rintro e w1 ⟨rfl, hw1⟩; (have hw2 := hw1.symm; clear hw1; subst hw2)) | (go_at_call 27; (with_reducible refine (rDigit_any (bt s j) _).mono ?_); rintro e w1 ⟨rfl, hw1⟩; (have hw2 := hw1.symm; clear hw1; subst hw2)) | (go_at_call 14; (with_reducible refine (HWD.out _).mono ?_); rintro e w1 ⟨rfl, hw1⟩; (have hw2 := hw1.symm; clear hw1; subst hw2)) | fail)
          · have HN := (HBX.out.keep HBD.out hCB).set (.int .i64 4) (.string T) (.int .i64 j)
            obtain ⟨n0, n1, n2⟩ := HN.cells
            clear z0 z1 z2 f0 f1 f2
            refine bodyPost_ret (v := .agg #[.int .i64 4, .string T, .int .i64 j]) (by simp [results, Tryd.results25, go_sem, n0, n1, n2]) rfl ⟨_, _, _, rfl, ?_, HKP.out _ (by unfold namK; rw [if_neg (by rw [HWB.out]; decide)])⟩
            exact ((((HW1.out.trans (HBD.out.mono hBC)).setCell (p := ⟨w.heap.size, 0, none⟩) (Nat.le_refl _) _).setCell (p := ⟨w.heap.size, 1, none⟩) (Nat.le_refl _) _).setCell (p := ⟨w.heap.size, 2, none⟩) (Nat.le_refl _) _)
          · have HN := (HBX.out.keep HBD.out hCB).set (.int .i64 8) (.string T) (.int .i64 j)
            obtain ⟨n0, n1, n2⟩ := HN.cells
            clear z0 z1 z2 f0 f1 f2
            refine bodyPost_ret (v := .agg #[.int .i64 8, .string T, .int .i64 j]) (by simp [results, Tryd.results25, go_sem, n0, n1, n2]) rfl ⟨_, _, _, rfl, ?_, HKP.out _ (by unfold namK; rw [if_pos HWB.out])⟩
            exact ((((HW1.out.trans (HBD.out.mono hBC)).setCell (p := ⟨w.heap.size, 0, none⟩) (Nat.le_refl _) _).setCell (p := ⟨w.heap.size, 1, none⟩) (Nat.le_refl _) _).setCell (p := ⟨w.heap.size, 2, none⟩) (Nat.le_refl _) _)
        · have hlz : ¬ (j : Int) < (s.size : Int) := by omega
          clear hgo
          cases wb
          all_goals
            go_wp2_with (first | (go_at_call 14; (with_reducible refine (HWD.out _).mono ?_); rintro e w1 ⟨rfl, hw1⟩; (have hw2 := hw1.symm; clear hw1; subst hw2)) | fail)
          · have HN := (HBX.out.keep HBD.out hCB).set (.int .i64 4) (.string T) (.int .i64 j)
            obtain ⟨n0, n1, n2⟩ := HN.cells
            clear z0 z1 z2 f0 f1 f2
            refine bodyPost_ret (v := .agg #[.int .i64 4, .string T, .int .i64 j]) (by simp [results, Tryd.results25, go_sem, n0, n1, n2]) rfl ⟨_, _, _, rfl, ?_, HKP.out _ (by unfold namK; rw [if_neg (by rw [HWB.out]; decide)])⟩
            exact ((((HW1.out.trans (HBD.out.mono hBC)).setCell (p := ⟨w.heap.size, 0, none⟩) (Nat.le_refl _) _).setCell (p := ⟨w.heap.size, 1, none⟩) (Nat.le_refl _) _).setCell (p := ⟨w.heap.size, 2, none⟩) (Nat.le_refl _) _)
          · have HN := (HBX.out.keep HBD.out hCB).set (.int .i64 8) (.string T) (.int .i64 j)
            obtain ⟨n0, n1, n2⟩ := HN.cells
            clear z0 z1 z2 f0 f1 f2
            refine bodyPost_ret (v := .agg #[.int .i64 8, .string T, .int .i64 j]) (by simp [results, Tryd.results25, go_sem, n0, n1, n2]) rfl ⟨_, _, _, rfl, ?_, HKP.out _ (by unfold namK; rw [if_pos HWB.out])⟩
            exact ((((HW1.out.trans (HBD.out.mono hBC)).setCell (p := ⟨w.heap.size, 0, none⟩) (Nat.le_refl _) _).setCell (p := ⟨w.heap.size, 1, none⟩) (Nat.le_refl _) _).setCell (p := ⟨w.heap.size, 2, none⟩) (Nat.le_refl _) _)
  | false =>
    cases hD : isDi (bt s a) with
    | true =>
      have hv : r = numD (Rs s a) := by rw [HTK.out, if_neg (by rw [hL]; decide), if_pos hD]
      have HNU := Lib.hid (number_r s W1 hs a ha)
      rw [← hv] at HNU
      clear hv HTK
      go_wp2_with (first | (go_at_call 26; (with_reducible refine (rLetter_any (bt s a) _).mono ?_); rintro e w1 ⟨rfl, hw1⟩; (have hw2 := hw1.symm; clear hw1; subst hw2)) | (go_at_call 27; (with_reducible refine (rDigit_any (bt s a) _).mono ?_); rintro e w1 ⟨rfl, hw1⟩; (have hw2 := hw1.symm; clear hw1; subst hw2)) | fail)
      refine HNU.out.mono ?_
      rintro e w2 ⟨k, t, tw, rfl, hb2, hres⟩
      have HBD := Lib.hid (hb2.mono hz1)
      have HRES := Lib.hid hres
      clear hb2 hres HNU
      have HBW2 := HBX.out.keep HBD.out hCB
      obtain ⟨z0, z1, z2⟩ := HBW2.cells
      have f0 := HBW2.frozen 0
      have f1 := HBW2.frozen 1
      have f2 := HBW2.frozen 2
      clear HBW2
      go_wp2_with fail
      have HN := (HBX.out.keep HBD.out hCB).set (.int .i64 k) (.string t) (.int .i64 tw)
      obtain ⟨n0, n1, n2⟩ := HN.cells
      clear z0 z1 z2 f0 f1 f2
      refine bodyPost_ret (v := .agg #[.int .i64 k, .string t, .int .i64 tw]) (by simp [results, Tryd.results25, go_sem, n0, n1, n2]) rfl ⟨_, _, _, rfl, ?_, HRES.out⟩
      exact ((((HW1.out.trans (HBD.out.mono hBC)).setCell (p := ⟨w.heap.size, 0, none⟩) (Nat.le_refl _) _).setCell (p := ⟨w.heap.size, 1, none⟩) (Nat.le_refl _) _).setCell (p := ⟨w.heap.size, 2, none⟩) (Nat.le_refl _) _)
    | false =>
    by_cases hq : bt s a = 39 ∨ bt s a = 34
    · obtain ⟨q, hq1, hq2⟩ := bt_byte ha
      have hv : r = (strS q .plain (Rs s (a + 1))).map (fun p => (7, p.1, p.2 + 1)) := by rw [HTK.out, if_neg (by rw [hL]; decide), if_neg (by rw [hD]; decide), if_pos hq, hq2]
      have HNU := Lib.hid (text_r s W1 hs a ha q (by omega) hq1)
      rw [← hv] at HNU
      clear hv HTK hq1 hq2
      have hqs : ((bt s a == 39) = true) ∨ ((bt s a == 39) = false ∧ (bt s a == 34) = true) := by
        rcases hq with h | h
        · exact .inl (by simp [h])
        · exact .inr ⟨by simp [h], by simp [h]⟩
      clear hq
      rcases hqs with b1 | ⟨b1, b2⟩
      all_goals
        go_wp2_with (first | (go_at_call 26; (with_reducible refine (rLetter_any (bt s a) _).mono ?_); rintro e w1 ⟨rfl, hw1⟩; (have hw2 := hw1.symm; clear hw1; subst hw2)) | (go_at_call 27; (with_reducible refine (rDigit_any (bt s a) _).mono ?_); rintro e w1 ⟨rfl, hw1⟩; (have hw2 := hw1.symm; clear hw1; subst hw2)) | fail)
        refine HNU.out.mono ?_
        rintro e w2 ⟨k, t, tw, rfl, hb2, hres⟩
        have HBD := Lib.hid (hb2.mono hz1)
        have HRES := Lib.hid hres
        clear hb2 hres HNU
        have HBW2 := HBX.out.keep HBD.out hCB
        obtain ⟨z0, z1, z2⟩ := HBW2.cells
        have f0 := HBW2.frozen 0
        have f1 := HBW2.frozen 1
        have f2 := HBW2.frozen 2
        clear HBW2
        go_wp2_with fail
        have HN := (HBX.out.keep HBD.out hCB).set (.int .i64 k) (.string t) (.int .i64 tw)
        obtain ⟨n0, n1, n2⟩ := HN.cells
        clear z0 z1 z2 f0 f1 f2
        refine bodyPost_ret (v := .agg #[.int .i64 k, .string t, .int .i64 tw]) (by simp [results, Tryd.results25, go_sem, n0, n1, n2]) rfl ⟨_, _, _, rfl, ?_, HRES.out⟩
        exact ((((HW1.out.trans (HBD.out.mono hBC)).setCell (p := ⟨w.heap.size, 0, none⟩) (Nat.le_refl _) _).setCell (p := ⟨w.heap.size, 1, none⟩) (Nat.le_refl _) _).setCell (p := ⟨w.heap.size, 2, none⟩) (Nat.le_refl _) _)
    · have hv : r = symD (Rs s a) := by rw [HTK.out, if_neg (by rw [hL]; decide), if_neg (by rw [hD]; decide), if_neg hq]
      have b1 : (bt s a == 39) = false := by simp; omega
      have b2 : (bt s a == 34) = false := by simp; omega
      have HV := Lib.hid hv
      clear hv HTK hq
      go_wp2_with (first | (go_at_call 26; (with_reducible refine (rLetter_any (bt s a) _).mono ?_); rintro e w1 ⟨rfl, hw1⟩; (have hw2 := hw1.symm; clear hw1; subst hw2)) | (go_at_call 27; (with_reducible refine (rDigit_any (bt s a) _).mono ?_); rintro e w1 ⟨rfl, hw1⟩; (have hw2 := hw1.symm; clear hw1; subst hw2)) | fail)
      go_loopw [7] (fun s7 wr => ∃ n : Nat, s7 = .int .i64 n ∧ n ≤ 3 ∧ (∀ m, n < m → m ≤ 3 → okS (Rs s a) m = false) ∧ W1 = wr) (fun s7 _ => (intOf s7).toNat)
      case atStart => exact ⟨3, by go_num, Nat.le_refl _, fun m h1 h2 => by omega, rfl⟩
      case round =>
        obtain ⟨n, rfl, hn, hno, rfl⟩ := hrel
        have HNO := Lib.hid hno
        have HBD := Lib.hid (Below.refl B W1)
        clear hno
        by_cases hn0 : 0 < n
        · have hz3 : (n : Int) > 0 := by omega
          obtain ⟨j, hj⟩ : ∃ x, a + n = x := ⟨_, rfl⟩
          have w3x : IntKind.i64.wrap ((a : Int) + (n : Int)) = (j : Int) := by
            have e : (a : Int) + (n : Int) = (j : Int) := by omega
            rw [e]; exact i64_in (by omega) (by omega)
          have w4x : IntKind.i64.wrap ((n : Int) - 1) = ((n - 1 : Nat) : Int) := by
            have e : (n : Int) - 1 = ((n - 1 : Nat) : Int) := by omega
            rw [e]; exact i64_in (by omega) (by omega)
          obtain ⟨n1, hn1⟩ : ∃ x, n - 1 = x := ⟨_, rfl⟩
          rw [hn1] at w4x
          have HN1 := Lib.hid hn1
          have HJ := Lib.hid hj
          have haz : (a : Int) ≤ (j : Int) := by omega
          clear hn1
          cases hok : okS (Rs s a) n with
          | true =>
            have hjs : j ≤ s.size := by
              unfold okS at hok
              rw [Bool.and_eq_true, decide_eq_true_eq, Rs_len] at hok
              omega
            have hct : symsB.contains ((Rs s a).take n) = true := by
              unfold okS at hok
              rw [Bool.and_eq_true] at hok
              exact hok.2
            have hhit := symF_hit (by omega) hn HNO.out hok
            have HHIT := Lib.hid hhit
            have hT : s.extract a j = bsOf ((Rs s a).take n) := by rw [← hj]; exact ext_bs s a n
            obtain ⟨T, hTe⟩ : ∃ x, s.extract a j = x := ⟨_, rfl⟩
            have hTe2 : T = bsOf ((Rs s a).take n) := by rw [← hTe]; exact hT
            have HSY := Lib.hid (fun wx => issymbol_any ((Rs s a).take n) wx)
            rw [hct, ← hTe2] at HSY
            have HTE2 := Lib.hid hTe2
            have hjz : (j : Int) ≤ (s.size : Int) := by omega
            clear hct hhit hT hTe2 hok hj
            have HBW2 := HBX.out.keep HBD.out hCB
            obtain ⟨z0, z1, z2⟩ := HBW2.cells
            have f0 := HBW2.frozen 0
            have f1 := HBW2.frozen 1
            have f2 := HBW2.frozen 2
            clear HBW2
            go_wp2_with (first | (go_at_call 15; (with_reducible refine (HSY.out _).mono ?_); rintro e w1 ⟨rfl, hw1⟩; (have hw2 := hw1.symm; clear hw1; subst hw2)) | fail)
            have HN := (HBX.out.keep HBD.out hCB).set (.int .i64 9) (.string T) (.int .i64 j)
            obtain ⟨n0, n1, n2⟩ := HN.cells
            clear z0 z1 z2 f0 f1 f2
            refine bodyPost_ret (v := .agg #[.int .i64 9, .string T, .int .i64 j]) (by simp [results, Tryd.results25, go_sem, n0, n1, n2]) rfl ⟨_, _, _, rfl, ?_, .inr ⟨(9, (Rs s a).take n, ((Rs s a).take n).length), by rw [HV.out]; unfold symD; rw [HHIT.out]; rfl, rfl, HTE2.out, by show (j : Int) = ((a + ((Rs s a).take n).length : Nat) : Int); rw [List.length_take, Rs_len]; have h9 := HJ.out; omega⟩⟩
            exact ((((HW1.out.trans (HBD.out.mono hBC)).setCell (p := ⟨w.heap.size, 0, none⟩) (Nat.le_refl _) _).setCell (p := ⟨w.heap.size, 1, none⟩) (Nat.le_refl _) _).setCell (p := ⟨w.heap.size, 2, none⟩) (Nat.le_refl _) _)
          | false =>
            have hno2 : ∀ m, n1 < m → m ≤ 3 → okS (Rs s a) m = false := fun m h1 h2 => by
              by_cases h3 : m = n
              · rw [h3]; exact hok
              · exact HNO.out m (by have := HN1.out; omega) h2
            have HNO2 := Lib.hid hno2
            clear hno2
            by_cases hjs : j ≤ s.size
            · have hct : symsB.contains ((Rs s a).take n) = false := by
                unfold okS at hok
                rw [Rs_len, decide_eq_true (by omega), Bool.true_and] at hok
                exact hok
              have hT : s.extract a j = bsOf ((Rs s a).take n) := by rw [← hj]; exact ext_bs s a n
              obtain ⟨T, hTe⟩ : ∃ x, s.extract a j = x := ⟨_, rfl⟩
              have hTe2 : T = bsOf ((Rs s a).take n) := by rw [← hTe]; exact hT
              have HSY := Lib.hid (fun wx => issymbol_any ((Rs s a).take n) wx)
              rw [hct, ← hTe2] at HSY
              have hjz : (j : Int) ≤ (s.size : Int) := by omega
              clear hct hT hTe2 hok hj
              go_wp2_with (first | (go_at_call 15; (with_reducible refine (HSY.out _).mono ?_); rintro e w1 ⟨rfl, hw1⟩; (have hw2 := hw1.symm; clear hw1; subst hw2)) | fail)
              go_roundw
              case rel => exact ⟨n1, rfl, by have := HN1.out; omega, HNO2.out, by first | rfl | trivial⟩
              case measure => have := HN1.out; simp [intOf]; omega
            · have hjz : ¬ (j : Int) ≤ (s.size : Int) := by omega
              clear hok hj
              go_wp2_with fail
              go_roundw
              case rel => exact ⟨n1, rfl, by have := HN1.out; omega, HNO2.out, by first | rfl | trivial⟩
              case measure => have := HN1.out; simp [intOf]; omega
        · obtain rfl : n = 0 := by omega
          have hmiss := symF_miss HNO.out
          have HMISS := Lib.hid hmiss
          clear hmiss
          have HBW2 := HBX.out.keep HBD.out hCB
          obtain ⟨z0, z1, z2⟩ := HBW2.cells
          have f0 := HBW2.frozen 0
          have f1 := HBW2.frozen 1
          have f2 := HBW2.frozen 2
          clear HBW2
          go_wp2_with fail
          have HN := (HBX.out.keep HBD.out hCB).set (.int .i64 (-1)) (.string ⟨#[]⟩) (.int .i64 0)
          obtain ⟨n0, n1, n2⟩ := HN.cells
          clear z0 z1 z2 f0 f1 f2
          refine bodyPost_ret (v := .agg #[.int .i64 (-1), .string ⟨#[]⟩, .int .i64 0]) (by simp [results, Tryd.results25, go_sem, n0, n1, n2]) rfl ⟨_, _, _, rfl, ?_, .inl ⟨by rw [HV.out]; unfold symD; rw [HMISS.out]; rfl, rfl⟩⟩
          exact ((((HW1.out.trans (HBD.out.mono hBC)).setCell (p := ⟨w.heap.size, 0, none⟩) (Nat.le_refl _) _).setCell (p := ⟨w.heap.size, 1, none⟩) (Nat.le_refl _) _).setCell (p := ⟨w.heap.size, 2, none⟩) (Nat.le_refl _) _)
end
end Go.Proofs.YtcjomeghcihecaaDoor
