/- Layer 4: a number is taken. -/
import Derived.Test.YtcjomeghcihecaaDoorPLxN
import Derived.Deep.Cut
import Derived.Deep.CutRange
namespace Go.Proofs.YtcjomeghcihecaaDoor
open Go Go.ChangeShapes Go.WideShapes Go.ChangeAt Go.RowKit Go.PlainAid Go.Maps
set_option linter.unusedVariables false
set_option linter.unusedSimpArgs false
theorem Rs_idx {s : ByteArray} {a n : Nat} {c : UInt8} : (Rs s a)[n]? = some c ↔ a + n < s.size ∧ bt s (a + n) = c.toNat := by
  have e : (Rs s a)[n]? = (Rs s (a + n))[0]? := by
    rw [← Rs_drop, List.getElem?_drop, Nat.add_zero]
  rw [e]
  by_cases h : a + n < s.size
  · obtain ⟨d, h1, h2⟩ := Rs_cons h
    rw [h1, h2]
    simp only [List.getElem?_cons_zero, Option.some.injEq, h, true_and]
    constructor
    · rintro rfl; rfl
    · intro h3; exact UInt8.toNat_inj.1 (by omega)
  · rw [Rs_end (by omega)]
    simp [h]
theorem bt_eq {s : ByteArray} {i : Nat} (h : i < s.size) : bt s i = ((s.data.toList[i]'(by rw [← Lib.size_eq]; exact h)).toNat : Int) := by
  unfold bt
  rw [dif_pos h]
  rfl
theorem bt_byte {s : ByteArray} {i : Nat} (h : i < s.size) : ∃ c : UInt8, bt s i = (c.toNat : Int) ∧ (bt s i).toNat.toUInt8 = c := by
  obtain ⟨c, h1, h2⟩ := Rs_cons h
  refine ⟨c, h2, ?_⟩
  rw [h2]
  simp
theorem hasI_one {s : ByteArray} {i : Nat} {c : UInt8} : hasI s i [c] = true ↔ i < s.size ∧ bt s i = c.toNat := by
  unfold hasI
  simp only [Bool.and_eq_true, decide_eq_true_eq]
  refine and_congr_right fun h => ?_
  obtain ⟨d, h1, h2⟩ := bt_byte h
  rw [h2, h1]
  simp only [Lib.indexByte]
  by_cases e : c = d
  · subst e; simp
  · have hne : (c == d) = false := by simpa using e
    have hne2 : ¬ ((d.toNat : Int) = (c.toNat : Int)) := fun h3 => e (UInt8.toNat_inj.1 (by omega))
    rw [hne]
    simp [hne2]
theorem hasI_two {s : ByteArray} {i : Nat} {c d : UInt8} : hasI s i [c, d] = true ↔ i < s.size ∧ (bt s i = c.toNat ∨ bt s i = d.toNat) := by
  unfold hasI
  simp only [Bool.and_eq_true, decide_eq_true_eq]
  refine and_congr_right fun h => ?_
  obtain ⟨b, h1, h2⟩ := bt_byte h
  rw [h2, h1]
  by_cases e : c = b
  · subst e; simp [Lib.indexByte]
  · have hne : (c == b) = false := by simpa using e
    have hne2 : ¬ ((b.toNat : Int) = (c.toNat : Int)) := fun h3 => e (UInt8.toNat_inj.1 (by omega))
    by_cases e2 : d = b
    · subst e2; simp [Lib.indexByte, hne]
    · have hne3 : (d == b) = false := by simpa using e2
      have hne4 : ¬ ((b.toNat : Int) = (d.toNat : Int)) := fun h3 => e2 (UInt8.toNat_inj.1 (by omega))
      have hv : Lib.indexByte [c, d] b = -1 := by simp [Lib.indexByte, hne, hne3]
      rw [hv]
      simp [hne2, hne4]
theorem frE_at (s : ByteArray) (a : Nat) : frE (Rs s a) = if hasI s (a + digN (Rs s a)) [46] = true ∧ 0 < digN (Rs s (a + digN (Rs s a) + 1)) then digN (Rs s a) + 1 + digN (Rs s (a + digN (Rs s a) + 1)) else digN (Rs s a) := by
  unfold frE
  rw [Rs_drop, ← Nat.add_assoc]
  have h : ((Rs s a)[digN (Rs s a)]? = some 46) = (hasI s (a + digN (Rs s a)) [46] = true) := propext (Rs_idx.trans hasI_one.symm)
  simp only [h]
theorem sgE_at (s : ByteArray) (a k : Nat) : sgE (Rs s a) k = if hasI s (a + k) [43, 45] = true then k + 1 else k := by
  unfold sgE
  have h : ((Rs s a)[k]? = some 43 ∨ (Rs s a)[k]? = some 45) = (hasI s (a + k) [43, 45] = true) := by
    rw [Rs_idx, Rs_idx, hasI_two]
    refine propext ⟨fun h => ?_, fun h => ?_⟩
    · rcases h with h | h
      · exact ⟨h.1, .inl h.2⟩
      · exact ⟨h.1, .inr h.2⟩
    · rcases h.2 with h2 | h2
      · exact .inl ⟨h.1, h2⟩
      · exact .inr ⟨h.1, h2⟩
  simp only [h]
theorem exE_at (s : ByteArray) (a : Nat) : exE (Rs s a) = if hasI s (a + frE (Rs s a)) [101] = true ∧ 0 < digN (Rs s (a + sgE (Rs s a) (frE (Rs s a) + 1))) then sgE (Rs s a) (frE (Rs s a) + 1) + digN (Rs s (a + sgE (Rs s a) (frE (Rs s a) + 1))) else frE (Rs s a) := by
  unfold exE
  rw [Rs_drop]
  have h : ((Rs s a)[frE (Rs s a)]? = some 101) = (hasI s (a + frE (Rs s a)) [101] = true) := propext (Rs_idx.trans hasI_one.symm)
  simp only [h]
theorem fr_len_le (s : ByteArray) (a : Nat) : frE (Rs s a) ≤ s.size - a := by rw [← Rs_len]; exact frE_le _
theorem ex_len_le (s : ByteArray) (a : Nat) : exE (Rs s a) ≤ s.size - a := by rw [← Rs_len]; exact exE_le _
theorem sg_len_le (s : ByteArray) (a k : Nat) (h : a + k ≤ s.size) : k ≤ sgE (Rs s a) k ∧ a + sgE (Rs s a) k ≤ s.size := by
  by_cases ha : a ≤ s.size
  · have := sgE_le (a := Rs s a) (k := k) (by rw [Rs_len]; omega)
    rw [Rs_len] at this
    omega
  · omega
/-- What a token's taking leaves. -/
def TokP (D : DataW Unit) (w : World) (B x mb kb : Nat) (σ : LxD) (r : Option Pc) (e : Ending) (w' : World) : Prop := match r with
  | some p => e = .returned (.int .i64 0) ∧ LX D w' B x mb kb { σ with a := σ.a + p.2.2, out := σ.out ++ [⟨p.1, σ.ln, p.2.1⟩] } ∧ Below B w w'
  | none => e = .returned (.int .i64 20) ∧ BadP D w w' B x mb kb σ.ln
def frK (l : Bs) : Int := if frE l = digN l then 5 else 6
set_option maxRecDepth 100000 in
set_option maxHeartbeats 4000000 in
theorem takeNumber_any {D : DataW Unit} {w : World} {B x mb kb : Nat} {σ : LxD} (h : LX D w B x mb kb σ) (hs : σ.s.size ≤ 20000) (ha : σ.a ≤ σ.s.size) (hol : σ.out.length ≤ 1000000) :
    Calls Tryd.prog 40 #[.pointer (some ⟨x, 0, none⟩)] w (TokP D w B x mb kb σ (numD (Rs σ.s σ.a))) := by
  obtain ⟨s, a, ln, d, op, out⟩ := σ
  simp only at h hs ha hol ⊢
  have H := Lib.hid h
  have c0 := h.choose_spec.choose_spec.c.c0
  have c1 := h.choose_spec.choose_spec.c.c1
  simp only at c0 c1
  clear h
  obtain ⟨e0, he0⟩ : ∃ e, a + digN (Rs s a) = e := ⟨_, rfl⟩
  obtain ⟨e1, he1⟩ : ∃ e, a + frE (Rs s a) = e := ⟨_, rfl⟩
  obtain ⟨e2, he2⟩ : ∃ e, a + exE (Rs s a) = e := ⟨_, rfl⟩
  have HE0 := Lib.hid he0
  have HE1 := Lib.hid he1
  have HE2 := Lib.hid he2
  have b0 : e0 ≤ s.size := by have := dig_len_le s a; omega
  have b1 : e1 ≤ s.size := by have := fr_len_le s a; omega
  have b2 : e2 ≤ s.size := by have := ex_len_le s a; omega
  have ba2 : a ≤ e2 := by omega
  have D0 := Lib.hid (show Calls Tryd.prog 49 #[.pointer (some ⟨x, 0, none⟩), .int .i64 a] w (fun e w' => e = .returned (.int .i64 e0) ∧ w' = w) by rw [← he0]; exact digits_any c0 hs a ha)
  have H46 := Lib.hid (has_any c0 hs e0 (by omega) ⟨#[46]⟩)
  have HFR := Lib.hid (show e1 = if hasI s e0 [46] = true ∧ 0 < digN (Rs s (e0 + 1)) then e0 + 1 + digN (Rs s (e0 + 1)) else e0 by
    have h1 := frE_at s a
    rw [he0] at h1
    split at h1 <;> rename_i h2
    · rw [if_pos h2]; omega
    · rw [if_neg h2]; omega)
  obtain ⟨g1, hg1⟩ : ∃ g, e0 + 1 = g := ⟨_, rfl⟩
  obtain ⟨r1, hr1⟩ : ∃ r, g1 + digN (Rs s g1) = r := ⟨_, rfl⟩
  obtain ⟨g2, hg2⟩ : ∃ g, e1 + 1 = g := ⟨_, rfl⟩
  have w0 : IntKind.i64.wrap ((e0 : Int) + 1) = (g1 : Int) := by rw [i64_in (by omega) (by omega)]; omega
  have w1 : IntKind.i64.wrap ((e1 : Int) + 1) = (g2 : Int) := by rw [i64_in (by omega) (by omega)]; omega
  replace HFR := Lib.hid (show e1 = if hasI s e0 [46] = true ∧ g1 < r1 then r1 else e0 by
    have h1 := HFR.out
    rw [hg1] at h1
    by_cases h2 : hasI s e0 [46] = true ∧ 0 < digN (Rs s g1)
    · rw [if_pos h2, hr1] at h1
      rw [if_pos ⟨h2.1, by omega⟩]; exact h1
    · rw [if_neg h2] at h1
      rw [if_neg (fun h => h2 ⟨h.1, by omega⟩)]; exact h1)
  have HR1 := Lib.hid hr1
  have HG1 := Lib.hid hg1
  have HG2 := Lib.hid hg2
  have hg2l : g2 ≤ 20001 := by omega
  clear he0 he1 he2 hr1 hg1 hg2
  go_enter Tryd.func40, Tryd.ntmps40
  go_upto_region 3 with (first
    | (go_at_call 49; (with_reducible refine D0.out.mono ?_); rintro e wz ⟨rfl, rfl⟩)
    | fail)
  obtain ⟨fb, hfb⟩ : ∃ b : Bool, (hasI s e0 [46] && decide (g1 < r1)) = b := ⟨_, rfl⟩
  have HFB := Lib.hid hfb
  clear hfb
  go_cut [24] from 13 to 24 (fun b4 wx => b4 = .bool fb ∧ wx = wz)
  case first =>
    cases h46 : hasI s e0 [46]
    · have hq : fb = false := by rw [← HFB.out, h46]; rfl
      have HQ := Lib.hid hq
      clear hq
      go_wp2_with (first
        | (go_at_call 50; (with_reducible refine H46.out.mono ?_); rintro e wy ⟨rfl, rfl⟩)
        | fail)
      go_meet
      exact ⟨by rw [HQ.out], by first | rfl | trivial⟩
    · have hlt : e0 < s.size := (hasI_one.1 h46).1
      have D1 := Lib.hid (digits_any c0 hs g1 (by have := HG1.out; omega))
      rw [HR1.out] at D1
      have hq : fb = decide (g1 < r1) := by rw [← HFB.out, h46]; rfl
      have hq2 : decide ((r1 : Int) > (g1 : Int)) = decide (g1 < r1) := by simp
      have HQ := Lib.hid hq
      have HQ2 := Lib.hid hq2
      clear hq hq2
      go_wp2_with (first
        | (go_at_call 50; (with_reducible refine H46.out.mono ?_); rintro e wy ⟨rfl, rfl⟩)
        | (go_at_call 49; (with_reducible refine D1.out.mono ?_); rintro e wy ⟨rfl, rfl⟩)
        | fail)
      go_meet
      exact ⟨by rw [HQ.out], by first | rfl | trivial⟩
  case rest =>
  obtain ⟨rfl, rfl⟩ := hcut
  go_upto_if 24 with fail
  go_cut [3, 4] from 25 to 28 (fun k4 e4 wx => k4 = .int .i64 (if e1 = e0 then 5 else 6) ∧ e4 = .int .i64 e1 ∧ wx = wc)
  case first =>
    cases fb with
    | false =>
      have hq : e1 = e0 := by
        rw [HFR.out, if_neg]
        intro h
        have h1 := HFB.out
        rw [h.1, decide_eq_true h.2] at h1
        cases h1
      have HQ := Lib.hid hq
      clear hq
      go_wp2_with fail
      go_meet
      exact ⟨by rw [if_pos HQ.out], by rw [HQ.out], by first | rfl | trivial⟩
    | true =>
      have hb2 := HFB.out
      simp only [Bool.and_eq_true, decide_eq_true_eq] at hb2
      have hlt : e0 < s.size := (hasI_one.1 hb2.1).1
      have D1 := Lib.hid (digits_any c0 hs g1 (by have := HG1.out; omega))
      rw [HR1.out] at D1
      have hq : e1 = r1 := by rw [HFR.out, if_pos hb2]
      have HQ := Lib.hid hq
      have HB2 := Lib.hid hb2
      clear hq hb2
      go_wp2_with (first
        | (go_at_call 49; (with_reducible refine D1.out.mono ?_); rintro e wy ⟨rfl, rfl⟩)
        | fail)
      go_meet
      exact ⟨by rw [if_neg (by have := HQ.out; have := HG1.out; have := HB2.out.2; omega)], by rw [HQ.out], by first | rfl | trivial⟩
  case rest =>
    obtain ⟨rfl, rfl, rfl⟩ := hcut
    obtain ⟨kf, hkf⟩ : ∃ k : Int, (if e1 = e0 then 5 else 6) = k := ⟨_, rfl⟩
    rw [hkf]
    have HKF := Lib.hid hkf
    clear hkf
    obtain ⟨xb, hxb⟩ : ∃ b, hasI s e1 [101] = b := ⟨_, rfl⟩
    have H101 := Lib.hid (show Calls Tryd.prog 50 #[.pointer (some ⟨x, 0, none⟩), .int .i64 e1, .string ⟨#[101]⟩] wc (fun e w' => e = .returned (.bool xb) ∧ w' = wc) by rw [← hxb]; exact has_any c0 hs e1 (by omega) ⟨#[101]⟩)
    have HXB := Lib.hid hxb
    clear hxb
    have H43 := Lib.hid (has_any c0 hs g2 (by omega) ⟨#[43, 45]⟩)
    obtain ⟨sg, hsg⟩ : ∃ g, (if hasI s g2 [43, 45] = true then g2 + 1 else g2) = g := ⟨_, rfl⟩
    obtain ⟨r2, hr2⟩ : ∃ r, sg + digN (Rs s sg) = r := ⟨_, rfl⟩
    have HEX := Lib.hid (show e2 = if hasI s e1 [101] = true ∧ sg < r2 then r2 else e1 by
      have h1 := exE_at s a
      have h2 := sgE_at s a (frE (Rs s a) + 1)
      have h3 := HE1.out
      have h4 := HE2.out
      have h5 := HG2.out
      have hsgE : a + sgE (Rs s a) (frE (Rs s a) + 1) = sg := by
        rw [h2, show a + (frE (Rs s a) + 1) = g2 by omega, ← hsg]
        split <;> omega
      rw [h3, hsgE] at h1
      by_cases hc : hasI s e1 [101] = true ∧ 0 < digN (Rs s sg)
      · rw [if_pos hc] at h1
        rw [if_pos ⟨hc.1, by omega⟩]; omega
      · rw [if_neg hc] at h1
        rw [if_neg (fun h => hc ⟨h.1, by omega⟩)]; omega)
    have HSG := Lib.hid hsg
    have HR2 := Lib.hid hr2
    have hsgb : hasI s e1 [101] = true → sg ≤ s.size ∧ g2 ≤ sg := fun h => by
      have h1 := (hasI_one.1 h).1
      have h2 := HG2.out
      have h3 := HSG.out
      by_cases h4 : hasI s g2 [43, 45] = true
      · rw [if_pos h4] at h3
        have := (hasI_two.1 h4).1
        omega
      · rw [if_neg h4] at h3
        omega
    have HSB := Lib.hid hsgb
    have w2 : IntKind.i64.wrap ((g2 : Int) + 1) = ((g2 : Int) + 1) := i64_in (by omega) (by omega)
    clear hsg hr2 hsgb
    go_upto_if 31 with (first
      | (go_at_call 50; (with_reducible refine H101.out.mono ?_); rintro e wy ⟨rfl, rfl⟩)
      | fail)
    go_cut [3, 4] from 32 to 46 (fun k4 e4 wx => k4 = .int .i64 (if e2 = e1 then kf else 6) ∧ e4 = .int .i64 e2 ∧ wx = wy)
    case first =>
      cases xb with
      | false =>
        have h101 := HXB.out
        have hq : e2 = e1 := by rw [HEX.out, h101, if_neg (by simp)]
        have HQ := Lib.hid hq
        clear hq
        go_wp2_with fail
        go_meet
        exact ⟨by rw [if_pos HQ.out], by rw [HQ.out], by first | rfl | trivial⟩
      | true =>
        have h101 := HXB.out
        obtain ⟨hsl, hsg2⟩ := HSB.out h101
        have D2 := Lib.hid (digits_any c0 hs sg hsl)
        rw [HR2.out] at D2
        cases h43 : hasI s g2 [43, 45]
        · have hsq : sg = g2 := by rw [← HSG.out, h43, if_neg (by simp)]
          subst hsq
          by_cases hf : sg < r2
          · have hq : e2 = r2 := by rw [HEX.out, h101, if_pos ⟨rfl, hf⟩]
            have HQ := Lib.hid hq
            have hfz : (r2 : Int) > (sg : Int) := by omega
            clear hq
            go_wp2_with (first
              | (go_at_call 50; (with_reducible refine H43.out.mono ?_); rintro e wy ⟨rfl, rfl⟩)
              | (go_at_call 49; (with_reducible refine D2.out.mono ?_); rintro e wy ⟨rfl, rfl⟩)
              | fail)
            go_meet
            exact ⟨by rw [if_neg (by have := HQ.out; have := HG2.out; omega)], by rw [HQ.out], by first | rfl | trivial⟩
          · have hq : e2 = e1 := by rw [HEX.out, h101, if_neg (fun h => hf h.2)]
            have HQ := Lib.hid hq
            have hfz : ¬ ((r2 : Int) > (sg : Int)) := by omega
            clear hq
            go_wp2_with (first
              | (go_at_call 50; (with_reducible refine H43.out.mono ?_); rintro e wy ⟨rfl, rfl⟩)
              | (go_at_call 49; (with_reducible refine D2.out.mono ?_); rintro e wy ⟨rfl, rfl⟩)
              | fail)
            go_meet
            exact ⟨by rw [if_pos HQ.out], by rw [HQ.out], by first | rfl | trivial⟩
        · have hsq : g2 + 1 = sg := by rw [← HSG.out, h43, if_pos rfl]
          replace w2 : IntKind.i64.wrap ((g2 : Int) + 1) = (sg : Int) := by rw [w2]; omega
          have HSQ := Lib.hid hsq
          clear hsq
          by_cases hf : sg < r2
          · have hq : e2 = r2 := by rw [HEX.out, h101, if_pos ⟨rfl, hf⟩]
            have HQ := Lib.hid hq
            have hfz : (r2 : Int) > (sg : Int) := by omega
            clear hq
            go_wp2_with (first
              | (go_at_call 50; (with_reducible refine H43.out.mono ?_); rintro e wy ⟨rfl, rfl⟩)
              | (go_at_call 49; (with_reducible refine D2.out.mono ?_); rintro e wy ⟨rfl, rfl⟩)
              | fail)
            go_meet
            exact ⟨by rw [if_neg (by have := HQ.out; have := HG2.out; omega)], by rw [HQ.out], by first | rfl | trivial⟩
          · have hq : e2 = e1 := by rw [HEX.out, h101, if_neg (fun h => hf h.2)]
            have HQ := Lib.hid hq
            have hfz : ¬ ((r2 : Int) > (sg : Int)) := by omega
            clear hq
            go_wp2_with (first
              | (go_at_call 50; (with_reducible refine H43.out.mono ?_); rintro e wy ⟨rfl, rfl⟩)
              | (go_at_call 49; (with_reducible refine D2.out.mono ?_); rintro e wy ⟨rfl, rfl⟩)
              | fail)
            go_meet
            exact ⟨by rw [if_pos HQ.out], by rw [HQ.out], by first | rfl | trivial⟩
    case rest =>
      obtain ⟨rfl, rfl, rfl⟩ := hcut
      obtain ⟨n2, hn2⟩ : ∃ n, exE (Rs s a) = n := ⟨_, rfl⟩
      have hae : a + n2 = e2 := by rw [← hn2]; exact HE2.out
      obtain ⟨K, hK⟩ : ∃ K, numK (Rs s a) = K := ⟨_, rfl⟩
      have hkk : (if e2 = e1 then kf else 6) = K := by
        rw [← hK, ← HKF.out]
        unfold numK
        rw [hn2]
        have h0 := HE0.out
        have h1 := HE1.out
        have h2 := digN_frE (Rs s a)
        have h3 := frE_exE (Rs s a)
        by_cases q1 : e2 = e1
        · rw [if_pos q1]
          by_cases q2 : e1 = e0
          · rw [if_pos q2, if_pos (by omega)]
          · rw [if_neg q2, if_neg (by omega)]
        · rw [if_neg q1, if_neg (by omega)]
      rw [hkk]
      have hK2 : K = 5 ∨ K = 6 := by
        rw [← hK]; unfold numK; split
        · exact .inl rfl
        · exact .inr rfl
      obtain ⟨tx, htx⟩ : ∃ t, (Rs s a).take n2 = t := ⟨_, rfl⟩
      have hT : s.extract a e2 = bsOf tx := by
        have h1 : (s.extract a e2).data.toList = tx := by
          rw [← Lib.toList_data, Lib.extract_toList, show e2 - a = n2 by omega, ← htx]; rfl
        rw [← h1]; unfold bsOf; generalize s.extract a e2 = T; obtain ⟨⟨l⟩⟩ := T; rfl
      have htl : tx.length = n2 := by rw [← htx, List.length_take, Rs_len]; omega
      have hsz : (bsOf tx).size = n2 := by rw [Lib.size_eq]; exact htl
      have hf0 : 0 < n2 → bt (bsOf tx) 0 = bt s a := fun h0 => by
        have h1 : 0 < (bsOf tx).size := by omega
        rw [bt_eq (s := bsOf tx) h1]
        obtain ⟨c, r1, r2⟩ := Rs_cons (s := s) (k := a) (by omega)
        rw [r2]
        have : (bsOf tx).data.toList[0]? = some c := by
          show tx[0]? = some c
          rw [← htx, r1]
          obtain ⟨m, rfl⟩ : ∃ m, n2 = m + 1 := ⟨n2 - 1, by omega⟩
          simp
        rw [List.getElem?_eq_getElem (by rw [← Lib.size_eq]; exact h1)] at this
        rw [Option.some.inj this]
      have hbad : numBad (Rs s a) = true ↔ 540 < n2 ∨ (K = 5 ∧ 1 < n2 ∧ bt s a = 48) ∨ (e2 < s.size ∧ (isLi (bt s e2) = true ∨ bt s e2 = 46)) := by
        unfold numBad
        rw [hn2, hK]
        have h48 : (Rs s a)[0]? = some 48 ↔ a + 0 < s.size ∧ bt s (a + 0) = ((48 : UInt8).toNat : Int) := Rs_idx
        simp only [Nat.add_zero] at h48
        have hc : badC (Rs s a)[n2]? = true ↔ e2 < s.size ∧ (isLi (bt s e2) = true ∨ bt s e2 = 46) := by
          rw [← hae]
          have e : (Rs s a)[n2]? = (Rs s (a + n2))[0]? := by rw [← Rs_drop, List.getElem?_drop, Nat.add_zero]
          rw [e]
          by_cases hl : a + n2 < s.size
          · obtain ⟨c, r1, r2⟩ := Rs_cons hl
            rw [r1, r2]
            simp only [List.getElem?_cons_zero, badC, Bool.or_eq_true, decide_eq_true_eq, isL_int, hl, true_and]
            exact or_congr Iff.rfl (by omega)
          · rw [Rs_end (by omega)]
            simp [badC, hl]
        simp only [Bool.or_eq_true, Bool.and_eq_true, decide_eq_true_eq, hc, h48, or_assoc, and_assoc]
        have h48n : ((48 : UInt8).toNat : Int) = 48 := rfl
        rw [h48n]
        constructor
        · rintro (h | ⟨h1, h2, h3, h4⟩ | h)
          · exact .inl h
          · exact .inr (.inl ⟨h1, h2, h4⟩)
          · exact .inr (.inr h)
        · rintro (h | ⟨h1, h2, h4⟩ | h)
          · exact .inl h
          · exact .inr (.inl ⟨h1, h2, by omega, h4⟩)
          · exact .inr (.inr h)
      have hnd : numD (Rs s a) = if numBad (Rs s a) then none else some (K, tx, n2) := by
        unfold numD; rw [hK, hn2, htx]
      have HBAD := Lib.hid hbad
      have HND := Lib.hid hnd
      have HF0 := Lib.hid hf0
      have HAE := Lib.hid hae
      have HTL := Lib.hid htl
      have hgb := get_bt (bsOf tx)
      have hgs := get_bt s
      have hn20 : n2 ≤ 20000 := by omega
      have haz : (a : Int) ≤ (e2 : Int) := by omega
      have hez : (e2 : Int) ≤ (s.size : Int) := by omega
      clear hn2 hae hK hkk htx htl hbad hnd hf0 w0 w1 w2
      by_cases h540 : 540 < n2
      · have hz540 : (n2 : Int) > 540 := by omega
        have hz1 : (n2 : Int) > 1 := by omega
        have hz0 : (0 : Int) < (n2 : Int) := by omega
        have hn0 : 0 < n2 := by omega
        have hf := HF0.out hn0
        rcases hK2 with rfl | rfl
        · by_cases h48 : bt s a = 48
          · have h48b : (bt s a == 48) = true := by simpa using h48
            have hnone : numD (Rs s a) = none := by rw [HND.out, if_pos (HBAD.out.2 (.inl h540))]
            have HNONE := Lib.hid hnone
            clear hnone HND HBAD
            go_wp2_with fail
            go_quiet (fail)
            go_wp2_with (first
              | (go_at_call 37; (with_reducible refine (isLetter_any (bt s e2) _).mono ?_); rintro e wv ⟨rfl, rfl⟩)
              | fail)
            refine bodyPost_ret (v := .int .i64 20) (by simp [results, Tryd.results40, go_sem]) rfl ?_
            rw [HNONE.out]
            exact ⟨rfl, _, H.out.drew nq, rfl, drew_below _ _ _⟩
          · have h48b : (bt s a == 48) = false := by simpa using h48
            have hnone : numD (Rs s a) = none := by rw [HND.out, if_pos (HBAD.out.2 (.inl h540))]
            have HNONE := Lib.hid hnone
            clear hnone HND HBAD
            go_wp2_with fail
            go_quiet (fail)
            go_wp2_with (first
              | (go_at_call 37; (with_reducible refine (isLetter_any (bt s e2) _).mono ?_); rintro e wv ⟨rfl, rfl⟩)
              | fail)
            refine bodyPost_ret (v := .int .i64 20) (by simp [results, Tryd.results40, go_sem]) rfl ?_
            rw [HNONE.out]
            exact ⟨rfl, _, H.out.drew nq, rfl, drew_below _ _ _⟩
        · have hnone : numD (Rs s a) = none := by rw [HND.out, if_pos (HBAD.out.2 (.inl h540))]
          have HNONE := Lib.hid hnone
          clear hnone HND HBAD
          go_wp2_with fail
          go_quiet (fail)
          go_wp2_with (first
            | (go_at_call 37; (with_reducible refine (isLetter_any (bt s e2) _).mono ?_); rintro e wv ⟨rfl, rfl⟩)
            | fail)
          refine bodyPost_ret (v := .int .i64 20) (by simp [results, Tryd.results40, go_sem]) rfl ?_
          rw [HNONE.out]
          exact ⟨rfl, _, H.out.drew nq, rfl, drew_below _ _ _⟩
      · have hz540 : ¬ ((n2 : Int) > 540) := by omega
        rcases hK2 with rfl | rfl
        · by_cases h1 : 1 < n2
          · have hz1 : (n2 : Int) > 1 := by omega
            have hz0 : (0 : Int) < (n2 : Int) := by omega
            have hn0 : 0 < n2 := by omega
            have hf := HF0.out hn0
            by_cases h48 : bt s a = 48
            · have h48b : (bt s a == 48) = true := by simpa using h48
              have hnone : numD (Rs s a) = none := by rw [HND.out, if_pos (HBAD.out.2 (.inr (.inl ⟨rfl, h1, h48⟩)))]
              have HNONE := Lib.hid hnone
              clear hnone HND HBAD
              go_wp2_with fail
              go_quiet (fail)
              go_wp2_with (first
                | (go_at_call 37; (with_reducible refine (isLetter_any (bt s e2) _).mono ?_); rintro e wv ⟨rfl, rfl⟩)
                | fail)
              refine bodyPost_ret (v := .int .i64 20) (by simp [results, Tryd.results40, go_sem]) rfl ?_
              rw [HNONE.out]
              exact ⟨rfl, _, H.out.drew nq, rfl, drew_below _ _ _⟩
            · have h48b : (bt s a == 48) = false := by simpa using h48
              by_cases hl : e2 < s.size
              · have hlz : (e2 : Int) < (s.size : Int) := by omega
                by_cases hi : isLi (bt s e2) = true
                · have hnone : numD (Rs s a) = none := by rw [HND.out, if_pos (HBAD.out.2 (.inr (.inr ⟨hl, .inl hi⟩)))]
                  have HNONE := Lib.hid hnone
                  clear hnone HND HBAD
                  go_wp2_with fail
                  go_quiet (fail)
                  go_wp2_with (first
                    | (go_at_call 37; (with_reducible refine (isLetter_any (bt s e2) _).mono ?_); rintro e wv ⟨rfl, rfl⟩)
                    | fail)
                  refine bodyPost_ret (v := .int .i64 20) (by simp [results, Tryd.results40, go_sem]) rfl ?_
                  rw [HNONE.out]
                  exact ⟨rfl, _, H.out.drew nq, rfl, drew_below _ _ _⟩
                · have hi2 : isLi (bt s e2) = false := by simpa using hi
                  by_cases h46 : bt s e2 = 46
                  · have h46b : (bt s e2 == 46) = true := by simpa using h46
                    have HH46 := Lib.hid h46
                    clear h46
                    have hnone : numD (Rs s a) = none := by rw [HND.out, if_pos (HBAD.out.2 (.inr (.inr ⟨hl, .inr HH46.out⟩)))]
                    have HNONE := Lib.hid hnone
                    clear hnone HND HBAD
                    go_wp2_with fail
                    go_quiet (fail)
                    go_wp2_with (first
                      | (go_at_call 37; (with_reducible refine (isLetter_any (bt s e2) _).mono ?_); rintro e wv ⟨rfl, rfl⟩)
                      | fail)
                    refine bodyPost_ret (v := .int .i64 20) (by simp [results, Tryd.results40, go_sem]) rfl ?_
                    rw [HNONE.out]
                    exact ⟨rfl, _, H.out.drew nq, rfl, drew_below _ _ _⟩
                  · have h46b : (bt s e2 == 46) = false := by simpa using h46
                    have hsome : numD (Rs s a) = some (5, tx, n2) := by rw [HND.out, if_neg (fun hh => by have := HBAD.out.1 hh; exact this.elim (by omega) (fun h => h.elim (fun h => h48 h.2.2) (fun h => h.2.elim hi h46)))]
                    have HSOME := Lib.hid hsome
                    clear hsome HND HBAD
                    go_wp2_with fail
                    go_quiet (fail)
                    go_wp2_with (first
                      | (go_at_call 37; (with_reducible refine (isLetter_any (bt s e2) _).mono ?_); rintro e wv ⟨rfl, rfl⟩)
                      | fail)
                    refine (put_any (σ := ⟨s, a, ln, d, op, out⟩) (H.out.drew nq) hol 5 tx).mono ?_
                    rintro e w6 ⟨rfl, hx6, hb6⟩
                    have HX6 := Lib.hid hx6
                    have HB6 := Lib.hid ((drew_below _ _ nq).trans hb6)
                    have y1 := hx6.choose_spec.choose_spec.c.c1
                    have g1 := hx6.choose_spec.choose_spec.c.f 1
                    simp only at y1
                    clear hx6 hb6
                    go_wp2_with fail
                    refine bodyPost_ret (v := .int .i64 0) (by simp [results, Tryd.results40, go_sem]) rfl ?_
                    rw [HSOME.out]
                    refine ⟨rfl, ?_, HB6.out.trans (HX6.out.setAt e2).2⟩
                    have hq := (HX6.out.setAt e2).1
                    rw [← HAE.out] at hq ⊢
                    exact hq
              · have hlz : ¬ (e2 : Int) < (s.size : Int) := by omega
                have hsome : numD (Rs s a) = some (5, tx, n2) := by rw [HND.out, if_neg (fun hh => by have := HBAD.out.1 hh; exact this.elim (by omega) (fun h => h.elim (fun h => h48 h.2.2) (fun h => hl h.1)))]
                have HSOME := Lib.hid hsome
                clear hsome HND HBAD
                go_wp2_with fail
                go_quiet (fail)
                go_wp2_with (first
                  | (go_at_call 37; (with_reducible refine (isLetter_any (bt s e2) _).mono ?_); rintro e wv ⟨rfl, rfl⟩)
                  | fail)
                refine (put_any (σ := ⟨s, a, ln, d, op, out⟩) (H.out.drew nq) hol 5 tx).mono ?_
                rintro e w6 ⟨rfl, hx6, hb6⟩
                have HX6 := Lib.hid hx6
                have HB6 := Lib.hid ((drew_below _ _ nq).trans hb6)
                have y1 := hx6.choose_spec.choose_spec.c.c1
                have g1 := hx6.choose_spec.choose_spec.c.f 1
                simp only at y1
                clear hx6 hb6
                go_wp2_with fail
                refine bodyPost_ret (v := .int .i64 0) (by simp [results, Tryd.results40, go_sem]) rfl ?_
                rw [HSOME.out]
                refine ⟨rfl, ?_, HB6.out.trans (HX6.out.setAt e2).2⟩
                have hq := (HX6.out.setAt e2).1
                rw [← HAE.out] at hq ⊢
                exact hq
          · have hz1 : ¬ ((n2 : Int) > 1) := by omega
            by_cases hl : e2 < s.size
            · have hlz : (e2 : Int) < (s.size : Int) := by omega
              by_cases hi : isLi (bt s e2) = true
              · have hnone : numD (Rs s a) = none := by rw [HND.out, if_pos (HBAD.out.2 (.inr (.inr ⟨hl, .inl hi⟩)))]
                have HNONE := Lib.hid hnone
                clear hnone HND HBAD
                go_wp2_with fail
                go_quiet (fail)
                go_wp2_with (first
                  | (go_at_call 37; (with_reducible refine (isLetter_any (bt s e2) _).mono ?_); rintro e wv ⟨rfl, rfl⟩)
                  | fail)
                refine bodyPost_ret (v := .int .i64 20) (by simp [results, Tryd.results40, go_sem]) rfl ?_
                rw [HNONE.out]
                exact ⟨rfl, _, H.out.drew nq, rfl, drew_below _ _ _⟩
              · have hi2 : isLi (bt s e2) = false := by simpa using hi
                by_cases h46 : bt s e2 = 46
                · have h46b : (bt s e2 == 46) = true := by simpa using h46
                  have HH46 := Lib.hid h46
                  clear h46
                  have hnone : numD (Rs s a) = none := by rw [HND.out, if_pos (HBAD.out.2 (.inr (.inr ⟨hl, .inr HH46.out⟩)))]
                  have HNONE := Lib.hid hnone
                  clear hnone HND HBAD
                  go_wp2_with fail
                  go_quiet (fail)
                  go_wp2_with (first
                    | (go_at_call 37; (with_reducible refine (isLetter_any (bt s e2) _).mono ?_); rintro e wv ⟨rfl, rfl⟩)
                    | fail)
                  refine bodyPost_ret (v := .int .i64 20) (by simp [results, Tryd.results40, go_sem]) rfl ?_
                  rw [HNONE.out]
                  exact ⟨rfl, _, H.out.drew nq, rfl, drew_below _ _ _⟩
                · have h46b : (bt s e2 == 46) = false := by simpa using h46
                  have hsome : numD (Rs s a) = some (5, tx, n2) := by rw [HND.out, if_neg (fun hh => by have := HBAD.out.1 hh; exact this.elim (by omega) (fun h => h.elim (fun h => h1 h.2.1) (fun h => h.2.elim hi h46)))]
                  have HSOME := Lib.hid hsome
                  clear hsome HND HBAD
                  go_wp2_with fail
                  go_quiet (fail)
                  go_wp2_with (first
                    | (go_at_call 37; (with_reducible refine (isLetter_any (bt s e2) _).mono ?_); rintro e wv ⟨rfl, rfl⟩)
                    | fail)
                  refine (put_any (σ := ⟨s, a, ln, d, op, out⟩) (H.out.drew nq) hol 5 tx).mono ?_
                  rintro e w6 ⟨rfl, hx6, hb6⟩
                  have HX6 := Lib.hid hx6
                  have HB6 := Lib.hid ((drew_below _ _ nq).trans hb6)
                  have y1 := hx6.choose_spec.choose_spec.c.c1
                  have g1 := hx6.choose_spec.choose_spec.c.f 1
                  simp only at y1
                  clear hx6 hb6
                  go_wp2_with fail
                  refine bodyPost_ret (v := .int .i64 0) (by simp [results, Tryd.results40, go_sem]) rfl ?_
                  rw [HSOME.out]
                  refine ⟨rfl, ?_, HB6.out.trans (HX6.out.setAt e2).2⟩
                  have hq := (HX6.out.setAt e2).1
                  rw [← HAE.out] at hq ⊢
                  exact hq
            · have hlz : ¬ (e2 : Int) < (s.size : Int) := by omega
              have hsome : numD (Rs s a) = some (5, tx, n2) := by rw [HND.out, if_neg (fun hh => by have := HBAD.out.1 hh; exact this.elim (by omega) (fun h => h.elim (fun h => h1 h.2.1) (fun h => hl h.1)))]
              have HSOME := Lib.hid hsome
              clear hsome HND HBAD
              go_wp2_with fail
              go_quiet (fail)
              go_wp2_with (first
                | (go_at_call 37; (with_reducible refine (isLetter_any (bt s e2) _).mono ?_); rintro e wv ⟨rfl, rfl⟩)
                | fail)
              refine (put_any (σ := ⟨s, a, ln, d, op, out⟩) (H.out.drew nq) hol 5 tx).mono ?_
              rintro e w6 ⟨rfl, hx6, hb6⟩
              have HX6 := Lib.hid hx6
              have HB6 := Lib.hid ((drew_below _ _ nq).trans hb6)
              have y1 := hx6.choose_spec.choose_spec.c.c1
              have g1 := hx6.choose_spec.choose_spec.c.f 1
              simp only at y1
              clear hx6 hb6
              go_wp2_with fail
              refine bodyPost_ret (v := .int .i64 0) (by simp [results, Tryd.results40, go_sem]) rfl ?_
              rw [HSOME.out]
              refine ⟨rfl, ?_, HB6.out.trans (HX6.out.setAt e2).2⟩
              have hq := (HX6.out.setAt e2).1
              rw [← HAE.out] at hq ⊢
              exact hq
        · by_cases hl : e2 < s.size
          · have hlz : (e2 : Int) < (s.size : Int) := by omega
            by_cases hi : isLi (bt s e2) = true
            · have hnone : numD (Rs s a) = none := by rw [HND.out, if_pos (HBAD.out.2 (.inr (.inr ⟨hl, .inl hi⟩)))]
              have HNONE := Lib.hid hnone
              clear hnone HND HBAD
              go_wp2_with fail
              go_quiet (fail)
              go_wp2_with (first
                | (go_at_call 37; (with_reducible refine (isLetter_any (bt s e2) _).mono ?_); rintro e wv ⟨rfl, rfl⟩)
                | fail)
              refine bodyPost_ret (v := .int .i64 20) (by simp [results, Tryd.results40, go_sem]) rfl ?_
              rw [HNONE.out]
              exact ⟨rfl, _, H.out.drew nq, rfl, drew_below _ _ _⟩
            · have hi2 : isLi (bt s e2) = false := by simpa using hi
              by_cases h46 : bt s e2 = 46
              · have h46b : (bt s e2 == 46) = true := by simpa using h46
                have HH46 := Lib.hid h46
                clear h46
                have hnone : numD (Rs s a) = none := by rw [HND.out, if_pos (HBAD.out.2 (.inr (.inr ⟨hl, .inr HH46.out⟩)))]
                have HNONE := Lib.hid hnone
                clear hnone HND HBAD
                go_wp2_with fail
                go_quiet (fail)
                go_wp2_with (first
                  | (go_at_call 37; (with_reducible refine (isLetter_any (bt s e2) _).mono ?_); rintro e wv ⟨rfl, rfl⟩)
                  | fail)
                refine bodyPost_ret (v := .int .i64 20) (by simp [results, Tryd.results40, go_sem]) rfl ?_
                rw [HNONE.out]
                exact ⟨rfl, _, H.out.drew nq, rfl, drew_below _ _ _⟩
              · have h46b : (bt s e2 == 46) = false := by simpa using h46
                have hsome : numD (Rs s a) = some (6, tx, n2) := by rw [HND.out, if_neg (fun hh => by have := HBAD.out.1 hh; exact this.elim (by omega) (fun h => h.elim (fun h => absurd h.1 (by decide)) (fun h => h.2.elim hi h46)))]
                have HSOME := Lib.hid hsome
                clear hsome HND HBAD
                go_wp2_with fail
                go_quiet (fail)
                go_wp2_with (first
                  | (go_at_call 37; (with_reducible refine (isLetter_any (bt s e2) _).mono ?_); rintro e wv ⟨rfl, rfl⟩)
                  | fail)
                refine (put_any (σ := ⟨s, a, ln, d, op, out⟩) (H.out.drew nq) hol 6 tx).mono ?_
                rintro e w6 ⟨rfl, hx6, hb6⟩
                have HX6 := Lib.hid hx6
                have HB6 := Lib.hid ((drew_below _ _ nq).trans hb6)
                have y1 := hx6.choose_spec.choose_spec.c.c1
                have g1 := hx6.choose_spec.choose_spec.c.f 1
                simp only at y1
                clear hx6 hb6
                go_wp2_with fail
                refine bodyPost_ret (v := .int .i64 0) (by simp [results, Tryd.results40, go_sem]) rfl ?_
                rw [HSOME.out]
                refine ⟨rfl, ?_, HB6.out.trans (HX6.out.setAt e2).2⟩
                have hq := (HX6.out.setAt e2).1
                rw [← HAE.out] at hq ⊢
                exact hq
          · have hlz : ¬ (e2 : Int) < (s.size : Int) := by omega
            have hsome : numD (Rs s a) = some (6, tx, n2) := by rw [HND.out, if_neg (fun hh => by have := HBAD.out.1 hh; exact this.elim (by omega) (fun h => h.elim (fun h => absurd h.1 (by decide)) (fun h => hl h.1)))]
            have HSOME := Lib.hid hsome
            clear hsome HND HBAD
            go_wp2_with fail
            go_quiet (fail)
            go_wp2_with (first
              | (go_at_call 37; (with_reducible refine (isLetter_any (bt s e2) _).mono ?_); rintro e wv ⟨rfl, rfl⟩)
              | fail)
            refine (put_any (σ := ⟨s, a, ln, d, op, out⟩) (H.out.drew nq) hol 6 tx).mono ?_
            rintro e w6 ⟨rfl, hx6, hb6⟩
            have HX6 := Lib.hid hx6
            have HB6 := Lib.hid ((drew_below _ _ nq).trans hb6)
            have y1 := hx6.choose_spec.choose_spec.c.c1
            have g1 := hx6.choose_spec.choose_spec.c.f 1
            simp only at y1
            clear hx6 hb6
            go_wp2_with fail
            refine bodyPost_ret (v := .int .i64 0) (by simp [results, Tryd.results40, go_sem]) rfl ?_
            rw [HSOME.out]
            refine ⟨rfl, ?_, HB6.out.trans (HX6.out.setAt e2).2⟩
            have hq := (HX6.out.setAt e2).1
            rw [← HAE.out] at hq ⊢
            exact hq
end Go.Proofs.YtcjomeghcihecaaDoor
