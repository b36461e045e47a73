/- Layer 3: NaN, infinities, noughts: the law. -/
import Derived.Test.YtkmnkjeiajlcfaaGreatDoorPRlM
namespace Go.Proofs.YtkmnkjeiajlcfaaGreatDoor
open Go Go.ChangeShapes Go.WideShapes Go.RowKit
set_option linter.unusedVariables false
set_option linter.unusedSimpArgs false
set_option maxRecDepth 100000 in
set_option maxHeartbeats 8000000 in
theorem edges_nan (a b : Nat) (ha : a < 18446744073709551616) (hb : b < 18446744073709551616) (w : World) (ht : PT w) (hp : P10R w) (i j : Bool) (q : Nat) (er : Int)
    (hi : nanB a = i) (hj : nanB b = j) (hij : i = true ∨ (i = false ∧ j = true)) (hq : dvV a b = q) (he : dvE b = er) (hqe : er = 6 ∨ (er = 0 ∧ q = 9221120237041090560)) :
    Calls Tryz.prog 4 #[.int .u64 (a : Int), .int .u64 (b : Int)] w fun e w' => e = .returned (.bool true) ∧ Below w.heap.size w w' := by
  have hn : nanB a = true ∨ nanB b = true := by rw [hi, hj]; rcases hij with h | ⟨_, h⟩ <;> simp [h]
  have hn' : nanB b = true ∨ nanB a = true := hn.symm
  have ea : addB a b = 9221120237041090560 := by unfold addB; rw [nan_add hn]; rfl
  have es : subB b a = 9221120237041090560 := by unfold subB; rw [nan_sub hn']; rfl
  have em : mulB a b = 9221120237041090560 := by unfold mulB; rw [nan_mul hn]; rfl
  have ec : cmB a b = false := by unfold cmB; rcases hn with h | h <;> simp [h]
  have HKN := Lib.hid (known03 w ht hp)
  have HC := Lib.hid (fun W => cmp_any a b W)
  have HNa := Lib.hid (fun W => risNaN_any a ha W)
  have HNb := Lib.hid (fun W => risNaN_any b hb W)
  have HD := Lib.hid (fun W => div_any a b W)
  have HAd := Lib.hid (fun W => add_any a b W)
  have HSu := Lib.hid (fun W => sub_any b a W)
  have HMu := Lib.hid (fun W => mul_any a b W)
  rw [ec] at HC
  rw [ea] at HAd
  rw [es] at HSu
  rw [em] at HMu
  rw [hi] at HNa
  rw [hj] at HNb
  rw [hq, he] at HD
  obtain ⟨c, hc⟩ : ∃ c, cmV a b = c := ⟨_, rfl⟩
  rw [hc] at HC
  clear hn hn' ea es em ec ht hp hi hj hq he hc ha hb
  have HX := Lib.hid (Below.refl w.heap.size w)
  rcases hqe with rfl | ⟨rfl, rfl⟩ <;> rcases hij with rfl | ⟨rfl, rfl⟩
  all_goals
    go_enter Tryz.func4, Tryz.ntmps4
    go_wp2_with (first
      | (go_at_call 7; (with_reducible refine HKN.out.mono ?_); rintro e w3 ⟨rfl, hx⟩; replace HX := Lib.hid (HX.out.trans (hx.mono HX.out.size)); clear hx HKN)
      | (go_at_call 16; (with_reducible refine (HC.out _).mono ?_); rintro e w9 ⟨rfl, rfl⟩)
      | (go_at_call 17; first | ((with_reducible refine (HNa.out _).mono ?_); rintro e w9 ⟨rfl, rfl⟩) | ((with_reducible refine (HNb.out _).mono ?_); rintro e w9 ⟨rfl, rfl⟩))
      | (go_at_call 5; (with_reducible refine (HD.out _).mono ?_); rintro e w1 ⟨rfl, hx⟩; replace HX := Lib.hid (HX.out.trans (hx.mono HX.out.size)); clear hx)
      | (go_at_call 10; (with_reducible refine (HAd.out _).mono ?_); rintro e w4 ⟨rfl, hx⟩; replace HX := Lib.hid (HX.out.trans (hx.mono HX.out.size)); clear hx)
      | (go_at_call 12; (with_reducible refine (HSu.out _).mono ?_); rintro e w5 ⟨rfl, hx⟩; replace HX := Lib.hid (HX.out.trans (hx.mono HX.out.size)); clear hx)
      | (go_at_call 14; (with_reducible refine (HMu.out _).mono ?_); rintro e w6 ⟨rfl, hx⟩; replace HX := Lib.hid (HX.out.trans (hx.mono HX.out.size)); clear hx)
      | fail)
    go_ret
    exact ⟨rfl, HX.out⟩
set_option maxRecDepth 100000 in
set_option maxHeartbeats 8000000 in
theorem edges_reg (a b : Nat) (ha : a < 18446744073709551616) (hb : b < 18446744073709551616) (w : World) (ht : PT w) (hp : P10R w) (na : nanB a = false) (nb : nanB b = false) (s : Nat) (i za zb eq : Bool) (c d : Int)
    (hs : subB a a = s) (hi : infB a = i) (hsi : (i = true ∧ s = 9221120237041090560) ∨ (i = false ∧ s = 0)) (hza : zeroB a = za) (hzb : zeroB b = zb) (he : ((a : Int) == (b : Int)) = eq) (hc : cmpZ a b = c) (hd : cmpZ b a = d)
    (H : (c = 0 ∧ d = 0 ∧ eq = true) ∨ (c = 0 ∧ d = 0 ∧ eq = false ∧ za = true ∧ zb = true) ∨ (c = 1 ∧ d = -1 ∧ eq = false ∧ za = false) ∨ (c = 1 ∧ d = -1 ∧ eq = false ∧ za = true ∧ zb = false) ∨ (c = -1 ∧ d = 1 ∧ eq = false ∧ za = false) ∨ (c = -1 ∧ d = 1 ∧ eq = false ∧ za = true ∧ zb = false)) :
    Calls Tryz.prog 4 #[.int .u64 (a : Int), .int .u64 (b : Int)] w fun e w' => e = .returned (.bool true) ∧ Below w.heap.size w w' := by
  have HKN := Lib.hid (known03 w ht hp)
  have nn : ¬ (nanB a = true ∨ nanB b = true) := by simp [na, nb]
  have nn2 : ¬ (nanB b = true ∨ nanB a = true) := by simp [na, nb]
  have nn3 : ¬ (nanB a = true ∨ nanB a = true) := by simp [na]
  have HC1 := Lib.hid (fun W => cmp_any a b W)
  have HC2 := Lib.hid (fun W => cmp_any b a W)
  have HC3 := Lib.hid (fun W => cmp_any a a W)
  rw [show cmV a b = c by unfold cmV; rw [if_neg nn, hc], show cmB a b = true by unfold cmB; simp [na, nb]] at HC1
  rw [show cmV b a = d by unfold cmV; rw [if_neg nn2, hd], show cmB b a = true by unfold cmB; simp [na, nb]] at HC2
  rw [show cmV a a = 0 by unfold cmV; rw [if_neg nn3, cmpZ_self], show cmB a a = true by unfold cmB; simp [na]] at HC3
  have HNa := Lib.hid (fun W => risNaN_any a ha W)
  have HNb := Lib.hid (fun W => risNaN_any b hb W)
  rw [na] at HNa
  rw [nb] at HNb
  have HSu := Lib.hid (fun W => sub_any a a W)
  rw [hs] at HSu
  have HIn := Lib.hid (fun W => risInf_any a ha W)
  rw [hi] at HIn
  have HZa := Lib.hid (fun W => risZero_any a ha W)
  have HZb := Lib.hid (fun W => risZero_any b hb W)
  rw [hza] at HZa
  rw [hzb] at HZb
  have HN1 := Lib.hid (fun W => neg_any a ha W)
  have HN2 := Lib.hid (fun W => neg_any (negV a) (negV_lt a ha) W)
  rw [neg_neg na ha] at HN2
  obtain ⟨n, hn⟩ : ∃ n, negV a = n := ⟨_, rfl⟩
  rw [hn] at HN1 HN2
  have HA1 := Lib.hid (fun W => add_any a b W)
  have HA2 := Lib.hid (fun W => add_any b a W)
  rw [add_comm b a] at HA2
  have HM1 := Lib.hid (fun W => mul_any a b W)
  have HM2 := Lib.hid (fun W => mul_any b a W)
  rw [mul_comm b a] at HM2
  obtain ⟨x, hx⟩ : ∃ x, addB a b = x := ⟨_, rfl⟩
  obtain ⟨y, hy⟩ : ∃ y, mulB a b = y := ⟨_, rfl⟩
  rw [hx] at HA1 HA2
  rw [hy] at HM1 HM2
  clear ht hp na nb hs hi hza hzb hc hd nn nn2 nn3 hn hx hy ha hb
  have HX := Lib.hid (Below.refl w.heap.size w)
  rcases hsi with ⟨rfl, rfl⟩ | ⟨rfl, rfl⟩ <;> rcases H with ⟨rfl, rfl, rfl⟩ | ⟨rfl, rfl, rfl, rfl, rfl⟩ | ⟨rfl, rfl, rfl, rfl⟩ | ⟨rfl, rfl, rfl, rfl, rfl⟩ | ⟨rfl, rfl, rfl, rfl⟩ | ⟨rfl, rfl, rfl, rfl, rfl⟩
  all_goals
    go_enter Tryz.func4, Tryz.ntmps4
    go_wp2_with (first
      | (go_at_call 7; (with_reducible refine HKN.out.mono ?_); rintro e w3 ⟨rfl, hx⟩; replace HX := Lib.hid (HX.out.trans (hx.mono HX.out.size)); clear hx HKN)
      | (go_at_call 16; first | ((with_reducible refine (HC1.out _).mono ?_); rintro e w9 ⟨rfl, rfl⟩) | ((with_reducible refine (HC2.out _).mono ?_); rintro e w9 ⟨rfl, rfl⟩) | ((with_reducible refine (HC3.out _).mono ?_); rintro e w9 ⟨rfl, rfl⟩))
      | (go_at_call 17; first | ((with_reducible refine (HNa.out _).mono ?_); rintro e w9 ⟨rfl, rfl⟩) | ((with_reducible refine (HNb.out _).mono ?_); rintro e w9 ⟨rfl, rfl⟩))
      | (go_at_call 18; (with_reducible refine (HIn.out _).mono ?_); rintro e w9 ⟨rfl, rfl⟩)
      | (go_at_call 19; first | ((with_reducible refine (HZa.out _).mono ?_); rintro e w9 ⟨rfl, rfl⟩) | ((with_reducible refine (HZb.out _).mono ?_); rintro e w9 ⟨rfl, rfl⟩))
      | (go_at_call 8; first | ((with_reducible refine (HN1.out _).mono ?_); rintro e w9 ⟨rfl, rfl⟩) | ((with_reducible refine (HN2.out _).mono ?_); rintro e w9 ⟨rfl, rfl⟩))
      | (go_at_call 10; first | ((with_reducible refine (HA1.out _).mono ?_); rintro e w4 ⟨rfl, hx⟩; replace HX := Lib.hid (HX.out.trans (hx.mono HX.out.size)); clear hx) | ((with_reducible refine (HA2.out _).mono ?_); rintro e w4 ⟨rfl, hx⟩; replace HX := Lib.hid (HX.out.trans (hx.mono HX.out.size)); clear hx))
      | (go_at_call 12; (with_reducible refine (HSu.out _).mono ?_); rintro e w5 ⟨rfl, hx⟩; replace HX := Lib.hid (HX.out.trans (hx.mono HX.out.size)); clear hx)
      | (go_at_call 14; first | ((with_reducible refine (HM1.out _).mono ?_); rintro e w6 ⟨rfl, hx⟩; replace HX := Lib.hid (HX.out.trans (hx.mono HX.out.size)); clear hx) | ((with_reducible refine (HM2.out _).mono ?_); rintro e w6 ⟨rfl, hx⟩; replace HX := Lib.hid (HX.out.trans (hx.mono HX.out.size)); clear hx))
      | fail)
    go_ret
    exact ⟨rfl, HX.out⟩
theorem law_edges (a b : Nat) (ha : a < 18446744073709551616) (hb : b < 18446744073709551616) (w : World) (ht : PT w) (hp : P10R w) :
    Calls Tryz.prog 4 #[.int .u64 (a : Int), .int .u64 (b : Int)] w fun e w' => e = .returned (.bool true) ∧ Below w.heap.size w w' := by
  by_cases hn : nanB a = true ∨ nanB b = true
  · refine edges_nan a b ha hb w ht hp _ _ _ _ rfl rfl ?_ rfl rfl ?_
    · rcases hn with h | h
      · exact .inl h
      · cases h2 : nanB a
        · exact .inr ⟨rfl, h⟩
        · exact .inl rfl
    · unfold dvE dvV
      by_cases hz : zeroB b = true
      · rw [if_pos hz]; exact .inl rfl
      · rw [if_neg hz, if_neg hz]
        refine .inr ⟨rfl, ?_⟩
        unfold divB; rw [nan_div hn]; rfl
  · have na : nanB a = false := by cases h : nanB a <;> simp_all
    have nb : nanB b = false := by cases h : nanB b <;> simp_all
    refine edges_reg a b ha hb w ht hp na nb _ _ _ _ _ _ _ rfl rfl ?_ rfl rfl rfl rfl rfl ?_
    · rw [sub_self na]
      unfold infB
      by_cases h : a % fSG = fIN
      · exact .inl ⟨by simp [h], by rw [if_pos h]; rfl⟩
      · exact .inr ⟨by simp [h], by rw [if_neg h]⟩
    · have h0 := cmpZ_zero ha hb
      have h1 := cmpZ_anti b a
      have h2 : cmpZ a b = 0 ∨ cmpZ a b = 1 ∨ cmpZ a b = -1 := by
        unfold cmpZ
        split
        · simp
        · split <;> simp
      have h3 : ((a : Int) == (b : Int)) = decide (a = b) := by
        rw [Bool.eq_iff_iff, beq_iff_eq, decide_eq_true_eq]; omega
      rw [h3, h1]
      unfold zeroB
      by_cases hab : a = b
      · have := h0.2 (.inl hab)
        exact .inl ⟨this, by rw [this]; rfl, by simp [hab]⟩
      · rcases h2 with h2 | h2 | h2
        · rcases h0.1 h2 with h | ⟨h, h'⟩
          · exact absurd h hab
          · exact .inr (.inl ⟨h2, by rw [h2]; rfl, by simp [hab], by simp [h], by simp [h']⟩)
        · have hz : ¬ (a % fSG = 0 ∧ b % fSG = 0) := fun h => by have := h0.2 (.inr h); omega
          by_cases hza : a % fSG = 0
          · have hzb : ¬ b % fSG = 0 := fun h => hz ⟨hza, h⟩
            exact .inr (.inr (.inr (.inl ⟨h2, by rw [h2], by simp [hab], by simp [hza], by simp [hzb]⟩)))
          · exact .inr (.inr (.inl ⟨h2, by rw [h2], by simp [hab], by simp [hza]⟩))
        · have hz : ¬ (a % fSG = 0 ∧ b % fSG = 0) := fun h => by have := h0.2 (.inr h); omega
          by_cases hza : a % fSG = 0
          · have hzb : ¬ b % fSG = 0 := fun h => hz ⟨hza, h⟩
            exact .inr (.inr (.inr (.inr (.inr ⟨h2, by rw [h2]; rfl, by simp [hab], by simp [hza], by simp [hzb]⟩))))
          · exact .inr (.inr (.inr (.inr (.inl ⟨h2, by rw [h2]; rfl, by simp [hab], by simp [hza]⟩))))
end Go.Proofs.YtkmnkjeiajlcfaaGreatDoor
