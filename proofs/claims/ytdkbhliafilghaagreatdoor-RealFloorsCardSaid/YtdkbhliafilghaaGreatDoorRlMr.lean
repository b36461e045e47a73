/- math.Ldexp at a positive number, where the answer is a number; math.Mod. -/
import Derived.Test.YtdkbhliafilghaaGreatDoorRlMq
import Derived.LoopTactic
namespace Go.Proofs.YtdkbhliafilghaaGreatDoor
open Go Go.ChangeShapes Go.WideShapes Go.RowKit
set_option linter.unusedVariables false
set_option linter.unusedSimpArgs false
set_option maxRecDepth 100000 in
theorem Frexp_any (b : Nat) (h0 : 0 < b) (hb : b < fIN) (w : World) : Calls Tryz.prog 58 #[.float .f64 b] w fun e w' => (∃ f x, e = .returned (.tuple #[.float .f64 (4602678819172646912 + f), .int .i64 x]) ∧ FxP b f x) ∧ w = w' := by
  have HF := Lib.hid (frexp_any b h0 hb)
  clear h0 hb
  go_enter Tryz.func58, Tryz.ntmps58
  go_wp2_with fail
  refine (HF.out _).mono ?_
  rintro e w9 ⟨⟨f, x, rfl, hf⟩, rfl⟩
  have HX := Lib.hid hf
  clear hf
  go_wp2_with fail
  go_ret2
  exact ⟨⟨_, _, rfl, HX.out⟩, rfl⟩
theorem and_i64 {E : Nat} (h : E < 2048) : bits .and .i64 (E : Int) 2047 = (E : Int) := by
  have h1 : (E &&& 2047 : Nat) = E := by
    have := Nat.and_two_pow_sub_one_eq_mod E 11
    rw [show (2 ^ 11 - 1 : Nat) = 2047 from rfl] at this
    rw [this, Nat.mod_eq_of_lt h]
  have e1 : (BitVec.ofInt 64 (E : Int)).toNat = E := ofInt_u64 E (by omega)
  have e2 : (BitVec.ofInt 64 2047).toNat = 2047 := by decide
  show IntKind.i64.wrap ((BitVec.ofInt 64 (E : Int) &&& BitVec.ofInt 64 2047).toNat : Int) = _
  rw [BitVec.toNat_and, e1, e2, h1, IntWalk.i64_in _ (by omega)]
theorem ld_num2 (n E e52 : Nat) (hn : n ≤ 2200) (hE : E < 2047) (h1 : 1 ≤ E) (h : n + E ≤ e52) (he : e52 = 0 ∨ e52 = 52) : ∃ (F : Nat) (G X Y : Int), n + E + 53 - e52 = F ∧ 1 ≤ F ∧ F < 2047 ∧ X < -1022 ∧ -1075 ≤ X ∧ -1023 < Y ∧ Y ≤ 1023 ∧ -52 ≤ G ∧ G ≤ 2200 ∧ (e52 : Int) ≤ 52 ∧ (n : Int) ≤ 2200 ∧
    IntKind.i64.wrap ((n : Int) + -(e52 : Int)) = G ∧ IntKind.i64.wrap (G + ((E : Int) - 1023)) = X ∧ IntKind.i64.wrap (X + 53) = Y ∧ IntKind.i64.wrap (Y + 1023) = (F : Int) := by
  refine ⟨n + E + 53 - e52, (n : Int) + -(e52 : Int), (n : Int) + -(e52 : Int) + ((E : Int) - 1023), (n : Int) + -(e52 : Int) + ((E : Int) - 1023) + 53, rfl, by omega, by omega, by omega, by omega, by omega, by omega, by omega, by omega, by omega, by omega, ?_, ?_, ?_, ?_⟩
  · exact IntWalk.i64_in _ (by omega)
  · exact IntWalk.i64_in _ (by omega)
  · exact IntWalk.i64_in _ (by omega)
  · rw [IntWalk.i64_in _ (by omega)]; omega
set_option maxRecDepth 100000 in
theorem ldexp_any (y t n : Nat) (h0 : 0 < y) (hy : y < fIN) (ht : t < fIN) (ht0 : 0 < t) (hn : n ≤ 2200) (hm : magV t = magV y * 2 ^ n) (w : World) : Calls Tryz.prog 74 #[.float .f64 y, .int .i64 (n : Int)] w fun e w' => e = .returned (.float .f64 t) ∧ w = w' := by
  have hI : fIN = 9218868437227405312 := rfl
  have HNm := Lib.hid (normalize_any y h0 hy)
  have HI := Lib.hid (isInf_pos hy)
  have HN := Lib.hid (mIsNaN_any y (pos_facts hy).2.2.1)
  have h1 : (FloatKind.f64.format.order y 0 == some .eq) = false := by rw [eq_pos0 hy]; simp; omega
  go_enter Tryz.func74, Tryz.ntmps74
  go_wp2_with (first
    | (go_at_call 18; (with_reducible refine (HI.out _).mono ?_); rintro e w9 ⟨rfl, rfl⟩)
    | (go_at_call 56; (with_reducible refine (HN.out _).mono ?_); rintro e w9 ⟨rfl, rfl⟩)
    | fail)
  refine (HNm.out _).mono ?_
  rintro e w9 ⟨⟨z, x, rfl, hz⟩, rfl⟩
  obtain ⟨z1, z2, z3⟩ := hz
  obtain ⟨e52, hx, he52, hze⟩ : ∃ e52 : Nat, x = -(e52 : Int) ∧ (e52 = 0 ∨ e52 = 52) ∧ magV z = magV y * 2 ^ e52 := by
    rcases z3 with ⟨rfl, rfl⟩ | ⟨rfl, _, _, h⟩
    · exact ⟨0, by simp, .inl rfl, by simp⟩
    · exact ⟨52, by simp, .inr rfl, h⟩
  subst hx
  have b1 := run_f64bits z w
  have b2 := shr52 z
  have b3 := and_expz z2
  have b4 := andNot_exp z2
  have b7 : z / 4503599627370496 < 2047 := by omega
  have b6 : 1 ≤ z / 4503599627370496 := by omega
  have b8 : z % 4503599627370496 < 4503599627370496 := Nat.mod_lt _ (by decide)
  rw [b2] at b3
  have b3i := and_i64 (E := z / 4503599627370496) (by omega)
  have hz1 : (z : Int) < 18446744073709551616 := by omega
  obtain ⟨E, hE⟩ : ∃ E, z / 4503599627370496 = E := ⟨_, rfl⟩
  obtain ⟨f, hf⟩ : ∃ f, z % 4503599627370496 = f := ⟨_, rfl⟩
  have hL1 := @ld_normal y z t n e52 z1 hze hm
  have hL2 := @ld_small y z t n e52 z1 z2 hze hm ht
  rw [hE] at b2 b3 b3i b6 b7 hL1 hL2
  rw [hf] at b4 b8 hL1 hL2
  by_cases hc : e52 < n + E
  · have hT := hL1 hc
    have hE2 : n + E - e52 < 2047 := by omega
    have b5 := or_exp (f := f) (E := n + E - e52) b8 hE2
    have b9 := run_frombits t w
    have m1 := run_float_arith (P := Tryz.prog) w .mul 30 .f64 4607182418800017408 t t (mul_one_d ht ht0)
    rw [hT] at b5
    obtain ⟨F, hF⟩ : ∃ F, n + E - e52 = F := ⟨_, rfl⟩
    rw [hF] at b5 hE2
    rw [show ((F * 4503599627370496 : Nat) : Int) = (F : Int) * 4503599627370496 by omega] at b5
    obtain ⟨G, hG⟩ : ∃ G : Int, (n : Int) + -(e52 : Int) = G := ⟨_, rfl⟩
    obtain ⟨X, hX⟩ : ∃ X : Int, G + ((E : Int) - 1023) = X := ⟨_, rfl⟩
    have hX3 : IntKind.i64.wrap (X + 1023) = (F : Int) := by rw [IntWalk.i64_in _ (by omega)]; omega
    have hF1 : 1 ≤ F := by omega
    have hX1 : X ≤ 1023 := by omega
    have hX2 : -1022 ≤ X := by omega
    have hG1 : -52 ≤ G := by omega
    have hG2 : G ≤ 2200 := by omega
    have b10 : IntKind.i64.wrap ((n : Int) + -(e52 : Int)) = G := by rw [IntWalk.i64_in _ (by omega)]; exact hG
    have b11 : IntKind.i64.wrap (G + ((E : Int) - 1023)) = X := by rw [IntWalk.i64_in _ (by omega)]; exact hX
    have hen : (e52 : Int) ≤ 52 := by omega
    have hnn : (n : Int) ≤ 2200 := by omega
    clear hL1 hL2 hT z3 hze HNm HI HN h1 hy hm h0 hI z1 z2 hE hf ht hn hc he52 hF ht0 hG hX
    have H10 := Lib.hid b10
    have H11 := Lib.hid b11
    have H3 := Lib.hid hX3
    have H4 := Lib.hid b4
    have H5 := Lib.hid b5
    clear b10 b11 hX3 b4 b5 b3
    go_upto_region 6 with fail
    have b10 := H10.out
    go_upto_region 7 with fail
    clear b10 H10
    go_upto_region 8 with fail
    have b11 := H11.out
    go_upto_region 9 with fail
    clear b11 H11 b3i b2 hz1 b1 hnn hen hG1 hG2
    go_upto_region 11 with fail
    go_upto_region 16 with fail
    go_upto_region 19 with fail
    have b4 := H4.out
    go_upto_region 20 with fail
    clear b4 H4
    have hX3 := H3.out
    have b5 := H5.out
    go_upto_region 21 with fail
    clear hX3 H3 b5 H5
    go_wp2_with fail
    go_ret
    exact ⟨rfl, rfl⟩
  · obtain ⟨v, hv, hvI, hmul⟩ := hL2 (by omega) (by omega)
    obtain ⟨F, G, X, Y, hF, hF1, hE2, hX1, hX2, hY1, hY2, hG1, hG2, hen, hnn, b10, b11, hY3, hX3⟩ := ld_num2 n E e52 hn b7 b6 (by omega) he52
    have b5 := or_exp (f := f) (E := n + E + 53 - e52) b8 (by rw [hF]; exact hE2)
    have b9 := run_frombits v w
    have m1 := run_float_arith (P := Tryz.prog) w .mul 30 .f64 4368491638549381120 v t hmul
    rw [← hv] at b5
    rw [hF] at b5
    rw [show ((F * 4503599627370496 : Nat) : Int) = (F : Int) * 4503599627370496 by simp] at b5
    clear hL1 hL2 hv z3 hze HNm HI HN h1 hy hm h0 hI z1 z2 hE hf ht hn hc he52 hF ht0 hvI hmul
    have H10 := Lib.hid b10
    have H11 := Lib.hid b11
    have H3 := Lib.hid hX3
    have HY := Lib.hid hY3
    have H4 := Lib.hid b4
    have H5 := Lib.hid b5
    clear b10 b11 hX3 hY3 b4 b5 b3
    go_upto_region 6 with fail
    have b10 := H10.out
    go_upto_region 7 with fail
    clear b10 H10
    go_upto_region 8 with fail
    have b11 := H11.out
    go_upto_region 9 with fail
    clear b11 H11 b3i b2 hz1 b1 hnn hen hG1 hG2
    go_upto_region 11 with fail
    go_upto_region 16 with fail
    have hY3 := HY.out
    go_upto_region 18 with fail
    clear hY3 HY
    go_upto_region 19 with fail
    have b4 := H4.out
    go_upto_region 20 with fail
    clear b4 H4
    have hX3 := H3.out
    have b5 := H5.out
    go_upto_region 21 with fail
    clear hX3 H3 b5 H5
    go_wp2_with fail
    go_ret
    exact ⟨rfl, rfl⟩
end Go.Proofs.YtdkbhliafilghaaGreatDoor
