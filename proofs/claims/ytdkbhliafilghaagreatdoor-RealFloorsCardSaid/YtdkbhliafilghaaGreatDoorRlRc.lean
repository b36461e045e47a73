/- Quotients rounded down and rests: of any two floats, on both sides. -/
import Derived.Test.YtdkbhliafilghaaGreatDoorRlRb
namespace Go.Proofs.YtdkbhliafilghaaGreatDoor
open Go Go.ChangeShapes Go.WideShapes Go.RowKit
set_option linter.unusedVariables false
set_option linter.unusedSimpArgs false
/-- What both answer, but of a nought for a divisor. -/
def FM (a b f m : Nat) : Prop := ((nanB a = true ∨ nanB b = true ∨ infB a = true) ∧ f = 9221120237041090560 ∧ m = 9221120237041090560) ∨ (nanB a = false ∧ nanB b = false ∧ infB a = false ∧ ∃ rr s d0 d1, RS a b rr ∧ DV a b rr s d0 m d1 f)
theorem nan_word : nanB 9221120237041090560 = true ∧ patB 9221120237041090560 = 9221120237041090560 := by decide +kernel
theorem fm_ex (a b : Nat) (ha : a < 18446744073709551616) (hb : b < 18446744073709551616) (hz : zeroB b = false) : ∃ f m, FM a b f m ∧ f < 18446744073709551616 ∧ m < 18446744073709551616 ∧ patB f = f ∧ patB m = m := by
  by_cases h : nanB a = true ∨ nanB b = true ∨ infB a = true
  · exact ⟨_, _, .inl ⟨h, rfl, rfl⟩, by decide, by decide, nan_word.2, nan_word.2⟩
  · have h1 : nanB a = false := by cases h1 : nanB a <;> simp_all
    have h2 : nanB b = false := by cases h2 : nanB b <;> simp_all
    have h3 : infB a = false := by cases h3 : infB a <;> simp_all
    obtain ⟨rr, hr⟩ := rs_ex a b h1 h3 h2 hz
    obtain ⟨s, d0, m, d1, f, H⟩ := dv_ex a b rr hb h1 h3 h2 hz hr.1 hr.2.1 ha
    refine ⟨f, m, .inr ⟨h1, h2, h3, rr, s, d0, d1, hr, H⟩, H.nf.2, H.nm.2, ?_, ?_⟩
    · unfold patB; rw [H.nf.1, if_neg (by simp)]
    · unfold patB; rw [H.nm.1, if_neg (by simp)]
theorem number_nan (w : World) : Calls Tryz.prog 9 #[.int .u64 9221120237041090560] w fun e w' => e = .returned (.float .f64 9221120237041090560) ∧ w = w' := number_any 9221120237041090560 w
set_option maxRecDepth 100000 in
theorem divide_all (a b f m : Nat) (ha : a < 18446744073709551616) (hb : b < 18446744073709551616) (hz : zeroB b = false) (H : FM a b f m) (w : World) :
    Calls Tryz.prog 10 #[.float .f64 a, .float .f64 b] w fun e w' => e = .returned (.tuple #[.float .f64 f, .float .f64 m]) ∧ w = w' := by
  rcases H with ⟨h, rfl, rfl⟩ | ⟨h1, h2, h3, rr, s, d0, d1, hr, H⟩
  · have HNa := Lib.hid (isNaN_any a)
    have HNb := Lib.hid (isNaN_any b)
    have HIa : nanB a = false → ∀ W, Calls Tryz.prog 18 #[.float .f64 a, .int .i64 0] W fun e w' => e = .returned (.bool (infB a)) ∧ W = w' := fun h W => isInf0 a ha h W
    obtain ⟨na, hna⟩ : ∃ x, nanB a = x := ⟨_, rfl⟩
    obtain ⟨nb, hnb⟩ : ∃ x, nanB b = x := ⟨_, rfl⟩
    obtain ⟨ia, hia⟩ : ∃ x, infB a = x := ⟨_, rfl⟩
    rw [hna] at HNa HIa h
    rw [hnb] at HNb h
    rw [hia] at HIa h
    have hcs : na = true ∨ (na = false ∧ nb = true) ∨ (na = false ∧ nb = false ∧ ia = true) := by cases na <;> cases nb <;> simp_all
    have HI := Lib.hid HIa
    clear h hna hnb hia ha hb hz HIa
    rcases hcs with rfl | ⟨rfl, rfl⟩ | ⟨rfl, rfl, rfl⟩
    all_goals
      (try have HI3 := Lib.hid (HI.out rfl))
      go_enter Tryz.func10, Tryz.ntmps10
      go_wp2_with (first
        | (go_at_call 17; first | ((with_reducible refine (HNa.out _).mono ?_); rintro e w9 ⟨rfl, rfl⟩) | ((with_reducible refine (HNb.out _).mono ?_); rintro e w9 ⟨rfl, rfl⟩))
        | (go_at_call 18; (with_reducible refine (HI3.out _).mono ?_); rintro e w9 ⟨rfl, rfl⟩)
        | (go_at_call 9; (with_reducible refine (number_nan _).mono ?_); rintro e w9 ⟨rfl, rfl⟩)
        | fail)
      go_ret2
      exact ⟨rfl, rfl⟩
  · exact divide_any a b rr s d0 m d1 f ha h1 h3 hb h2 hz hr H w
theorem subB_some {x y z : Nat} (h : Ieee.double.sub x y = some z) (hn : nanB z = false) : subB x y = z := by
  unfold subB; rw [h]
  show patB z = z
  unfold patB; rw [hn, if_neg (by simp)]
theorem addB_some {x y z : Nat} (h : Ieee.double.add x y = some z) (hn : nanB z = false) : addB x y = z := by
  unfold addB; rw [h]
  show patB z = z
  unfold patB; rw [hn, if_neg (by simp)]
theorem dvV_some {x y z : Nat} (h : Ieee.double.div x y = some z) (hn : nanB z = false) (hz : zeroB y = false) : dvV x y = z ∧ dvE y = 0 := by
  unfold dvV dvE divB; rw [h, hz, if_neg (by simp), if_neg (by simp)]
  refine ⟨?_, rfl⟩
  show patB z = z
  unfold patB; rw [hn, if_neg (by simp)]
theorem pat_nn {z : Nat} (h : nanB z = false) : patB z = z := by unfold patB; rw [h, if_neg (by simp)]
theorem xor_signs (a b : Nat) (ha : a < 18446744073709551616) (hb : b < 18446744073709551616) : ∃ c : Nat, bits .xor .u64 (a : Int) (b : Int) = (c : Int) ∧ c < 18446744073709551616 ∧ negB c = (negB a ^^ negB b) := by
  have h := u64_xor_nat a b ha hb
  refine ⟨a ^^^ b, h, ?_, ?_⟩
  · have := Nat.xor_lt_two_pow (n := 64) (x := a) (y := b) (by omega) (by omega)
    simpa using this
  · have h1 : (a ^^^ b) / 2 ^ 63 = a / 2 ^ 63 ^^^ b / 2 ^ 63 := Nat.xor_div_two_pow
    unfold negB
    rw [show fSG = 2 ^ 63 from rfl, h1]
    have ha2 : a / 2 ^ 63 = 0 ∨ a / 2 ^ 63 = 1 := by omega
    have hb2 : b / 2 ^ 63 = 0 ∨ b / 2 ^ 63 = 1 := by omega
    rcases ha2 with e | e <;> rcases hb2 with g | g <;> rw [e, g] <;> rfl
theorem nan_of_pat {r : Nat} (h : patB r = fNaN) : nanB r = true := by
  cases hn : nanB r
  · unfold patB at h
    rw [hn, if_neg (by simp)] at h
    rw [h] at hn
    exact absurd hn (by decide +kernel)
  · rfl
theorem inf_less {x : Nat} (hn : nanB x = false) (hi : infB x = true) : outB (floatBits .sub .f64 x x) = fNaN := by
  have h := sub_self hn
  unfold infB at hi
  rw [decide_eq_true_eq] at hi
  rw [if_pos hi] at h
  exact h
theorem word_zero (n : Bool) : (if n = true then (9223372036854775808 : Int) else 0) = ((Ieee.double.word n 0 : Nat) : Int) := by cases n <;> rfl
set_option maxRecDepth 100000 in
set_option maxHeartbeats 4000000 in
theorem both_any (a b f m : Nat) (ha : a < 18446744073709551616) (hb : b < 18446744073709551616) (hz : zeroB b = false) (H : FM a b f m) (w : World) :
    Calls Tryz.prog 13 #[.int .u64 (a : Int), .int .u64 (b : Int)] w fun e w' => e = .returned (.tuple #[.int .u64 (f : Int), .int .u64 (m : Int)]) ∧ Below w.heap.size w w' := by
  have HX := Lib.hid (Below.refl w.heap.size w)
  have HNa := Lib.hid (risNaN_any a ha)
  have HNb := Lib.hid (risNaN_any b hb)
  have HI := Lib.hid (risInf_any a ha)
  rcases H with ⟨h, rfl, rfl⟩ | ⟨h1, h2, h3, rr, s, d0, d1, hr, H⟩
  · obtain ⟨na, hna⟩ : ∃ x, nanB a = x := ⟨_, rfl⟩
    obtain ⟨nb, hnb⟩ : ∃ x, nanB b = x := ⟨_, rfl⟩
    obtain ⟨ia, hia⟩ : ∃ x, infB a = x := ⟨_, rfl⟩
    rw [hna] at HNa h
    rw [hnb] at HNb h
    rw [hia] at HI h
    have hcs : na = true ∨ (na = false ∧ nb = true) ∨ (na = false ∧ nb = false ∧ ia = true) := by cases na <;> cases nb <;> simp_all
    clear h hna hnb hia ha hb hz
    rcases hcs with rfl | ⟨rfl, rfl⟩ | ⟨rfl, rfl, rfl⟩
    all_goals
      go_enter Tryz.func13, Tryz.ntmps13
      go_wp2_with (first
        | (go_at_call 23; first | ((with_reducible refine (HNa.out _).mono ?_); rintro e w9 ⟨rfl, rfl⟩) | ((with_reducible refine (HNb.out _).mono ?_); rintro e w9 ⟨rfl, rfl⟩))
        | (go_at_call 24; (with_reducible refine (HI.out _).mono ?_); rintro e w9 ⟨rfl, rfl⟩)
        | fail)
      go_ret2
      exact ⟨rfl, HX.out⟩
  · rw [h1] at HNa
    rw [h2] at HNb
    rw [h3] at HI
    have HR := Lib.hid (rest_any a b rr ha h1 h3 hb h2 hz hr)
    obtain ⟨w1, w2, w3, w4⟩ := word_d (negB a) rr hr.1
    have hzm : zeroB (Ieee.double.word (negB a) rr) = decide (rr = 0) := by unfold zeroB; rw [w1]
    have HZm := Lib.hid (risZero_any _ w3)
    rw [hzm] at HZm
    have HLm := Lib.hid (below_anyB _ w3)
    rw [w2] at HLm
    have HLb := Lib.hid (below_anyB b hb)
    have HS1 := Lib.hid (rsub_any a (Ieee.double.word (negB a) rr) w3)
    rw [subB_some H.hs H.ns.1] at HS1
    have HD := Lib.hid (rdiv_any s b hb)
    obtain ⟨e1, e2⟩ := dvV_some H.hd H.nd.1 hz
    rw [e1, e2] at HD
    have HZd := Lib.hid (risZero_any d1 H.nd1.2)
    have HF := Lib.hid (floor_any d1 H.nd1.2 H.nd1.1)
    have HP := Lib.hid (rpattern_any f H.nf.2)
    rw [pat_nn H.nf.1] at HP
    obtain ⟨c, x1, x2, x3⟩ := xor_signs a b ha hb
    have x4 := and_sign c x2
    rw [x3, word_zero] at x4
    have sb := and_sign b hb
    rw [word_zero] at sb
    have o1 := fun W => run_f64bits 4607182418800017408 W
    obtain ⟨m0, hm⟩ : ∃ m, Ieee.double.word (negB a) rr = m := ⟨_, rfl⟩
    rw [hm] at HR HZm HLm HS1
    obtain ⟨nB, hnB⟩ : ∃ n, negB b = n := ⟨_, rfl⟩
    obtain ⟨nA, hnA⟩ : ∃ n, negB a = n := ⟨_, rfl⟩
    obtain ⟨zD, hzD⟩ : ∃ n, zeroB d1 = n := ⟨_, rfl⟩
    obtain ⟨iD, hiD⟩ : ∃ n, infB d1 = n := ⟨_, rfl⟩
    rw [hzD] at HZd
    rw [hnA] at HLm
    rw [hnB] at HLb sb
    rw [hnA, hnB] at x4
    have c0 := H.c0
    have c1 := H.c1
    have c2 := H.c2
    rw [hm, hnA, hnB] at c1 c2
    rw [hnB] at c0
    have hnm := H.nm
    have hnd1 := H.nd1
    obtain ⟨fl, hfl⟩ : ∃ p, flB d1 = p := ⟨_, rfl⟩
    rw [hfl] at HF
    have f0 := H.f0
    have f1 := H.f1
    have f2 := H.f2
    have f3 : infB d1 = true → fl = d1 := fun h => by rw [← hfl]; exact fl_inf hnd1.2 h
    rw [hnA, hnB, hzD] at f0
    rw [hiD] at f1 f3
    rw [hzD, hiD, hfl] at f2
    obtain ⟨z0, hz0⟩ : ∃ p, Ieee.double.word nB 0 = p := ⟨_, rfl⟩
    obtain ⟨zx, hzx⟩ : ∃ p, Ieee.double.word (nA ^^ nB) 0 = p := ⟨_, rfl⟩
    rw [hz0] at sb c0
    rw [hzx] at x4 f0
    have HS2 : subB d0 oneF = d1 → True := fun _ => trivial
    have HN1 := Lib.hid H.nm.1
    have HN2 := Lib.hid H.nd1.1
    have HiD := Lib.hid hiD
    clear hfl hz0 hzx hzm w1 w2 w3 w4 hm hnB hnA hzD hiD H hr ha h1 h2 h3 hb hz e1 e2 x2 x3 hnm hnd1 HS2
    by_cases h0 : rr = 0
    · obtain ⟨rfl, rfl⟩ := c0 h0
      have hd : decide (rr = 0) = true := by simpa using h0
      rw [hd] at HZm
      clear hd h0 c0 c1 c2
      cases zD
      · cases iD
        · obtain ⟨q, q1, q2, q3, q4⟩ := f2 rfl rfl
          have a5 := fun W => run_float_arith (P := Tryz.prog) W .sub 30 .f64 _ _ _ q1
          cases hg : (Ieee.double.order q halfF == some .gt) with
          | true =>
            have a6 := fun W => run_float_arith (P := Tryz.prog) W .add 30 .f64 _ _ _ (q3 hg)
            have hg' : (FloatKind.f64.format.order q 4602678819172646912 == some .gt) = true := hg
            unfold oneF at *
            clear q1 q2 q3 q4 f0 f1 f2 hg
            go_enter Tryz.func13, Tryz.ntmps13
            go_wp2_with (first
              | (go_at_call 23; first | ((with_reducible refine (HNa.out _).mono ?_); rintro e w9 ⟨rfl, rfl⟩) | ((with_reducible refine (HNb.out _).mono ?_); rintro e w9 ⟨rfl, rfl⟩))
              | (go_at_call 24; (with_reducible refine (HI.out _).mono ?_); rintro e w9 ⟨rfl, rfl⟩)
              | (go_at_call 12; first | ((with_reducible refine (HZm.out _).mono ?_); rintro e w9 ⟨rfl, rfl⟩) | ((with_reducible refine (HZd.out _).mono ?_); rintro e w9 ⟨rfl, rfl⟩))
              | (go_at_call 28; first | ((with_reducible refine (HLm.out _).mono ?_); rintro e w9 ⟨rfl, rfl⟩) | ((with_reducible refine (HLb.out _).mono ?_); rintro e w9 ⟨rfl, rfl⟩))
              | (go_at_call 25; (with_reducible refine (HR.out _).mono ?_); rintro e w9 ⟨rfl, rfl⟩)
              | (go_at_call 30; (with_reducible refine (rfloat_any _ _).mono ?_); rintro e w9 ⟨rfl, rfl⟩)
              | (go_at_call 27; first | ((with_reducible refine (HS1.out _).mono ?_); rintro e vv ⟨rfl, hvv⟩; replace HX := Lib.hid (HX.out.trans (hvv.mono HX.out.size)); clear hvv) | ((with_reducible refine (HS2.out _).mono ?_); rintro e vv ⟨rfl, hvv⟩; replace HX := Lib.hid (HX.out.trans (hvv.mono HX.out.size)); clear hvv))
              | (go_at_call 26; (with_reducible refine (HD.out _).mono ?_); rintro e vv ⟨rfl, hvv⟩; replace HX := Lib.hid (HX.out.trans (hvv.mono HX.out.size)); clear hvv)
              | (go_at_call 29; (with_reducible refine (HA.out _).mono ?_); rintro e vv ⟨rfl, hvv⟩; replace HX := Lib.hid (HX.out.trans (hvv.mono HX.out.size)); clear hvv)
              | (go_at_call 21; (with_reducible refine (HF.out _).mono ?_); rintro e w9 ⟨rfl, rfl⟩)
              | (go_at_call 31; (with_reducible refine (HP.out _).mono ?_); rintro e w9 ⟨rfl, rfl⟩)
              | fail)
            go_ret2
            exact ⟨rfl, HX.out⟩
          | false =>
            have hf := q4 hg
            subst hf
            have hg' : (FloatKind.f64.format.order q 4602678819172646912 == some .gt) = false := hg
            unfold oneF at *
            clear q1 q2 q3 q4 f0 f1 f2 hg
            go_enter Tryz.func13, Tryz.ntmps13
            go_wp2_with (first
              | (go_at_call 23; first | ((with_reducible refine (HNa.out _).mono ?_); rintro e w9 ⟨rfl, rfl⟩) | ((with_reducible refine (HNb.out _).mono ?_); rintro e w9 ⟨rfl, rfl⟩))
              | (go_at_call 24; (with_reducible refine (HI.out _).mono ?_); rintro e w9 ⟨rfl, rfl⟩)
              | (go_at_call 12; first | ((with_reducible refine (HZm.out _).mono ?_); rintro e w9 ⟨rfl, rfl⟩) | ((with_reducible refine (HZd.out _).mono ?_); rintro e w9 ⟨rfl, rfl⟩))
              | (go_at_call 28; first | ((with_reducible refine (HLm.out _).mono ?_); rintro e w9 ⟨rfl, rfl⟩) | ((with_reducible refine (HLb.out _).mono ?_); rintro e w9 ⟨rfl, rfl⟩))
              | (go_at_call 25; (with_reducible refine (HR.out _).mono ?_); rintro e w9 ⟨rfl, rfl⟩)
              | (go_at_call 30; (with_reducible refine (rfloat_any _ _).mono ?_); rintro e w9 ⟨rfl, rfl⟩)
              | (go_at_call 27; first | ((with_reducible refine (HS1.out _).mono ?_); rintro e vv ⟨rfl, hvv⟩; replace HX := Lib.hid (HX.out.trans (hvv.mono HX.out.size)); clear hvv) | ((with_reducible refine (HS2.out _).mono ?_); rintro e vv ⟨rfl, hvv⟩; replace HX := Lib.hid (HX.out.trans (hvv.mono HX.out.size)); clear hvv))
              | (go_at_call 26; (with_reducible refine (HD.out _).mono ?_); rintro e vv ⟨rfl, hvv⟩; replace HX := Lib.hid (HX.out.trans (hvv.mono HX.out.size)); clear hvv)
              | (go_at_call 29; (with_reducible refine (HA.out _).mono ?_); rintro e vv ⟨rfl, hvv⟩; replace HX := Lib.hid (HX.out.trans (hvv.mono HX.out.size)); clear hvv)
              | (go_at_call 21; (with_reducible refine (HF.out _).mono ?_); rintro e w9 ⟨rfl, rfl⟩)
              | (go_at_call 31; (with_reducible refine (HP.out _).mono ?_); rintro e w9 ⟨rfl, rfl⟩)
              | fail)
            go_ret2
            exact ⟨rfl, HX.out⟩
        · have hf := f1 rfl
          have hfl2 := f3 rfl
          subst hf
          subst hfl2
          unfold oneF at *
          clear f0 f1 f2 f3
          go_enter Tryz.func13, Tryz.ntmps13
          go_upto_region 13 with (first
            | (go_at_call 23; first | ((with_reducible refine (HNa.out _).mono ?_); rintro e w9 ⟨rfl, rfl⟩) | ((with_reducible refine (HNb.out _).mono ?_); rintro e w9 ⟨rfl, rfl⟩))
            | (go_at_call 24; (with_reducible refine (HI.out _).mono ?_); rintro e w9 ⟨rfl, rfl⟩)
            | (go_at_call 12; first | ((with_reducible refine (HZm.out _).mono ?_); rintro e w9 ⟨rfl, rfl⟩) | ((with_reducible refine (HZd.out _).mono ?_); rintro e w9 ⟨rfl, rfl⟩))
            | (go_at_call 28; first | ((with_reducible refine (HLm.out _).mono ?_); rintro e w9 ⟨rfl, rfl⟩) | ((with_reducible refine (HLb.out _).mono ?_); rintro e w9 ⟨rfl, rfl⟩))
            | (go_at_call 25; (with_reducible refine (HR.out _).mono ?_); rintro e w9 ⟨rfl, rfl⟩)
            | (go_at_call 30; (with_reducible refine (rfloat_any _ _).mono ?_); rintro e w9 ⟨rfl, rfl⟩)
            | (go_at_call 27; first | ((with_reducible refine (HS1.out _).mono ?_); rintro e vv ⟨rfl, hvv⟩; replace HX := Lib.hid (HX.out.trans (hvv.mono HX.out.size)); clear hvv) | ((with_reducible refine (HS2.out _).mono ?_); rintro e vv ⟨rfl, hvv⟩; replace HX := Lib.hid (HX.out.trans (hvv.mono HX.out.size)); clear hvv))
            | (go_at_call 26; (with_reducible refine (HD.out _).mono ?_); rintro e vv ⟨rfl, hvv⟩; replace HX := Lib.hid (HX.out.trans (hvv.mono HX.out.size)); clear hvv)
            | (go_at_call 29; (with_reducible refine (HA.out _).mono ?_); rintro e vv ⟨rfl, hvv⟩; replace HX := Lib.hid (HX.out.trans (hvv.mono HX.out.size)); clear hvv)
            | (go_at_call 21; (with_reducible refine (HF.out _).mono ?_); rintro e w9 ⟨rfl, rfl⟩)
            | (go_at_call 31; (with_reducible refine (HP.out _).mono ?_); rintro e w9 ⟨rfl, rfl⟩)
            | fail)
          obtain ⟨r, k, hrun, hp, hlt⟩ := run_fop (P := Tryz.prog) vv .sub 30 fl fl (by simp)
          have hrn : nanB r = true := nan_of_pat (hp.trans (inf_less HN2.out HiD.out))
          have hcm : (FloatKind.f64.format.order r 4602678819172646912 == some .gt) = false := cmp_nan (.inl hrn) _
          have HX2 := Lib.hid (below_drewN HX.out k)
          clear hp hlt hrn
          go_wp2_with (first
            | (go_at_call 30; (with_reducible refine (rfloat_any _ _).mono ?_); rintro e w9 ⟨rfl, rfl⟩)
            | (go_at_call 31; (with_reducible refine (HP.out _).mono ?_); rintro e w9 ⟨rfl, rfl⟩)
            | fail)
          go_ret2
          exact ⟨rfl, HX2.out⟩
      · have hf := f0 rfl
        subst hf
        unfold oneF at *
        clear f0 f1 f2 f3
        go_enter Tryz.func13, Tryz.ntmps13
        go_wp2_with (first
          | (go_at_call 23; first | ((with_reducible refine (HNa.out _).mono ?_); rintro e w9 ⟨rfl, rfl⟩) | ((with_reducible refine (HNb.out _).mono ?_); rintro e w9 ⟨rfl, rfl⟩))
          | (go_at_call 24; (with_reducible refine (HI.out _).mono ?_); rintro e w9 ⟨rfl, rfl⟩)
          | (go_at_call 12; first | ((with_reducible refine (HZm.out _).mono ?_); rintro e w9 ⟨rfl, rfl⟩) | ((with_reducible refine (HZd.out _).mono ?_); rintro e w9 ⟨rfl, rfl⟩))
          | (go_at_call 28; first | ((with_reducible refine (HLm.out _).mono ?_); rintro e w9 ⟨rfl, rfl⟩) | ((with_reducible refine (HLb.out _).mono ?_); rintro e w9 ⟨rfl, rfl⟩))
          | (go_at_call 25; (with_reducible refine (HR.out _).mono ?_); rintro e w9 ⟨rfl, rfl⟩)
          | (go_at_call 30; (with_reducible refine (rfloat_any _ _).mono ?_); rintro e w9 ⟨rfl, rfl⟩)
          | (go_at_call 27; first | ((with_reducible refine (HS1.out _).mono ?_); rintro e vv ⟨rfl, hvv⟩; replace HX := Lib.hid (HX.out.trans (hvv.mono HX.out.size)); clear hvv) | ((with_reducible refine (HS2.out _).mono ?_); rintro e vv ⟨rfl, hvv⟩; replace HX := Lib.hid (HX.out.trans (hvv.mono HX.out.size)); clear hvv))
          | (go_at_call 26; (with_reducible refine (HD.out _).mono ?_); rintro e vv ⟨rfl, hvv⟩; replace HX := Lib.hid (HX.out.trans (hvv.mono HX.out.size)); clear hvv)
          | (go_at_call 29; (with_reducible refine (HA.out _).mono ?_); rintro e vv ⟨rfl, hvv⟩; replace HX := Lib.hid (HX.out.trans (hvv.mono HX.out.size)); clear hvv)
          | (go_at_call 21; (with_reducible refine (HF.out _).mono ?_); rintro e w9 ⟨rfl, rfl⟩)
          | (go_at_call 31; (with_reducible refine (HP.out _).mono ?_); rintro e w9 ⟨rfl, rfl⟩)
          | fail)
        go_ret2
        exact ⟨rfl, HX.out⟩
    · have hd : decide (rr = 0) = false := by simpa using h0
      rw [hd] at HZm
      by_cases hs : nA = nB
      · obtain ⟨rfl, rfl⟩ := c1 h0 hs
        subst hs
        clear hd h0 c0 c1 c2
        cases zD
        · cases iD
          · obtain ⟨q, q1, q2, q3, q4⟩ := f2 rfl rfl
            have a5 := fun W => run_float_arith (P := Tryz.prog) W .sub 30 .f64 _ _ _ q1
            cases hg : (Ieee.double.order q halfF == some .gt) with
            | true =>
              have a6 := fun W => run_float_arith (P := Tryz.prog) W .add 30 .f64 _ _ _ (q3 hg)
              have hg' : (FloatKind.f64.format.order q 4602678819172646912 == some .gt) = true := hg
              unfold oneF at *
              clear q1 q2 q3 q4 f0 f1 f2 hg
              go_enter Tryz.func13, Tryz.ntmps13
              go_wp2_with (first
                | (go_at_call 23; first | ((with_reducible refine (HNa.out _).mono ?_); rintro e w9 ⟨rfl, rfl⟩) | ((with_reducible refine (HNb.out _).mono ?_); rintro e w9 ⟨rfl, rfl⟩))
                | (go_at_call 24; (with_reducible refine (HI.out _).mono ?_); rintro e w9 ⟨rfl, rfl⟩)
                | (go_at_call 12; first | ((with_reducible refine (HZm.out _).mono ?_); rintro e w9 ⟨rfl, rfl⟩) | ((with_reducible refine (HZd.out _).mono ?_); rintro e w9 ⟨rfl, rfl⟩))
                | (go_at_call 28; first | ((with_reducible refine (HLm.out _).mono ?_); rintro e w9 ⟨rfl, rfl⟩) | ((with_reducible refine (HLb.out _).mono ?_); rintro e w9 ⟨rfl, rfl⟩))
                | (go_at_call 25; (with_reducible refine (HR.out _).mono ?_); rintro e w9 ⟨rfl, rfl⟩)
                | (go_at_call 30; (with_reducible refine (rfloat_any _ _).mono ?_); rintro e w9 ⟨rfl, rfl⟩)
                | (go_at_call 27; first | ((with_reducible refine (HS1.out _).mono ?_); rintro e vv ⟨rfl, hvv⟩; replace HX := Lib.hid (HX.out.trans (hvv.mono HX.out.size)); clear hvv) | ((with_reducible refine (HS2.out _).mono ?_); rintro e vv ⟨rfl, hvv⟩; replace HX := Lib.hid (HX.out.trans (hvv.mono HX.out.size)); clear hvv))
                | (go_at_call 26; (with_reducible refine (HD.out _).mono ?_); rintro e vv ⟨rfl, hvv⟩; replace HX := Lib.hid (HX.out.trans (hvv.mono HX.out.size)); clear hvv)
                | (go_at_call 29; (with_reducible refine (HA.out _).mono ?_); rintro e vv ⟨rfl, hvv⟩; replace HX := Lib.hid (HX.out.trans (hvv.mono HX.out.size)); clear hvv)
                | (go_at_call 21; (with_reducible refine (HF.out _).mono ?_); rintro e w9 ⟨rfl, rfl⟩)
                | (go_at_call 31; (with_reducible refine (HP.out _).mono ?_); rintro e w9 ⟨rfl, rfl⟩)
                | fail)
              go_ret2
              exact ⟨rfl, HX.out⟩
            | false =>
              have hf := q4 hg
              subst hf
              have hg' : (FloatKind.f64.format.order q 4602678819172646912 == some .gt) = false := hg
              unfold oneF at *
              clear q1 q2 q3 q4 f0 f1 f2 hg
              go_enter Tryz.func13, Tryz.ntmps13
              go_wp2_with (first
                | (go_at_call 23; first | ((with_reducible refine (HNa.out _).mono ?_); rintro e w9 ⟨rfl, rfl⟩) | ((with_reducible refine (HNb.out _).mono ?_); rintro e w9 ⟨rfl, rfl⟩))
                | (go_at_call 24; (with_reducible refine (HI.out _).mono ?_); rintro e w9 ⟨rfl, rfl⟩)
                | (go_at_call 12; first | ((with_reducible refine (HZm.out _).mono ?_); rintro e w9 ⟨rfl, rfl⟩) | ((with_reducible refine (HZd.out _).mono ?_); rintro e w9 ⟨rfl, rfl⟩))
                | (go_at_call 28; first | ((with_reducible refine (HLm.out _).mono ?_); rintro e w9 ⟨rfl, rfl⟩) | ((with_reducible refine (HLb.out _).mono ?_); rintro e w9 ⟨rfl, rfl⟩))
                | (go_at_call 25; (with_reducible refine (HR.out _).mono ?_); rintro e w9 ⟨rfl, rfl⟩)
                | (go_at_call 30; (with_reducible refine (rfloat_any _ _).mono ?_); rintro e w9 ⟨rfl, rfl⟩)
                | (go_at_call 27; first | ((with_reducible refine (HS1.out _).mono ?_); rintro e vv ⟨rfl, hvv⟩; replace HX := Lib.hid (HX.out.trans (hvv.mono HX.out.size)); clear hvv) | ((with_reducible refine (HS2.out _).mono ?_); rintro e vv ⟨rfl, hvv⟩; replace HX := Lib.hid (HX.out.trans (hvv.mono HX.out.size)); clear hvv))
                | (go_at_call 26; (with_reducible refine (HD.out _).mono ?_); rintro e vv ⟨rfl, hvv⟩; replace HX := Lib.hid (HX.out.trans (hvv.mono HX.out.size)); clear hvv)
                | (go_at_call 29; (with_reducible refine (HA.out _).mono ?_); rintro e vv ⟨rfl, hvv⟩; replace HX := Lib.hid (HX.out.trans (hvv.mono HX.out.size)); clear hvv)
                | (go_at_call 21; (with_reducible refine (HF.out _).mono ?_); rintro e w9 ⟨rfl, rfl⟩)
                | (go_at_call 31; (with_reducible refine (HP.out _).mono ?_); rintro e w9 ⟨rfl, rfl⟩)
                | fail)
              go_ret2
              exact ⟨rfl, HX.out⟩
          · have hf := f1 rfl
            have hfl2 := f3 rfl
            subst hf
            subst hfl2
            unfold oneF at *
            clear f0 f1 f2 f3
            go_enter Tryz.func13, Tryz.ntmps13
            go_upto_region 13 with (first
              | (go_at_call 23; first | ((with_reducible refine (HNa.out _).mono ?_); rintro e w9 ⟨rfl, rfl⟩) | ((with_reducible refine (HNb.out _).mono ?_); rintro e w9 ⟨rfl, rfl⟩))
              | (go_at_call 24; (with_reducible refine (HI.out _).mono ?_); rintro e w9 ⟨rfl, rfl⟩)
              | (go_at_call 12; first | ((with_reducible refine (HZm.out _).mono ?_); rintro e w9 ⟨rfl, rfl⟩) | ((with_reducible refine (HZd.out _).mono ?_); rintro e w9 ⟨rfl, rfl⟩))
              | (go_at_call 28; first | ((with_reducible refine (HLm.out _).mono ?_); rintro e w9 ⟨rfl, rfl⟩) | ((with_reducible refine (HLb.out _).mono ?_); rintro e w9 ⟨rfl, rfl⟩))
              | (go_at_call 25; (with_reducible refine (HR.out _).mono ?_); rintro e w9 ⟨rfl, rfl⟩)
              | (go_at_call 30; (with_reducible refine (rfloat_any _ _).mono ?_); rintro e w9 ⟨rfl, rfl⟩)
              | (go_at_call 27; first | ((with_reducible refine (HS1.out _).mono ?_); rintro e vv ⟨rfl, hvv⟩; replace HX := Lib.hid (HX.out.trans (hvv.mono HX.out.size)); clear hvv) | ((with_reducible refine (HS2.out _).mono ?_); rintro e vv ⟨rfl, hvv⟩; replace HX := Lib.hid (HX.out.trans (hvv.mono HX.out.size)); clear hvv))
              | (go_at_call 26; (with_reducible refine (HD.out _).mono ?_); rintro e vv ⟨rfl, hvv⟩; replace HX := Lib.hid (HX.out.trans (hvv.mono HX.out.size)); clear hvv)
              | (go_at_call 29; (with_reducible refine (HA.out _).mono ?_); rintro e vv ⟨rfl, hvv⟩; replace HX := Lib.hid (HX.out.trans (hvv.mono HX.out.size)); clear hvv)
              | (go_at_call 21; (with_reducible refine (HF.out _).mono ?_); rintro e w9 ⟨rfl, rfl⟩)
              | (go_at_call 31; (with_reducible refine (HP.out _).mono ?_); rintro e w9 ⟨rfl, rfl⟩)
              | fail)
            obtain ⟨r, k, hrun, hp, hlt⟩ := run_fop (P := Tryz.prog) vv .sub 30 fl fl (by simp)
            have hrn : nanB r = true := nan_of_pat (hp.trans (inf_less HN2.out HiD.out))
            have hcm : (FloatKind.f64.format.order r 4602678819172646912 == some .gt) = false := cmp_nan (.inl hrn) _
            have HX2 := Lib.hid (below_drewN HX.out k)
            clear hp hlt hrn
            go_wp2_with (first
              | (go_at_call 30; (with_reducible refine (rfloat_any _ _).mono ?_); rintro e w9 ⟨rfl, rfl⟩)
              | (go_at_call 31; (with_reducible refine (HP.out _).mono ?_); rintro e w9 ⟨rfl, rfl⟩)
              | fail)
            go_ret2
            exact ⟨rfl, HX2.out⟩
        · have hf := f0 rfl
          subst hf
          unfold oneF at *
          clear f0 f1 f2 f3
          go_enter Tryz.func13, Tryz.ntmps13
          go_wp2_with (first
            | (go_at_call 23; first | ((with_reducible refine (HNa.out _).mono ?_); rintro e w9 ⟨rfl, rfl⟩) | ((with_reducible refine (HNb.out _).mono ?_); rintro e w9 ⟨rfl, rfl⟩))
            | (go_at_call 24; (with_reducible refine (HI.out _).mono ?_); rintro e w9 ⟨rfl, rfl⟩)
            | (go_at_call 12; first | ((with_reducible refine (HZm.out _).mono ?_); rintro e w9 ⟨rfl, rfl⟩) | ((with_reducible refine (HZd.out _).mono ?_); rintro e w9 ⟨rfl, rfl⟩))
            | (go_at_call 28; first | ((with_reducible refine (HLm.out _).mono ?_); rintro e w9 ⟨rfl, rfl⟩) | ((with_reducible refine (HLb.out _).mono ?_); rintro e w9 ⟨rfl, rfl⟩))
            | (go_at_call 25; (with_reducible refine (HR.out _).mono ?_); rintro e w9 ⟨rfl, rfl⟩)
            | (go_at_call 30; (with_reducible refine (rfloat_any _ _).mono ?_); rintro e w9 ⟨rfl, rfl⟩)
            | (go_at_call 27; first | ((with_reducible refine (HS1.out _).mono ?_); rintro e vv ⟨rfl, hvv⟩; replace HX := Lib.hid (HX.out.trans (hvv.mono HX.out.size)); clear hvv) | ((with_reducible refine (HS2.out _).mono ?_); rintro e vv ⟨rfl, hvv⟩; replace HX := Lib.hid (HX.out.trans (hvv.mono HX.out.size)); clear hvv))
            | (go_at_call 26; (with_reducible refine (HD.out _).mono ?_); rintro e vv ⟨rfl, hvv⟩; replace HX := Lib.hid (HX.out.trans (hvv.mono HX.out.size)); clear hvv)
            | (go_at_call 29; (with_reducible refine (HA.out _).mono ?_); rintro e vv ⟨rfl, hvv⟩; replace HX := Lib.hid (HX.out.trans (hvv.mono HX.out.size)); clear hvv)
            | (go_at_call 21; (with_reducible refine (HF.out _).mono ?_); rintro e w9 ⟨rfl, rfl⟩)
            | (go_at_call 31; (with_reducible refine (HP.out _).mono ?_); rintro e w9 ⟨rfl, rfl⟩)
            | fail)
          go_ret2
          exact ⟨rfl, HX.out⟩
      · obtain ⟨k1, k2⟩ := c2 h0 hs
        have HA := Lib.hid (fun W => radd_any m0 b W)
        rw [addB_some k1 HN1.out] at HA
        have hs2 := fun W => rsub_any d0 oneF (by decide) W
        rw [subB_some k2 HN2.out] at hs2
        have HS2 := Lib.hid (show ∀ W : World, Calls Tryz.prog 27 #[.int .u64 (d0 : Int), .int .u64 4607182418800017408] W fun e w' => e = .returned (.int .u64 (d1 : Nat)) ∧ Below W.heap.size W w' from hs2)
        clear hs2
        have hcs : (nA = true ∧ nB = false) ∨ (nA = false ∧ nB = true) := by cases nA <;> cases nB <;> simp_all
        clear hd h0 c0 c1 c2 hs k1 k2
        rcases hcs with ⟨rfl, rfl⟩ | ⟨rfl, rfl⟩
        all_goals
          cases zD
          · cases iD
            · obtain ⟨q, q1, q2, q3, q4⟩ := f2 rfl rfl
              have a5 := fun W => run_float_arith (P := Tryz.prog) W .sub 30 .f64 _ _ _ q1
              cases hg : (Ieee.double.order q halfF == some .gt) with
              | true =>
                have a6 := fun W => run_float_arith (P := Tryz.prog) W .add 30 .f64 _ _ _ (q3 hg)
                have hg' : (FloatKind.f64.format.order q 4602678819172646912 == some .gt) = true := hg
                unfold oneF at *
                clear q1 q2 q3 q4 f0 f1 f2 hg
                go_enter Tryz.func13, Tryz.ntmps13
                go_wp2_with (first
                  | (go_at_call 23; first | ((with_reducible refine (HNa.out _).mono ?_); rintro e w9 ⟨rfl, rfl⟩) | ((with_reducible refine (HNb.out _).mono ?_); rintro e w9 ⟨rfl, rfl⟩))
                  | (go_at_call 24; (with_reducible refine (HI.out _).mono ?_); rintro e w9 ⟨rfl, rfl⟩)
                  | (go_at_call 12; first | ((with_reducible refine (HZm.out _).mono ?_); rintro e w9 ⟨rfl, rfl⟩) | ((with_reducible refine (HZd.out _).mono ?_); rintro e w9 ⟨rfl, rfl⟩))
                  | (go_at_call 28; first | ((with_reducible refine (HLm.out _).mono ?_); rintro e w9 ⟨rfl, rfl⟩) | ((with_reducible refine (HLb.out _).mono ?_); rintro e w9 ⟨rfl, rfl⟩))
                  | (go_at_call 25; (with_reducible refine (HR.out _).mono ?_); rintro e w9 ⟨rfl, rfl⟩)
                  | (go_at_call 30; (with_reducible refine (rfloat_any _ _).mono ?_); rintro e w9 ⟨rfl, rfl⟩)
                  | (go_at_call 27; first | ((with_reducible refine (HS1.out _).mono ?_); rintro e vv ⟨rfl, hvv⟩; replace HX := Lib.hid (HX.out.trans (hvv.mono HX.out.size)); clear hvv) | ((with_reducible refine (HS2.out _).mono ?_); rintro e vv ⟨rfl, hvv⟩; replace HX := Lib.hid (HX.out.trans (hvv.mono HX.out.size)); clear hvv))
                  | (go_at_call 26; (with_reducible refine (HD.out _).mono ?_); rintro e vv ⟨rfl, hvv⟩; replace HX := Lib.hid (HX.out.trans (hvv.mono HX.out.size)); clear hvv)
                  | (go_at_call 29; (with_reducible refine (HA.out _).mono ?_); rintro e vv ⟨rfl, hvv⟩; replace HX := Lib.hid (HX.out.trans (hvv.mono HX.out.size)); clear hvv)
                  | (go_at_call 21; (with_reducible refine (HF.out _).mono ?_); rintro e w9 ⟨rfl, rfl⟩)
                  | (go_at_call 31; (with_reducible refine (HP.out _).mono ?_); rintro e w9 ⟨rfl, rfl⟩)
                  | fail)
                go_ret2
                exact ⟨rfl, HX.out⟩
              | false =>
                have hf := q4 hg
                subst hf
                have hg' : (FloatKind.f64.format.order q 4602678819172646912 == some .gt) = false := hg
                unfold oneF at *
                clear q1 q2 q3 q4 f0 f1 f2 hg
                go_enter Tryz.func13, Tryz.ntmps13
                go_wp2_with (first
                  | (go_at_call 23; first | ((with_reducible refine (HNa.out _).mono ?_); rintro e w9 ⟨rfl, rfl⟩) | ((with_reducible refine (HNb.out _).mono ?_); rintro e w9 ⟨rfl, rfl⟩))
                  | (go_at_call 24; (with_reducible refine (HI.out _).mono ?_); rintro e w9 ⟨rfl, rfl⟩)
                  | (go_at_call 12; first | ((with_reducible refine (HZm.out _).mono ?_); rintro e w9 ⟨rfl, rfl⟩) | ((with_reducible refine (HZd.out _).mono ?_); rintro e w9 ⟨rfl, rfl⟩))
                  | (go_at_call 28; first | ((with_reducible refine (HLm.out _).mono ?_); rintro e w9 ⟨rfl, rfl⟩) | ((with_reducible refine (HLb.out _).mono ?_); rintro e w9 ⟨rfl, rfl⟩))
                  | (go_at_call 25; (with_reducible refine (HR.out _).mono ?_); rintro e w9 ⟨rfl, rfl⟩)
                  | (go_at_call 30; (with_reducible refine (rfloat_any _ _).mono ?_); rintro e w9 ⟨rfl, rfl⟩)
                  | (go_at_call 27; first | ((with_reducible refine (HS1.out _).mono ?_); rintro e vv ⟨rfl, hvv⟩; replace HX := Lib.hid (HX.out.trans (hvv.mono HX.out.size)); clear hvv) | ((with_reducible refine (HS2.out _).mono ?_); rintro e vv ⟨rfl, hvv⟩; replace HX := Lib.hid (HX.out.trans (hvv.mono HX.out.size)); clear hvv))
                  | (go_at_call 26; (with_reducible refine (HD.out _).mono ?_); rintro e vv ⟨rfl, hvv⟩; replace HX := Lib.hid (HX.out.trans (hvv.mono HX.out.size)); clear hvv)
                  | (go_at_call 29; (with_reducible refine (HA.out _).mono ?_); rintro e vv ⟨rfl, hvv⟩; replace HX := Lib.hid (HX.out.trans (hvv.mono HX.out.size)); clear hvv)
                  | (go_at_call 21; (with_reducible refine (HF.out _).mono ?_); rintro e w9 ⟨rfl, rfl⟩)
                  | (go_at_call 31; (with_reducible refine (HP.out _).mono ?_); rintro e w9 ⟨rfl, rfl⟩)
                  | fail)
                go_ret2
                exact ⟨rfl, HX.out⟩
            · have hf := f1 rfl
              have hfl2 := f3 rfl
              subst hf
              subst hfl2
              unfold oneF at *
              clear f0 f1 f2 f3
              go_enter Tryz.func13, Tryz.ntmps13
              go_upto_region 13 with (first
                | (go_at_call 23; first | ((with_reducible refine (HNa.out _).mono ?_); rintro e w9 ⟨rfl, rfl⟩) | ((with_reducible refine (HNb.out _).mono ?_); rintro e w9 ⟨rfl, rfl⟩))
                | (go_at_call 24; (with_reducible refine (HI.out _).mono ?_); rintro e w9 ⟨rfl, rfl⟩)
                | (go_at_call 12; first | ((with_reducible refine (HZm.out _).mono ?_); rintro e w9 ⟨rfl, rfl⟩) | ((with_reducible refine (HZd.out _).mono ?_); rintro e w9 ⟨rfl, rfl⟩))
                | (go_at_call 28; first | ((with_reducible refine (HLm.out _).mono ?_); rintro e w9 ⟨rfl, rfl⟩) | ((with_reducible refine (HLb.out _).mono ?_); rintro e w9 ⟨rfl, rfl⟩))
                | (go_at_call 25; (with_reducible refine (HR.out _).mono ?_); rintro e w9 ⟨rfl, rfl⟩)
                | (go_at_call 30; (with_reducible refine (rfloat_any _ _).mono ?_); rintro e w9 ⟨rfl, rfl⟩)
                | (go_at_call 27; first | ((with_reducible refine (HS1.out _).mono ?_); rintro e vv ⟨rfl, hvv⟩; replace HX := Lib.hid (HX.out.trans (hvv.mono HX.out.size)); clear hvv) | ((with_reducible refine (HS2.out _).mono ?_); rintro e vv ⟨rfl, hvv⟩; replace HX := Lib.hid (HX.out.trans (hvv.mono HX.out.size)); clear hvv))
                | (go_at_call 26; (with_reducible refine (HD.out _).mono ?_); rintro e vv ⟨rfl, hvv⟩; replace HX := Lib.hid (HX.out.trans (hvv.mono HX.out.size)); clear hvv)
                | (go_at_call 29; (with_reducible refine (HA.out _).mono ?_); rintro e vv ⟨rfl, hvv⟩; replace HX := Lib.hid (HX.out.trans (hvv.mono HX.out.size)); clear hvv)
                | (go_at_call 21; (with_reducible refine (HF.out _).mono ?_); rintro e w9 ⟨rfl, rfl⟩)
                | (go_at_call 31; (with_reducible refine (HP.out _).mono ?_); rintro e w9 ⟨rfl, rfl⟩)
                | fail)
              obtain ⟨r, k, hrun, hp, hlt⟩ := run_fop (P := Tryz.prog) vv .sub 30 fl fl (by simp)
              have hrn : nanB r = true := nan_of_pat (hp.trans (inf_less HN2.out HiD.out))
              have hcm : (FloatKind.f64.format.order r 4602678819172646912 == some .gt) = false := cmp_nan (.inl hrn) _
              have HX2 := Lib.hid (below_drewN HX.out k)
              clear hp hlt hrn
              go_wp2_with (first
                | (go_at_call 30; (with_reducible refine (rfloat_any _ _).mono ?_); rintro e w9 ⟨rfl, rfl⟩)
                | (go_at_call 31; (with_reducible refine (HP.out _).mono ?_); rintro e w9 ⟨rfl, rfl⟩)
                | fail)
              go_ret2
              exact ⟨rfl, HX2.out⟩
          · have hf := f0 rfl
            subst hf
            unfold oneF at *
            clear f0 f1 f2 f3
            go_enter Tryz.func13, Tryz.ntmps13
            go_wp2_with (first
              | (go_at_call 23; first | ((with_reducible refine (HNa.out _).mono ?_); rintro e w9 ⟨rfl, rfl⟩) | ((with_reducible refine (HNb.out _).mono ?_); rintro e w9 ⟨rfl, rfl⟩))
              | (go_at_call 24; (with_reducible refine (HI.out _).mono ?_); rintro e w9 ⟨rfl, rfl⟩)
              | (go_at_call 12; first | ((with_reducible refine (HZm.out _).mono ?_); rintro e w9 ⟨rfl, rfl⟩) | ((with_reducible refine (HZd.out _).mono ?_); rintro e w9 ⟨rfl, rfl⟩))
              | (go_at_call 28; first | ((with_reducible refine (HLm.out _).mono ?_); rintro e w9 ⟨rfl, rfl⟩) | ((with_reducible refine (HLb.out _).mono ?_); rintro e w9 ⟨rfl, rfl⟩))
              | (go_at_call 25; (with_reducible refine (HR.out _).mono ?_); rintro e w9 ⟨rfl, rfl⟩)
              | (go_at_call 30; (with_reducible refine (rfloat_any _ _).mono ?_); rintro e w9 ⟨rfl, rfl⟩)
              | (go_at_call 27; first | ((with_reducible refine (HS1.out _).mono ?_); rintro e vv ⟨rfl, hvv⟩; replace HX := Lib.hid (HX.out.trans (hvv.mono HX.out.size)); clear hvv) | ((with_reducible refine (HS2.out _).mono ?_); rintro e vv ⟨rfl, hvv⟩; replace HX := Lib.hid (HX.out.trans (hvv.mono HX.out.size)); clear hvv))
              | (go_at_call 26; (with_reducible refine (HD.out _).mono ?_); rintro e vv ⟨rfl, hvv⟩; replace HX := Lib.hid (HX.out.trans (hvv.mono HX.out.size)); clear hvv)
              | (go_at_call 29; (with_reducible refine (HA.out _).mono ?_); rintro e vv ⟨rfl, hvv⟩; replace HX := Lib.hid (HX.out.trans (hvv.mono HX.out.size)); clear hvv)
              | (go_at_call 21; (with_reducible refine (HF.out _).mono ?_); rintro e w9 ⟨rfl, rfl⟩)
              | (go_at_call 31; (with_reducible refine (HP.out _).mono ?_); rintro e w9 ⟨rfl, rfl⟩)
              | fail)
            go_ret2
            exact ⟨rfl, HX.out⟩
end Go.Proofs.YtdkbhliafilghaaGreatDoor
