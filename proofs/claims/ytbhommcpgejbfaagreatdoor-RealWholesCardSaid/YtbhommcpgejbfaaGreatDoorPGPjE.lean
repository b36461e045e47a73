/- strconv's pack64 and parseFloat64 with the sign bit. strconv's atof64exact, with a minus sign. strconv's atof64 at a minus sign and a numeral. -/
import Derived.Test.YtbhommcpgejbfaaGreatDoorPGPiC
import Derived.Test.YtbhommcpgejbfaaGreatDoorPGRlT
import Derived.Test.YtbhommcpgejbfaaGreatDoorPGPjB
import Derived.Test.YtbhommcpgejbfaaGreatDoorPGPiF
namespace Go.Proofs.YtbhommcpgejbfaaGreatDoor
section
open Go Go.ChangeShapes Go.WideShapes Go.RowKit
set_option linter.unusedVariables false
set_option linter.unusedSimpArgs false
theorem or_nat_top {x : Nat} (h : x < 9223372036854775808) : 9223372036854775808 ||| x = 9223372036854775808 + x := by
  have := Nat.two_pow_add_eq_or_of_lt (i := 63) (b := x) h 1
  simpa using this.symm
theorem or_topn {x : Nat} (h : x < 9223372036854775808) : bits .or .u64 9223372036854775808 (x : Int) = ((9223372036854775808 + x : Nat) : Int) := by
  have hh := u64_or_nat 9223372036854775808 x (by omega) (by omega)
  rw [or_nat_top h] at hh
  exact hh
theorem top_div (m : Nat) : (9223372036854775808 + m) / 4503599627370496 % 2 = m / 4503599627370496 % 2 := by omega
theorem and_63_top {m : Nat} (h : m < 9223372036854775808) : bits .and .u64 ((9223372036854775808 + m : Nat) : Int) 9223372036854775808 = 9223372036854775808 := by
  have hh := u64_and_nat (9223372036854775808 + m) 9223372036854775808 (by omega) (by omega)
  refine hh.trans ?_
  have e1 : ((9223372036854775808 + m) &&& 9223372036854775808) % 2 ^ 63 = 0 := by rw [Nat.and_mod_two_pow]; simp
  have e2 : ((9223372036854775808 + m) &&& 9223372036854775808) / 2 ^ 63 = ((9223372036854775808 + m) / 2 ^ 63) &&& 1 := by rw [Nat.and_div_two_pow]
  rw [show (9223372036854775808 + m) / 2 ^ 63 = 1 by omega] at e2
  have e3 : (1 : Nat) &&& 1 = 1 := by decide
  rw [e3] at e2
  rw [show (9223372036854775808 + m) &&& 9223372036854775808 = 9223372036854775808 by omega]
  rfl
theorem andNot_top2 {f : Nat} (hf : f < 4503599627370496) : bits .andNot .u64 ((9223372036854775808 + (4503599627370496 + f) : Nat) : Int) 4503599627370496 = ((9223372036854775808 + f : Nat) : Int) := by
  have h := u64_andNot_nat (9223372036854775808 + (4503599627370496 + f)) 4503599627370496 (by omega) (by omega)
  refine h.trans (congrArg _ ?_)
  have e2 : ((9223372036854775808 + (4503599627370496 + f)) &&& (18446744073709551615 - 4503599627370496)) % 2 ^ 52 = f := by
    rw [Nat.and_mod_two_pow, show ((18446744073709551615 - 4503599627370496) % 2 ^ 52 : Nat) = 2 ^ 52 - 1 from rfl, Nat.and_two_pow_sub_one_eq_mod, Nat.mod_mod]
    omega
  have e3 : ((9223372036854775808 + (4503599627370496 + f)) &&& (18446744073709551615 - 4503599627370496)) / 2 ^ 52 = 2048 := by
    rw [Nat.and_div_two_pow, show ((18446744073709551615 - 4503599627370496) / 2 ^ 52 : Nat) = 4094 from rfl, show (9223372036854775808 + (4503599627370496 + f)) / 2 ^ 52 = 2049 by omega]
    rfl
  omega
theorem or_exp2 {f E : Nat} (hf : f < 4503599627370496) (h2 : E < 2047) : bits .or .u64 ((9223372036854775808 + f : Nat) : Int) ((E : Int) * 4503599627370496) = ((9223372036854775808 + (E * 4503599627370496 + f) : Nat) : Int) := by
  rw [show ((E : Int) * 4503599627370496) = ((E * 4503599627370496 : Nat) : Int) by rw [Int.natCast_mul]; rfl]
  have hh := u64_or_nat (9223372036854775808 + f) (E * 4503599627370496) (by omega) (by omega)
  refine hh.trans (congrArg _ ?_)
  have e1 : ((9223372036854775808 + f) ||| (E * 4503599627370496)) % 2 ^ 52 = f := by
    rw [Nat.or_mod_two_pow, show (9223372036854775808 + f) % 2 ^ 52 = f by omega, show (E * 4503599627370496) % 2 ^ 52 = 0 by omega]; simp
  have e2 : ((9223372036854775808 + f) ||| (E * 4503599627370496)) / 2 ^ 52 = 2048 + E := by
    rw [Nat.or_div_two_pow, show (9223372036854775808 + f) / 2 ^ 52 = 2048 by omega, show (E * 4503599627370496) / 2 ^ 52 = E by omega]
    have := Nat.two_pow_add_eq_or_of_lt (i := 11) (b := E) (show E < 2 ^ 11 by omega) 1
    simpa using this.symm
  omega
theorem pack_m (m : Nat) (e : Int) (hm : m ≤ 9007199254740992) (he : -1074 ≤ e) (w : World) :
    Calls Tryz.prog 158 #[.int .u64 ((9223372036854775808 + m : Nat) : Int), .int .i64 e] w fun r w' => (∃ v, r = .returned (.tuple #[.float .f64 (9223372036854775808 + pkF m e), v]) ∧ ErrV v) ∧ w = w' := by
  have hq := and_u52 (9223372036854775808 + m) (by omega)
  rw [top_div] at hq
  by_cases h0 : m / 4503599627370496 % 2 = 0
  · rw [if_pos h0] at hq
    have hF : pkF m e = m := by unfold pkF; rw [if_pos h0]
    rw [hF]
    have hf := run_sfrombits (9223372036854775808 + m) w
    generalize 9223372036854775808 + m = M at hq hf ⊢
    clear h0 hF
    go_enter Tryz.func158, Tryz.ntmps158
    go_wp2_with fail
    go_ret2
    exact ⟨⟨_, rfl, .inl rfl⟩, rfl⟩
  · rw [if_neg h0] at hq
    by_cases h1 : 972 ≤ e
    · have hF : pkF m e = fIN := by unfold pkF; rw [if_neg h0, if_pos h1]
      rw [hF]
      have ha := and_63_top (m := m) (by omega)
      have ho : bits .or .u64 9223372036854775808 9218868437227405312 = 18442240474082181120 := by rfl
      have hf : (callFunc 114 #[.int .u64 18442240474082181120]).run Tryz.prog w = .ok (.value (.float .f64 18442240474082181120)) w := run_sfrombits 18442240474082181120 w
      generalize 9223372036854775808 + m = M at hq ha ⊢
      clear h0 hF
      go_enter Tryz.func158, Tryz.ntmps158
      go_wp2_with fail
      go_ret2
      exact ⟨⟨_, rfl, .inr rfl⟩, rfl⟩
    · obtain ⟨f, hf⟩ : ∃ f, m % 4503599627370496 = f := ⟨_, rfl⟩
      obtain ⟨E, hE⟩ : ∃ E, (e + 1075).toNat = E := ⟨_, rfl⟩
      have hF : pkF m e = E * 4503599627370496 + f := by unfold pkF; rw [if_neg h0, if_neg h1, hf, hE]
      rw [hF]
      have hm2 : m = 4503599627370496 + f := by omega
      have ha := andNot_top2 (f := f) (by omega)
      rw [← hm2] at ha
      have ho := or_exp2 (f := f) (E := E) (by omega) (by omega)
      have hx : IntKind.i64.wrap (1075 + e) = (E : Int) := by rw [IntWalk.i64_in _ (by omega)]; omega
      have hr := run_sfrombits (9223372036854775808 + (E * 4503599627370496 + f)) w
      have hEI : (E : Int) ≤ 2046 := by omega
      have hEI1 : (1 : Int) ≤ (E : Int) := by omega
      generalize 9223372036854775808 + m = M at hq ha ⊢
      generalize 9223372036854775808 + (E * 4503599627370496 + f) = Z at ho hr ⊢
      generalize 9223372036854775808 + f = Y at ha ho ⊢
      clear h0 hF hm2 hf hE
      go_enter Tryz.func158, Tryz.ntmps158
      go_wp2_with fail
      go_ret2
      exact ⟨⟨_, rfl, .inl rfl⟩, rfl⟩
set_option maxRecDepth 100000 in
set_option maxHeartbeats 2000000 in
theorem pf64_m (hiT loT : Nat → Nat) (d i : Nat) (hh : ∀ i, hiT i < 18446744073709551616) (hl : ∀ i, loT i < 18446744073709551616) (hd0 : d ≠ 0) (hd : d < 18446744073709551616) (hi : i < 696) (w : World) (hT : PTZ hiT loT w w.heap.size) :
    Calls Tryz.prog 116 #[.int .u64 (d : Int), .int .i64 ((i : Int) - 348), .int .u64 9223372036854775808] w fun r w' => (∃ v, r = .returned (.tuple #[.float .f64 (9223372036854775808 + pfF (hiT i) (loT i) d ((i : Int) - 348)), v]) ∧ ErrV v) ∧ Below w.heap.size w w' := by
  obtain ⟨l1, l2, l3⟩ := len_facts hd0 hd
  obtain ⟨s1, s2, s3, s4⟩ := pfS_facts (Lib.bitLen d) ((i : Int) - 348) ⟨l1, l2⟩ ⟨by omega, by omega⟩
  have HLen := Lib.hid (Tryz.bits_Len64 (d : Int) w (by omega) (by omega))
  have HL2 := Lib.hid (l2p_any ((i : Int) - 348) ⟨by omega, by omega⟩ w)
  obtain ⟨p, hp⟩ : ∃ p : Int, (i : Int) - 348 = p := ⟨_, rfl⟩
  rw [hp] at s1 s2 s3 s4 HL2 ⊢
  rw [Int.toNat_natCast] at HLen
  have hpb : -348 ≤ p ∧ p ≤ 347 := by omega
  obtain ⟨b, hb⟩ : ∃ b, Lib.bitLen d = b := ⟨_, rfl⟩
  have HF := Lib.hid (show pfF (hiT i) (loT i) d p = if 64 ≤ pfS b p then 0 else pkF (pfM (usZ (d * 2 ^ (64 - b)) (hiT i) (loT i) (pfS b p).toNat)) (-(pfE b p - (pfT (usZ (d * 2 ^ (64 - b)) (hiT i) (loT i) (pfS b p).toNat) : Nat))) by unfold pfF; rw [hb])
  obtain ⟨F, hF⟩ : ∃ F, pfF (hiT i) (loT i) d p = F := ⟨_, rfl⟩
  rw [hF] at HF ⊢
  rw [hb] at l1 l2 l3 s1 s2 s3 s4 HLen
  obtain ⟨LP, hLP⟩ : ∃ LP, p * 108853 / 32768 = LP := ⟨_, rfl⟩
  have hLPb : -1200 ≤ LP ∧ LP ≤ 1200 := by omega
  rw [hLP] at HL2
  have eE : pfE b p = min 1074 (53 - (b : Int) - LP) := by unfold pfE; rw [hLP]
  have eS : pfS b p = -(pfE b p - (64 - (b : Int)) + LP + 3) := by unfold pfS; rw [hLP]
  have w1 : IntKind.i64.wrap (53 - (b : Int)) = 53 - (b : Int) := IntWalk.i64_in _ (by omega)
  have w2 : IntKind.i64.wrap (53 - (b : Int) - LP) = 53 - (b : Int) - LP := IntWalk.i64_in _ (by omega)
  have w3 : IntKind.i64.wrap (64 - (b : Int)) = 64 - (b : Int) := IntWalk.i64_in _ (by omega)
  have w4 : IntKind.i64.wrap (pfE b p - (64 - (b : Int))) = pfE b p - (64 - (b : Int)) := IntWalk.i64_in _ (by omega)
  clear hb hF hLP
  go_enter Tryz.func116, Tryz.ntmps116
  go_upto_region 4 with (first
    | (go_at_call 119; (with_reducible refine HLen.out.mono ?_); rintro e w9 ⟨rfl, rfl⟩)
    | (go_at_call 151; (with_reducible refine HL2.out.mono ?_); rintro e w9 ⟨rfl, rfl⟩)
    | fail)
  rw [← eE]
  obtain ⟨EE, hEE⟩ : ∃ EE, pfE b p = EE := ⟨_, rfl⟩
  obtain ⟨SS, hSS⟩ : ∃ SS, pfS b p = SS := ⟨_, rfl⟩
  rw [hEE, hSS] at eS
  rw [hEE] at w4 s3 s4 ⊢
  rw [hSS] at s1 s2
  have HF2 := Lib.hid (show F = if 64 ≤ SS then 0 else pkF (pfM (usZ (d * 2 ^ (64 - b)) (hiT i) (loT i) SS.toNat)) (-(EE - (pfT (usZ (d * 2 ^ (64 - b)) (hiT i) (loT i) SS.toNat) : Nat))) by rw [← hSS, ← hEE]; exact HF.out)
  have hPre := prescale_any hiT loT w9.heap.size i (EE - (64 - (b : Int))) LP hi ⟨by omega, by omega⟩ ⟨by omega, by omega⟩ (w9.alloc (.cells #[.int .u64 0, .int .u64 0, .int .i64 0] 185)) ⟨⟨0, 0, 0, by simp, by simp, by simp⟩, fun i _ => by simp⟩ (hT.keep ((Below.refl _ _).alloc (Nat.le_refl _) _))
  rw [hp, ← eS] at hPre
  have HPre := Lib.hid hPre
  have HT := Lib.hid hT
  clear hPre hT HF eE eS
  go_upto_region 6 with (first
    | (go_at_call 152; (with_reducible refine HPre.out.mono ?_); rintro e w2 ⟨rfl, hw2⟩)
    | fail)
  generalize hw3 : w9.alloc _ = wx
  have HB := Lib.hid (show Below w9.heap.size w9 wx by rw [← hw3]; exact (Below.refl _ _).alloc (Nat.le_refl _) _)
  have c0 : wx.cell? ⟨w9.heap.size, 0, none⟩ = some (.int .u64 (hiT i : Int)) := by rw [← hw3]; simp
  have c1 : wx.cell? ⟨w9.heap.size, 1, none⟩ = some (.int .u64 (loT i : Int)) := by rw [← hw3]; simp
  have c2 : wx.cell? ⟨w9.heap.size, 2, none⟩ = some (.int .i64 SS) := by rw [← hw3]; simp
  clear hw3 HPre HT HL2 HLen
  by_cases h64 : 64 ≤ SS
  · have HR := Lib.hid (show F = 0 by rw [HF2.out, if_pos h64])
    have hfb : (callFunc 114 #[.int .u64 9223372036854775808]).run Tryz.prog wx = .ok (.value (.float .f64 9223372036854775808)) wx := run_sfrombits 9223372036854775808 wx
    have ho : bits .or .u64 9223372036854775808 0 = 9223372036854775808 := by rfl
    clear HF2 c0 c1
    go_wp2_with fail
    go_ret2
    exact ⟨⟨.nilIface, by rw [HR.out]; rfl, .inl rfl⟩, HB.out⟩
  · obtain ⟨S, hS⟩ : ∃ S : Nat, SS = (S : Int) := ⟨SS.toNat, by omega⟩
    subst hS
    rw [Int.toNat_natCast] at HF2
    obtain ⟨x, hx⟩ : ∃ x, d * 2 ^ (64 - b) = x := ⟨_, rfl⟩
    rw [hx] at HF2 l3
    obtain ⟨K, hK⟩ : ∃ K : Nat, 64 - b = K := ⟨_, rfl⟩
    rw [hK] at hx
    have w3' : IntKind.i64.wrap (64 - (b : Int)) = (K : Int) := by rw [w3]; omega
    have hsh : IntKind.u64.wrap ((d : Int) * 2 ^ K) = (x : Int) := by
      rw [show (d : Int) * 2 ^ K = (x : Int) by rw [← hx]; push_cast; rfl]
      exact IntWalk.u64_in _ (by omega)
    have HU := Lib.hid (us_any x w9.heap.size (hiT i) (loT i) S l3 (hh i) (hl i) (by omega) wx ⟨c0, c1, c2⟩)
    have hul := usZ_lt x (hiT i) (loT i) S l3 (hh i) (by omega)
    obtain ⟨u, hu⟩ : ∃ u, usZ x (hiT i) (loT i) S = u := ⟨_, rfl⟩
    rw [hu] at HU hul HF2
    have HR := Lib.hid (show F = pkF (pfM u) (-(EE - (pfT u : Nat))) by rw [HF2.out, if_neg h64])
    have hKl : (K : Int) < 64 := by omega
    clear HF2 hu hx w3 c0 c1
    go_upto_region 9 with (first
      | (go_at_call 153; (with_reducible refine HU.out.mono ?_); rintro e w4 ⟨rfl, q, rfl⟩)
      | fail)
    clear HU
    have HB2 := Lib.hid (show Below w9.heap.size w9 (wx.drewN q) from below_drewN HB.out q)
    generalize wx.drewN q = wy at HB2 ⊢
    clear c2 HB
    have ha := and_one u (by omega)
    have hml := pfM_le u hul
    have hvl := (pfV_lt u hul).1
    by_cases hg : 36028797018963966 ≤ u
    · have hge : ((36028797018963966 : Int) ≤ (u : Int)) := by omega
      have ht : pfT u = 1 := by unfold pfT; rw [if_pos hg]
      have hv : pfV u = u / 2 ^ 1 ||| u % 2 := by unfold pfV; rw [ht]
      have ho : bits .or .u64 ((u : Int) / 2) ((u : Int) % 2) = ((pfV u : Nat) : Int) := by
        have := u64_or_nat (u / 2 ^ 1) (u % 2) (by omega) (by omega)
        rw [cast_shr] at this
        rw [hv]; simpa using this
      have hor : bits .or .u64 9223372036854775808 ((pfM u : Nat) : Int) = ((9223372036854775808 + pfM u : Nat) : Int) := or_topn (by omega)
      rw [ht] at HR
      obtain ⟨v, hvv⟩ : ∃ v, pfV u = v := ⟨_, rfl⟩
      have hRn := fun W => round_any v (by omega) W
      have epm : (v + 1 + v / 4 % 2) / 4 = pfM u := by unfold pfM; rw [hvv]
      rw [epm] at hRn
      rw [hvv] at ho
      obtain ⟨m, hm⟩ : ∃ m, pfM u = m := ⟨_, rfl⟩
      rw [hm] at hml HR hor hRn epm
      obtain ⟨M1, hM1⟩ : ∃ M1, 9223372036854775808 + m = M1 := ⟨_, rfl⟩
      rw [hM1] at hor
      have hs1 : IntKind.i64.wrap (EE - 1) = EE - 1 := IntWalk.i64_in _ (by omega)
      have hs2 : IntKind.i64.wrap (-(EE - 1)) = -(EE - 1) := IntWalk.i64_in _ (by omega)
      have HRn := Lib.hid hRn
      have hpk := fun W => pack_m m (-(EE - 1)) hml (by omega) W
      rw [hM1] at hpk
      have HPk := Lib.hid hpk
      clear hpk hM1
      have HR2 := Lib.hid (show F = pkF m (-(EE - 1)) from HR.out)
      clear epm HR hRn hm hvv hv ht hg hml hul
      go_upto_region 10 with (first
        | (go_at_call 154; (with_reducible refine (unmin53 _).mono ?_); rintro e w9 ⟨rfl, rfl⟩)
        | (go_at_call 120; (with_reducible refine (bool2i_any _ _).mono ?_); rintro e w9 ⟨rfl, rfl⟩)
        | fail)
      go_wp2_with (first
        | (go_at_call 156; (with_reducible refine (HRn.out _).mono ?_); rintro e w9 ⟨rfl, rfl⟩)
        | (go_at_call 158; (with_reducible refine (HPk.out _).mono ?_); rintro e w9 ⟨⟨v9, rfl, hv9⟩, rfl⟩)
        | fail)
      all_goals first
        | (exfalso; omega)
        | (go_ret2; exact ⟨⟨_, by rw [HR2.out]; rfl, hv9⟩, HB2.out⟩)
    · have hge : ((u : Int) < 36028797018963966) := by omega
      have ht : pfT u = 0 := by unfold pfT; rw [if_neg hg]
      have hv : pfV u = u / 2 ^ 0 ||| u % 2 := by unfold pfV; rw [ht]
      have ho : bits .or .u64 (u : Int) ((u : Int) % 2) = ((pfV u : Nat) : Int) := by
        have := u64_or_nat (u / 2 ^ 0) (u % 2) (by omega) (by omega)
        rw [cast_shr] at this
        rw [hv]; simpa using this
      have hor : bits .or .u64 9223372036854775808 ((pfM u : Nat) : Int) = ((9223372036854775808 + pfM u : Nat) : Int) := or_topn (by omega)
      rw [ht] at HR
      obtain ⟨v, hvv⟩ : ∃ v, pfV u = v := ⟨_, rfl⟩
      have hRn := fun W => round_any v (by omega) W
      have epm : (v + 1 + v / 4 % 2) / 4 = pfM u := by unfold pfM; rw [hvv]
      rw [epm] at hRn
      rw [hvv] at ho
      obtain ⟨m, hm⟩ : ∃ m, pfM u = m := ⟨_, rfl⟩
      rw [hm] at hml HR hor hRn epm
      obtain ⟨M1, hM1⟩ : ∃ M1, 9223372036854775808 + m = M1 := ⟨_, rfl⟩
      rw [hM1] at hor
      have hs1 : IntKind.i64.wrap EE = EE := IntWalk.i64_in _ (by omega)
      have hs2 : IntKind.i64.wrap (-EE) = -EE := IntWalk.i64_in _ (by omega)
      obtain ⟨NE, hNE⟩ : ∃ NE : Int, -EE = NE := ⟨_, rfl⟩
      have hs3 : IntKind.i64.wrap (-EE) = NE := hs2.trans hNE
      have HRn := Lib.hid hRn
      have hpk := fun W => pack_m m NE hml (by omega) W
      rw [hM1] at hpk
      have HPk := Lib.hid hpk
      clear hpk hM1
      have HR2 := Lib.hid (show F = pkF m NE by rw [← hNE]; have := HR.out; simpa using this)
      clear hs2 hNE
      clear epm HR hRn hm hvv hv ht hg hml hul
      go_upto_region 10 with (first
        | (go_at_call 154; (with_reducible refine (unmin53 _).mono ?_); rintro e w9 ⟨rfl, rfl⟩)
        | (go_at_call 120; (with_reducible refine (bool2i_any _ _).mono ?_); rintro e w9 ⟨rfl, rfl⟩)
        | fail)
      go_upto_region 12 with fail
      clear hs1 ho ha hge
      go_wp2_with (first
        | (go_at_call 156; (with_reducible refine (HRn.out _).mono ?_); rintro e w9 ⟨rfl, rfl⟩)
        | (go_at_call 158; (with_reducible refine (HPk.out _).mono ?_); rintro e w9 ⟨⟨v9, rfl, hv9⟩, rfl⟩)
        | fail)
      all_goals first
        | (exfalso; omega)
        | (go_ret2; exact ⟨⟨_, by rw [HR2.out]; rfl, hv9⟩, HB2.out⟩)
end
section
open Go Go.ChangeShapes Go.WideShapes Go.RowKit Ieee
set_option linter.unusedVariables false
set_option linter.unusedSimpArgs false
/-- A pattern with the sign bit, no NaN's. -/
def FMn (z : Nat) : Prop := ∃ r, r ≤ fIN ∧ z = fSG + r
theorem near_mn (m : Nat) (p : Int) : FMn (double.nearest true m p) := by
  unfold Format.nearest
  by_cases h : m = 0
  · rw [if_pos h]; exact ⟨0, Nat.zero_le _, rfl⟩
  · rw [if_neg h]
    simp only
    rw [in_d]
    have : ∀ x : Nat, FMn (double.word true (min x fIN)) := fun x => ⟨min x fIN, Nat.min_le_right x fIN, rfl⟩
    exact this _
theorem mn_facts {r : Nat} (h : r ≤ fIN) : negB (fSG + r) = true ∧ (fSG + r) % fSG = r ∧ nanB (fSG + r) = false ∧ fSG + r < 18446744073709551616 := by
  have e1 : fSG = 9223372036854775808 := rfl
  have e2 : fIN = 9218868437227405312 := rfl
  have h2 : (fSG + r) % fSG = r := by rw [e1]; omega
  refine ⟨?_, h2, ?_, by omega⟩
  · unfold negB; rw [e1]; simp; omega
  · unfold nanB; rw [h2]; exact decide_eq_false (by omega)
theorem neg_read {r : Nat} (h : r < fIN) : ∃ m p, double.read (fSG + r) = .number true m p := by
  obtain ⟨h1, h2, h3, h4⟩ := mn_facts (Nat.le_of_lt h)
  rcases read_nn h3 with ⟨h5, _⟩ | ⟨_, m, p, h6, _⟩
  · unfold infB at h5; rw [h2] at h5; simp at h5; omega
  · rw [h1] at h6; exact ⟨m, p, h6⟩
theorem mul_mn {r y : Nat} (hx : r < fIN) (hy : y < fIN) : ∃ z, double.mul (fSG + r) y = some z ∧ FMn z := by
  obtain ⟨m, p, h1⟩ := neg_read hx
  obtain ⟨n, q, h2, _⟩ := pos_read hy
  unfold Format.mul
  rw [h1, h2]
  exact ⟨_, rfl, near_mn _ _⟩
theorem div_mn {r y : Nat} (hx : r < fIN) (hy : y < fIN) (h0 : 0 < y) : ∃ z, double.div (fSG + r) y = some z ∧ FMn z := by
  obtain ⟨m, p, h1⟩ := neg_read hx
  obtain ⟨n, q, h2, h3⟩ := pos_read hy
  unfold Format.div
  rw [h1, h2]
  unfold Datum.quotient
  simp only [if_neg (h3 h0)]
  exact ⟨_, rfl, near_mn _ _⟩
theorem gt_mn {r : Nat} (h : r ≤ fIN) : (FloatKind.f64.format.order (fSG + r) 4831355200913801216 == some .gt) = false ∧ (FloatKind.f64.format.order (fSG + r) 14054727237768577024 == some .lt) = decide (4831355200913801216 < r) := by
  obtain ⟨h1, h2, h3, h4⟩ := mn_facts h
  have p1 : placeZ (fSG + r) = -(r : Int) := by unfold placeZ; rw [h1, h2, if_pos rfl]
  have p2 : placeZ 14054727237768577024 = -4831355200913801216 := by decide +kernel
  have p3 : placeZ 4831355200913801216 = 4831355200913801216 := by decide +kernel
  constructor
  · rw [fmt_double, gt_d h3 (by decide +kernel), p1, p3]; exact decide_eq_false (by omega)
  · rw [fmt_double, lt_d h3 (by decide +kernel), p1, p2, decide_eq_decide]; omega
set_option maxRecDepth 100000 in
set_option maxHeartbeats 2000000 in
theorem exm_big (m : Nat) (e : Int) (hm : ¬ m < 4503599627370496) (w : World) (hF : FI w 5 w.heap.size) :
    Calls Tryz.prog 115 #[.int .u64 (m : Int), .int .i64 e, .bool true] w fun r w' => r = .returned (.tuple #[.float .f64 0, .bool false]) ∧ w = w' := by
  have c0 := hF.m
  clear hF
  have hw : ¬ (m : Int) / 4503599627370496 = 0 := by omega
  clear hm
  go_enter Tryz.func115, Tryz.ntmps115
  go_wp2_with fail
  all_goals first
    | (exfalso; omega)
    | (go_ret2; exact ⟨rfl, rfl⟩)
    | (go_ret; exact ⟨rfl, rfl⟩)
set_option maxRecDepth 100000 in
set_option maxHeartbeats 2000000 in
theorem exm_zero (m : Nat) (X : Nat) (hm : m < 4503599627370496) (w : World) (hng : (Op.unary UnOp.neg (.float .f64 (floatOfInt .f64 (m : Int)))).run Tryz.prog w = .ok (.float .f64 X) w) (hF : FI w 5 w.heap.size) :
    Calls Tryz.prog 115 #[.int .u64 (m : Int), .int .i64 0, .bool true] w fun r w' => r = .returned (.tuple #[.float .f64 X, .bool true]) ∧ w = w' := by
  have c0 := hF.m
  clear hF
  have hw : (m : Int) / 4503599627370496 = 0 := by omega
  clear hm
  go_enter Tryz.func115, Tryz.ntmps115
  go_wp2_with fail
  all_goals first
    | (exfalso; omega)
    | (go_ret2; exact ⟨rfl, rfl⟩)
    | (go_ret; exact ⟨rfl, rfl⟩)
set_option maxRecDepth 100000 in
set_option maxHeartbeats 2000000 in
theorem exm_far (m : Nat) (X : Nat) (hm : m < 4503599627370496) (e : Int) (he : e < -22 ∨ 37 < e) (he2 : -1000 ≤ e ∧ e ≤ 1000) (w : World) (hng : (Op.unary UnOp.neg (.float .f64 (floatOfInt .f64 (m : Int)))).run Tryz.prog w = .ok (.float .f64 X) w) (hF : FI w 5 w.heap.size) :
    Calls Tryz.prog 115 #[.int .u64 (m : Int), .int .i64 e, .bool true] w fun r w' => r = .returned (.tuple #[.float .f64 X, .bool false]) ∧ w = w' := by
  have c0 := hF.m
  clear hF
  have hw : (m : Int) / 4503599627370496 = 0 := by omega
  clear hm
  obtain ⟨e1, e2⟩ := he2
  have e3 : ¬ e = 0 := by omega
  go_enter Tryz.func115, Tryz.ntmps115
  go_wp2_with fail
  all_goals first
    | (exfalso; omega)
    | (go_ret2; exact ⟨rfl, rfl⟩)
    | (go_ret; exact ⟨rfl, rfl⟩)
set_option maxRecDepth 100000 in
set_option maxHeartbeats 2000000 in
theorem exm_c0 (m : Nat) (X : Nat) (hm : m < 4503599627370496) (k : Nat) (hk : 0 < k ∧ k ≤ 22) (hg : (FloatKind.f64.format.order X 4831355200913801216 == some .gt) = false) (hl : (FloatKind.f64.format.order X 14054727237768577024 == some .lt) = true) (w : World) (hng : (Op.unary UnOp.neg (.float .f64 (floatOfInt .f64 (m : Int)))).run Tryz.prog w = .ok (.float .f64 X) w) (hF : FI w 5 w.heap.size) :
    Calls Tryz.prog 115 #[.int .u64 (m : Int), .int .i64 ((k : Nat) : Int), .bool true] w fun r w' => r = .returned (.tuple #[.float .f64 X, .bool false]) ∧ w = w' := by
  have c0 := hF.m
  clear hF
  have hw : (m : Int) / 4503599627370496 = 0 := by omega
  clear hm
  have k1 : (0 : Int) < (k : Int) := by omega
  have k2 : (k : Int) ≤ 22 := by omega
  have k3 : ¬ (k : Int) = 0 := by omega
  clear hk
  go_enter Tryz.func115, Tryz.ntmps115
  go_wp2_with fail
  all_goals first
    | (exfalso; omega)
    | (go_ret2; exact ⟨rfl, rfl⟩)
    | (go_ret; exact ⟨rfl, rfl⟩)
set_option maxRecDepth 100000 in
set_option maxHeartbeats 2000000 in
theorem exm_c1 (m : Nat) (X : Nat) (hm : m < 4503599627370496) (k : Nat) (hk : 0 < k ∧ k ≤ 22) (T : Nat → Nat) (z z2 : Nat) (hg : (FloatKind.f64.format.order X 4831355200913801216 == some .gt) = false) (hl : (FloatKind.f64.format.order X 14054727237768577024 == some .lt) = false) (hz : Ieee.double.mul X (T k) = some z) (w : World) (hng : (Op.unary UnOp.neg (.float .f64 (floatOfInt .f64 (m : Int)))).run Tryz.prog w = .ok (.float .f64 X) w) (hT : F10 T w w.heap.size) (hF : FI w 5 w.heap.size) :
    Calls Tryz.prog 115 #[.int .u64 (m : Int), .int .i64 ((k : Nat) : Int), .bool true] w fun r w' => r = .returned (.tuple #[.float .f64 z, .bool true]) ∧ w = w' := by
  have c0 := hF.m
  clear hF
  have hw : (m : Int) / 4503599627370496 = 0 := by omega
  clear hm
  obtain ⟨R, o, c, h1, h2, h3, h4, h5⟩ := hT.ex
  clear hT
  have k1 : (0 : Int) < (k : Int) := by omega
  have k2 : (k : Int) ≤ 22 := by omega
  have k3 : ¬ (k : Int) = 0 := by omega
  have ck := h5 k (by omega)
  have hq : (binOp .mul 39 (.float .f64 X) (.float .f64 (T k))).run Tryz.prog w = .ok (.float .f64 z) w := run_float_arith w .mul 39 .f64 _ _ _ hz
  clear hk
  go_enter Tryz.func115, Tryz.ntmps115
  go_wp2_with fail
  all_goals first
    | (exfalso; omega)
    | (go_ret2; exact ⟨rfl, rfl⟩)
    | (go_ret; exact ⟨rfl, rfl⟩)
set_option maxRecDepth 100000 in
set_option maxHeartbeats 2000000 in
theorem exm_d0 (m : Nat) (X : Nat) (hm : m < 4503599627370496) (k : Nat) (hk : 22 < k ∧ k ≤ 37) (T : Nat → Nat) (z z2 : Nat) (hg : (FloatKind.f64.format.order z 4831355200913801216 == some .gt) = false) (hl : (FloatKind.f64.format.order z 14054727237768577024 == some .lt) = true) (hz : Ieee.double.mul X (T (k - 22)) = some z) (w : World) (hng : (Op.unary UnOp.neg (.float .f64 (floatOfInt .f64 (m : Int)))).run Tryz.prog w = .ok (.float .f64 X) w) (hT : F10 T w w.heap.size) (hF : FI w 5 w.heap.size) :
    Calls Tryz.prog 115 #[.int .u64 (m : Int), .int .i64 ((k : Nat) : Int), .bool true] w fun r w' => r = .returned (.tuple #[.float .f64 z, .bool false]) ∧ w = w' := by
  have c0 := hF.m
  clear hF
  have hw : (m : Int) / 4503599627370496 = 0 := by omega
  clear hm
  obtain ⟨R, o, c, h1, h2, h3, h4, h5⟩ := hT.ex
  clear hT
  obtain ⟨j, hj⟩ : ∃ j, k = 22 + j := ⟨k - 22, by omega⟩
  subst hj
  have k1 : (0 : Int) < ((22 + j : Nat) : Int) := by omega
  have k2 : ((22 + j : Nat) : Int) ≤ 37 := by omega
  have k3 : ¬ ((22 + j : Nat) : Int) = 0 := by omega
  have k4 : (22 : Int) < ((22 + j : Nat) : Int) := by omega
  have hsb : IntKind.i64.wrap (((22 + j : Nat) : Int) - 22) = (j : Int) := by rw [IntWalk.i64_in _ (by omega)]; omega
  have ck := h5 j (by omega)
  rw [show 22 + j - 22 = j by omega] at hz
  have hq : (binOp .mul 39 (.float .f64 X) (.float .f64 (T j))).run Tryz.prog w = .ok (.float .f64 z) w := run_float_arith w .mul 39 .f64 _ _ _ hz
  obtain ⟨kk, hkk⟩ : ∃ kk : Int, ((22 + j : Nat) : Int) = kk := ⟨_, rfl⟩
  rw [hkk] at k1 k2 k3 k4 hsb ⊢
  clear hk
  go_enter Tryz.func115, Tryz.ntmps115
  go_wp2_with fail
  all_goals first
    | (exfalso; omega)
    | (go_ret2; exact ⟨rfl, rfl⟩)
    | (go_ret; exact ⟨rfl, rfl⟩)
set_option maxRecDepth 100000 in
set_option maxHeartbeats 2000000 in
theorem exm_d1 (m : Nat) (X : Nat) (hm : m < 4503599627370496) (k : Nat) (hk : 22 < k ∧ k ≤ 37) (T : Nat → Nat) (z z2 : Nat) (hg : (FloatKind.f64.format.order z 4831355200913801216 == some .gt) = false) (hl : (FloatKind.f64.format.order z 14054727237768577024 == some .lt) = false) (hz : Ieee.double.mul X (T (k - 22)) = some z) (hz2 : Ieee.double.mul z (T 22) = some z2) (w : World) (hng : (Op.unary UnOp.neg (.float .f64 (floatOfInt .f64 (m : Int)))).run Tryz.prog w = .ok (.float .f64 X) w) (hT : F10 T w w.heap.size) (hF : FI w 5 w.heap.size) :
    Calls Tryz.prog 115 #[.int .u64 (m : Int), .int .i64 ((k : Nat) : Int), .bool true] w fun r w' => r = .returned (.tuple #[.float .f64 z2, .bool true]) ∧ w = w' := by
  have c0 := hF.m
  clear hF
  have hw : (m : Int) / 4503599627370496 = 0 := by omega
  clear hm
  obtain ⟨R, o, c, h1, h2, h3, h4, h5⟩ := hT.ex
  clear hT
  obtain ⟨j, hj⟩ : ∃ j, k = 22 + j := ⟨k - 22, by omega⟩
  subst hj
  have k1 : (0 : Int) < ((22 + j : Nat) : Int) := by omega
  have k2 : ((22 + j : Nat) : Int) ≤ 37 := by omega
  have k3 : ¬ ((22 + j : Nat) : Int) = 0 := by omega
  have k4 : (22 : Int) < ((22 + j : Nat) : Int) := by omega
  have hsb : IntKind.i64.wrap (((22 + j : Nat) : Int) - 22) = (j : Int) := by rw [IntWalk.i64_in _ (by omega)]; omega
  have ck := h5 j (by omega)
  rw [show 22 + j - 22 = j by omega] at hz
  have hq : (binOp .mul 39 (.float .f64 X) (.float .f64 (T j))).run Tryz.prog w = .ok (.float .f64 z) w := run_float_arith w .mul 39 .f64 _ _ _ hz
  have hq2 : (binOp .mul 39 (.float .f64 z) (.float .f64 (T 22))).run Tryz.prog w = .ok (.float .f64 z2) w := run_float_arith w .mul 39 .f64 _ _ _ hz2
  have ck2 := h5 22 (by omega)
  obtain ⟨kk, hkk⟩ : ∃ kk : Int, ((22 + j : Nat) : Int) = kk := ⟨_, rfl⟩
  rw [hkk] at k1 k2 k3 k4 hsb ⊢
  clear hk
  go_enter Tryz.func115, Tryz.ntmps115
  go_wp2_with fail
  all_goals first
    | (exfalso; omega)
    | (go_ret2; exact ⟨rfl, rfl⟩)
    | (go_ret; exact ⟨rfl, rfl⟩)
set_option maxRecDepth 100000 in
set_option maxHeartbeats 2000000 in
theorem exm_e1 (m : Nat) (X : Nat) (hm : m < 4503599627370496) (k : Nat) (hk : 0 < k ∧ k ≤ 22) (T : Nat → Nat) (z z2 : Nat) (hz : Ieee.double.div X (T k) = some z) (w : World) (hng : (Op.unary UnOp.neg (.float .f64 (floatOfInt .f64 (m : Int)))).run Tryz.prog w = .ok (.float .f64 X) w) (hT : F10 T w w.heap.size) (hF : FI w 5 w.heap.size) :
    Calls Tryz.prog 115 #[.int .u64 (m : Int), .int .i64 (-((k : Nat) : Int)), .bool true] w fun r w' => r = .returned (.tuple #[.float .f64 z, .bool true]) ∧ w = w' := by
  have c0 := hF.m
  clear hF
  have hw : (m : Int) / 4503599627370496 = 0 := by omega
  clear hm
  obtain ⟨R, o, c, h1, h2, h3, h4, h5⟩ := hT.ex
  clear hT
  have k1 : -(k : Int) < (0 : Int) := by omega
  have k2 : (-22 : Int) ≤ -(k : Int) := by omega
  have k3 : ¬ -(k : Int) = 0 := by omega
  have k4 : ¬ (0 : Int) < -(k : Int) := by omega
  have hsb : IntKind.i64.wrap (-(-(k : Int))) = (k : Int) := by rw [IntWalk.i64_in _ (by omega)]; omega
  have ck := h5 k (by omega)
  have hq : (binOp .quo 39 (.float .f64 X) (.float .f64 (T k))).run Tryz.prog w = .ok (.float .f64 z) w := run_float_arith w .quo 39 .f64 _ _ _ hz
  obtain ⟨kk, hkk⟩ : ∃ kk : Int, -(k : Int) = kk := ⟨_, rfl⟩
  rw [hkk] at k1 k2 k3 k4 hsb ⊢
  clear hk
  go_enter Tryz.func115, Tryz.ntmps115
  go_wp2_with fail
  all_goals first
    | (exfalso; omega)
    | (go_ret2; exact ⟨rfl, rfl⟩)
    | (go_ret; exact ⟨rfl, rfl⟩)
theorem exact_m (T : Nat → Nat) (hT : ∀ k, k < 23 → 0 < T k ∧ T k < fIN) (m : Nat) (e : Int) (he : -1000 ≤ e ∧ e ≤ 1000) :
    ∃ x ok, (ok = true → FMn x) ∧ ∀ w : World, F10 T w w.heap.size → FI w 5 w.heap.size →
      Calls Tryz.prog 115 #[.int .u64 (m : Int), .int .i64 e, .bool true] w fun r w' => r = .returned (.tuple #[.float .f64 x, .bool ok]) ∧ w = w' := by
  by_cases hm : m < 4503599627370496
  · have hf := foi_lt m hm
    have hI : fIN = 9218868437227405312 := rfl
    obtain ⟨r0, hr0⟩ : ∃ r0, floatOfInt .f64 (m : Int) = r0 := ⟨_, rfl⟩
    rw [hr0] at hf
    have hng : ∀ w, (Op.unary UnOp.neg (.float .f64 (floatOfInt .f64 (m : Int)))).run Tryz.prog w = .ok (.float .f64 (fSG + r0)) w := fun w => by
      rw [hr0, run_neg r0 (pos_facts hf).2.2.2 (pos_facts hf).2.2.1 w]
      unfold flipB
      rw [if_pos (show r0 < fSG by have e1 : fSG = 9223372036854775808 := rfl; omega), Nat.add_comm]
    obtain ⟨g1, g2⟩ := gt_mn (Nat.le_of_lt hf)
    by_cases h0 : e = 0
    · subst h0
      exact ⟨_, _, fun _ => ⟨r0, Nat.le_of_lt hf, rfl⟩, fun w h10 hF => exm_zero m _ hm w (hng w) hF⟩
    by_cases h1 : e < -22 ∨ 37 < e
    · exact ⟨_, false, by simp, fun w h10 hF => exm_far m _ hm e h1 he w (hng w) hF⟩
    by_cases h2 : e < 0
    · obtain ⟨k, rfl⟩ : ∃ k : Nat, e = -((k : Nat) : Int) := ⟨e.natAbs, by omega⟩
      obtain ⟨t0, t1⟩ := hT k (by omega)
      obtain ⟨z, hz, hz2⟩ := div_mn hf t1 t0
      exact ⟨z, true, fun _ => hz2, fun w h10 hF => exm_e1 m _ hm k (by omega) T z 0 hz w (hng w) h10 hF⟩
    obtain ⟨k, rfl⟩ : ∃ k : Nat, e = ((k : Nat) : Int) := ⟨e.toNat, by omega⟩
    by_cases h3 : k ≤ 22
    · obtain ⟨t0, t1⟩ := hT k (by omega)
      by_cases h4 : 4831355200913801216 < r0
      · exact ⟨_, false, by simp, fun w h10 hF => exm_c0 m _ hm k (by omega) g1 (by rw [g2]; exact decide_eq_true h4) w (hng w) hF⟩
      · obtain ⟨z, hz, hz2⟩ := mul_mn hf t1
        exact ⟨z, true, fun _ => hz2, fun w h10 hF => exm_c1 m _ hm k (by omega) T z 0 g1 (by rw [g2]; exact decide_eq_false h4) hz w (hng w) h10 hF⟩
    · obtain ⟨t0, t1⟩ := hT (k - 22) (by omega)
      obtain ⟨z, hz, hz2⟩ := mul_mn hf t1
      obtain ⟨rz, hrz, rfl⟩ := hz2
      obtain ⟨k1, k2⟩ := gt_mn hrz
      by_cases h4 : 4831355200913801216 < rz
      · exact ⟨_, false, by simp, fun w h10 hF => exm_d0 m _ hm k (by omega) T _ 0 k1 (by rw [k2]; exact decide_eq_true h4) hz w (hng w) h10 hF⟩
      · obtain ⟨u0, u1⟩ := hT 22 (by omega)
        obtain ⟨z2, hy, hy2⟩ := mul_mn (show rz < fIN by omega) u1
        exact ⟨z2, true, fun _ => hy2, fun w h10 hF => exm_d1 m _ hm k (by omega) T _ z2 k1 (by rw [k2]; exact decide_eq_false h4) hz hy w (hng w) h10 hF⟩
  · exact ⟨_, false, by simp, fun w h10 hF => exm_big m e hm w hF⟩
end
section
open Go Go.ChangeShapes Go.WideShapes Go.RowKit
set_option linter.unusedVariables false
set_option linter.unusedSimpArgs false
theorem fbX_mn (x : DS × Int) : FMn (fbX x true).1 := by
  have hI : fIN = 9218868437227405312 := rfl
  have hW : ∀ r, Ieee.double.word true r = fSG + r := fun r => rfl
  unfold fbX
  by_cases h1 : 1024 ≤ x.2
  · rw [if_pos h1]; exact ⟨fIN, Nat.le_refl _, rfl⟩
  · rw [if_neg h1]
    split
    · split
      · exact ⟨fIN, Nat.le_refl _, rfl⟩
      · exact ⟨_, by omega, hW _⟩
    · split
      · exact ⟨_, by omega, hW _⟩
      · exact ⟨_, by omega, hW _⟩
theorem fba_mn (s : DS) : FMn (fba s true).1 := by
  unfold fba
  split
  · exact ⟨0, Nat.zero_le _, rfl⟩
  · split
    · exact ⟨fIN, Nat.le_refl _, rfl⟩
    · split
      · exact ⟨0, Nat.zero_le _, rfl⟩
      · unfold fb; exact fbX_mn _
/-- What readFloat and special answer at a text. -/
structure RDm (s : ByteArray) (m : Nat) (E : Int) (tr : Bool) : Prop where
  sp : ∀ w, Calls Tryz.prog 104 #[.string s] w fun e w' => e = .returned (.tuple #[.float .f64 0, .int .i64 0, .bool false]) ∧ w = w'
  rd : ∀ w, Calls Tryz.prog 105 #[.string s] w fun e w' => e = .returned (.tuple #[.int .u64 ((m : Nat) : Int), .int .i64 E, .bool true, .bool tr, .bool false, .int .i64 ((s.size : Nat) : Int), .bool true]) ∧ w = w'
  m : m < 10000000000000000000
set_option maxRecDepth 100000 in
set_option maxHeartbeats 2000000 in
theorem am_zero (s : ByteArray) (E : Int) (tr : Bool) (w : World) (hR : RDm s 0 E tr) (ho : w.cell? ⟨4, 0, none⟩ = some (.bool true)) : AtP s 9223372036854775808 w := by
  unfold AtP
  have hsh : IntKind.u64.wrap 9223372036854775808 = 9223372036854775808 := by rfl
  have HR := Lib.hid hR
  clear hR
  have ho0 : bits .or .u64 9223372036854775808 0 = 9223372036854775808 := by rfl
  have hfb : (callFunc 114 #[.int .u64 9223372036854775808]).run Tryz.prog w = .ok (.value (.float .f64 9223372036854775808)) w := run_sfrombits 9223372036854775808 w
  go_enter Tryz.func83, Tryz.ntmps83
  go_wp2_with (first
    | (go_at_call 104; (with_reducible refine (HR.out.sp _).mono ?_); rintro e w9 ⟨rfl, rfl⟩)
    | (go_at_call 105; (with_reducible refine (HR.out.rd _).mono ?_); rintro e w9 ⟨rfl, rfl⟩)
    | (go_at_call 113; (with_reducible refine (bool2u_any _ _).mono ?_); rintro e w9 ⟨rfl, rfl⟩)
    | fail)
  all_goals first
    | (exfalso; omega)
    | (go_ret3; exact ⟨⟨.nilIface, rfl, .inl rfl⟩, Below.refl _ _⟩)
set_option maxRecDepth 100000 in
set_option maxHeartbeats 2000000 in
theorem am_over (s : ByteArray) (m : Nat) (E : Int) (tr : Bool) (w : World) (hR : RDm s m E tr) (ho : w.cell? ⟨4, 0, none⟩ = some (.bool true)) (hm : m ≠ 0) (hE : 310 < E) : AtP s 18442240474082181120 w := by
  unfold AtP
  have hsh : IntKind.u64.wrap 9223372036854775808 = 9223372036854775808 := by rfl
  have HR := Lib.hid hR
  clear hR
  have hm1 : ¬ (m : Int) = 0 := by omega
  have ho0 : bits .or .u64 9223372036854775808 9218868437227405312 = 18442240474082181120 := by rfl
  have hfb : (callFunc 114 #[.int .u64 18442240474082181120]).run Tryz.prog w = .ok (.value (.float .f64 18442240474082181120)) w := run_sfrombits 18442240474082181120 w
  go_enter Tryz.func83, Tryz.ntmps83
  go_wp2_with (first
    | (go_at_call 104; (with_reducible refine (HR.out.sp _).mono ?_); rintro e w9 ⟨rfl, rfl⟩)
    | (go_at_call 105; (with_reducible refine (HR.out.rd _).mono ?_); rintro e w9 ⟨rfl, rfl⟩)
    | (go_at_call 113; (with_reducible refine (bool2u_any _ _).mono ?_); rintro e w9 ⟨rfl, rfl⟩)
    | fail)
  all_goals first
    | (exfalso; omega)
    | (go_ret3; exact ⟨⟨_, rfl, .inr rfl⟩, Below.refl _ _⟩)
set_option maxRecDepth 100000 in
set_option maxHeartbeats 2000000 in
theorem am_under (s : ByteArray) (m : Nat) (E : Int) (tr : Bool) (w : World) (hR : RDm s m E tr) (ho : w.cell? ⟨4, 0, none⟩ = some (.bool true)) (hm : m ≠ 0) (hE : E < -345) : AtP s 9223372036854775808 w := by
  unfold AtP
  have hsh : IntKind.u64.wrap 9223372036854775808 = 9223372036854775808 := by rfl
  have HR := Lib.hid hR
  clear hR
  have hm1 : ¬ (m : Int) = 0 := by omega
  have hE2 : ¬ 310 < E := by omega
  have ho0 : bits .or .u64 9223372036854775808 0 = 9223372036854775808 := by rfl
  have hfb : (callFunc 114 #[.int .u64 9223372036854775808]).run Tryz.prog w = .ok (.value (.float .f64 9223372036854775808)) w := run_sfrombits 9223372036854775808 w
  go_enter Tryz.func83, Tryz.ntmps83
  go_wp2_with (first
    | (go_at_call 104; (with_reducible refine (HR.out.sp _).mono ?_); rintro e w9 ⟨rfl, rfl⟩)
    | (go_at_call 105; (with_reducible refine (HR.out.rd _).mono ?_); rintro e w9 ⟨rfl, rfl⟩)
    | (go_at_call 113; (with_reducible refine (bool2u_any _ _).mono ?_); rintro e w9 ⟨rfl, rfl⟩)
    | fail)
  all_goals first
    | (exfalso; omega)
    | (go_ret3; exact ⟨⟨_, rfl, .inl rfl⟩, Below.refl _ _⟩)
set_option maxRecDepth 100000 in
set_option maxHeartbeats 2000000 in
theorem am_exact (s : ByteArray) (m : Nat) (E : Int) (x : Nat) (w : World) (hR : RDm s m E false) (ho : w.cell? ⟨4, 0, none⟩ = some (.bool true)) (hm : m ≠ 0) (hE : -345 ≤ E ∧ E ≤ 310) (hX : Calls Tryz.prog 115 #[.int .u64 (m : Int), .int .i64 E, .bool true] w fun r w' => r = .returned (.tuple #[.float .f64 x, .bool true]) ∧ w = w') : AtP s x w := by
  unfold AtP
  have hsh : IntKind.u64.wrap 9223372036854775808 = 9223372036854775808 := by rfl
  have HR := Lib.hid hR
  clear hR
  have hm1 : ¬ (m : Int) = 0 := by omega
  have hE2 : ¬ 310 < E := by omega
  have hE3 : ¬ E < -345 := by omega
  clear hE
  have HX := Lib.hid hX
  clear hX
  go_enter Tryz.func83, Tryz.ntmps83
  go_wp2_with (first
    | (go_at_call 104; (with_reducible refine (HR.out.sp _).mono ?_); rintro e w9 ⟨rfl, rfl⟩)
    | (go_at_call 105; (with_reducible refine (HR.out.rd _).mono ?_); rintro e w9 ⟨rfl, rfl⟩)
    | (go_at_call 113; (with_reducible refine (bool2u_any _ _).mono ?_); rintro e w9 ⟨rfl, rfl⟩)
    | (go_at_call 115; (with_reducible refine HX.out.mono ?_); rintro e w9 ⟨rfl, rfl⟩)
    | fail)
  all_goals first
    | (exfalso; omega)
    | (go_ret3; exact ⟨⟨_, rfl, .inl rfl⟩, Below.refl _ _⟩)
set_option maxRecDepth 100000 in
set_option maxHeartbeats 2000000 in
theorem am_pf (s : ByteArray) (m : Nat) (E : Int) (x y : Nat) (w : World) (hR : RDm s m E false) (ho : w.cell? ⟨4, 0, none⟩ = some (.bool true)) (hm : m ≠ 0) (hE : -345 ≤ E ∧ E ≤ 310) (hX : Calls Tryz.prog 115 #[.int .u64 (m : Int), .int .i64 E, .bool true] w fun r w' => r = .returned (.tuple #[.float .f64 x, .bool false]) ∧ w = w') (hP : Calls Tryz.prog 116 #[.int .u64 (m : Int), .int .i64 E, .int .u64 9223372036854775808] w fun r w' => (∃ v, r = .returned (.tuple #[.float .f64 y, v]) ∧ ErrV v) ∧ Below w.heap.size w w') : AtP s y w := by
  unfold AtP
  have hsh : IntKind.u64.wrap 9223372036854775808 = 9223372036854775808 := by rfl
  have HR := Lib.hid hR
  clear hR
  have hm1 : ¬ (m : Int) = 0 := by omega
  have hE2 : ¬ 310 < E := by omega
  have hE3 : ¬ E < -345 := by omega
  clear hE
  have HX := Lib.hid hX
  have HP := Lib.hid hP
  clear hX hP
  go_enter Tryz.func83, Tryz.ntmps83
  go_wp2_with (first
    | (go_at_call 104; (with_reducible refine (HR.out.sp _).mono ?_); rintro e w9 ⟨rfl, rfl⟩)
    | (go_at_call 105; (with_reducible refine (HR.out.rd _).mono ?_); rintro e w9 ⟨rfl, rfl⟩)
    | (go_at_call 113; (with_reducible refine (bool2u_any _ _).mono ?_); rintro e w9 ⟨rfl, rfl⟩)
    | (go_at_call 115; (with_reducible refine HX.out.mono ?_); rintro e w9 ⟨rfl, rfl⟩)
    | (go_at_call 116; (with_reducible refine HP.out.mono ?_); rintro e w4 ⟨⟨v4, rfl, hv4⟩, hb4⟩; have HB4 := Lib.hid hb4; have HV4 := Lib.hid hv4; clear hb4 hv4)
    | fail)
  all_goals first
    | (exfalso; omega)
    | (go_ret3; exact ⟨⟨_, rfl, HV4.out⟩, HB4.out⟩)
set_option maxRecDepth 100000 in
set_option maxHeartbeats 2000000 in
theorem am_eq (s : ByteArray) (m m1 : Nat) (E : Int) (y y1 : Nat) (w : World) (hR : RDm s m E true) (ho : w.cell? ⟨4, 0, none⟩ = some (.bool true)) (hm : m ≠ 0) (hE : -345 ≤ E ∧ E ≤ 310) (hP : Calls Tryz.prog 116 #[.int .u64 (m : Int), .int .i64 E, .int .u64 9223372036854775808] w fun r w' => (∃ v, r = .returned (.tuple #[.float .f64 y, v]) ∧ ErrV v) ∧ Below w.heap.size w w') (hP1 : ∀ W, Below w.heap.size w W → Calls Tryz.prog 116 #[.int .u64 (m1 : Int), .int .i64 E, .int .u64 9223372036854775808] W fun r w' => (∃ v, r = .returned (.tuple #[.float .f64 y1, v]) ∧ ErrV v) ∧ Below W.heap.size W w') (hm1 : m + 1 = m1) (hq : (FloatKind.f64.format.order y y1 == some .eq) = true) : AtP s y w := by
  unfold AtP
  have hsh : IntKind.u64.wrap 9223372036854775808 = 9223372036854775808 := by rfl
  have HR := Lib.hid hR
  clear hR
  have hm0 : ¬ (m : Int) = 0 := by omega
  have hE2 : ¬ 310 < E := by omega
  have hE3 : ¬ E < -345 := by omega
  clear hE
  have hmw : IntKind.u64.wrap ((m : Int) + 1) = (m1 : Int) := by have hmm := HR.out.m; rw [IntWalk.u64_in _ (by omega)]; omega
  have HP := Lib.hid hP
  have HP1 := Lib.hid hP1
  clear hP hP1 hm1
  go_enter Tryz.func83, Tryz.ntmps83
  go_wp2_with (first
    | (go_at_call 104; (with_reducible refine (HR.out.sp _).mono ?_); rintro e w9 ⟨rfl, rfl⟩)
    | (go_at_call 105; (with_reducible refine (HR.out.rd _).mono ?_); rintro e w9 ⟨rfl, rfl⟩)
    | (go_at_call 113; (with_reducible refine (bool2u_any _ _).mono ?_); rintro e w9 ⟨rfl, rfl⟩)
    | (go_at_call 116; (with_reducible refine HP.out.mono ?_); rintro e w4 ⟨⟨v4, rfl, hv4⟩, hb4⟩; have HB4 := Lib.hid hb4; have HV4 := Lib.hid hv4; clear hb4 hv4)
    | (go_at_call 116; (with_reducible refine (HP1.out _ HB4.out).mono ?_); rintro e w5 ⟨⟨v5, rfl, hv5⟩, hb5⟩; have HB5 := Lib.hid (HB4.out.trans (hb5.mono HB4.out.size)); clear hb5 hv5)
    | fail)
  all_goals first
    | (exfalso; omega)
    | (go_ret3; exact ⟨⟨_, rfl, HV4.out⟩, HB5.out⟩)
set_option maxRecDepth 100000 in
set_option maxHeartbeats 2000000 in
theorem am_slow (s : ByteArray) (a p q F : Nat) (ov : Bool) (hz : fba (smZ s a p q) true = (F, ov)) (h : Nm1 s a p q) (hiT loT T : Nat → Nat) (m m1 : Nat) (E : Int) (y y1 : Nat) (w : World) (hR : RDm s m E true) (ho : w.cell? ⟨4, 0, none⟩ = some (.bool true)) (hT : TBL hiT loT T w w.heap.size) (hm : m ≠ 0) (hE : -345 ≤ E ∧ E ≤ 310) (hP : Calls Tryz.prog 116 #[.int .u64 (m : Int), .int .i64 E, .int .u64 9223372036854775808] w fun r w' => (∃ v, r = .returned (.tuple #[.float .f64 y, v]) ∧ ErrV v) ∧ Below w.heap.size w w') (hP1 : ∀ W, Below w.heap.size w W → Calls Tryz.prog 116 #[.int .u64 (m1 : Int), .int .i64 E, .int .u64 9223372036854775808] W fun r w' => (∃ v, r = .returned (.tuple #[.float .f64 y1, v]) ∧ ErrV v) ∧ Below W.heap.size W w') (hm1 : m + 1 = m1) (hq : (FloatKind.f64.format.order y y1 == some .eq) = false) : AtP s F w := by
  unfold AtP
  have hsh : IntKind.u64.wrap 9223372036854775808 = 9223372036854775808 := by rfl
  have HR := Lib.hid hR
  clear hR
  have hm0 : ¬ (m : Int) = 0 := by omega
  have hE2 : ¬ 310 < E := by omega
  have hE3 : ¬ E < -345 := by omega
  clear hE
  have hmw : IntKind.u64.wrap ((m : Int) + 1) = (m1 : Int) := by have hmm := HR.out.m; rw [IntWalk.u64_in _ (by omega)]; omega
  have HP := Lib.hid hP
  have HP1 := Lib.hid hP1
  clear hP hP1 hm1
  go_enter Tryz.func83, Tryz.ntmps83
  go_upto_region 28 with (first
    | (go_at_call 104; (with_reducible refine (HR.out.sp _).mono ?_); rintro e w9 ⟨rfl, rfl⟩)
    | (go_at_call 105; (with_reducible refine (HR.out.rd _).mono ?_); rintro e w9 ⟨rfl, rfl⟩)
    | (go_at_call 113; (with_reducible refine (bool2u_any _ _).mono ?_); rintro e w9 ⟨rfl, rfl⟩)
    | (go_at_call 116; (with_reducible refine HP.out.mono ?_); rintro e w4 ⟨⟨v4, rfl, hv4⟩, hb4⟩; have HB4 := Lib.hid hb4; have HV4 := Lib.hid hv4; clear hb4 hv4)
    | (go_at_call 116; (with_reducible refine (HP1.out _ HB4.out).mono ?_); rintro e w5 ⟨⟨v5, rfl, hv5⟩, hb5⟩; have HB5 := Lib.hid (HB4.out.trans (hb5.mono HB4.out.size)); clear hb5 hv5)
    | fail)
  go_upto_region 29 with fail
  generalize hw6 : w5.alloc _ = w6
  have HB6 := Lib.hid (show Below w.heap.size w w6 by rw [← hw6]; exact HB5.out.alloc HB5.out.size _)
  have HD := Lib.hid (show DM w6 w5.heap.size ⟨0, 0, 0, false⟩ false by rw [← hw6]; exact dm_new w5)
  have HS := Lib.hid (set_m w5.heap.size s a p q h w6 HD.out)
  have hsl : s.extract 0 s.size = s := by simp
  obtain ⟨b, hb⟩ : ∃ b, w5.heap.size = b := ⟨_, rfl⟩
  have hbw : w.heap.size ≤ b := by rw [← hb]; exact HB5.out.size
  rw [hb] at HS ⊢
  have HTT := Lib.hid hT
  have HN := Lib.hid (smZ_nrm h)
  clear hT ho hw6 HD hb h
  have hz2 : ∀ W, DM W b (smZ s a p q) true → TBL hiT loT T W b → Calls Tryz.prog 112 #[.pointer (some ⟨b, 0, none⟩), .pointer (some ⟨5, 0, none⟩)] W fun e w' => e = .returned (.tuple #[.int .u64 ((F : Nat) : Int), .bool ov]) ∧ Below b W w' := fun W hD hT => by
    have := fba_any b _ (smZ s a p q) true W HN.out hD hT.l hT.pw hT.f
    rw [hz] at this
    exact this
  have HF := Lib.hid hz2
  clear hz hz2
  go_upto_region 31 with (first
    | (go_at_call 111; (with_reducible refine HS.out.mono ?_); rintro e w7 ⟨rfl, hd7, hb7⟩; have HD7 := Lib.hid hd7; have HB7 := Lib.hid (HB6.out.trans (hb7.mono hbw)); clear hd7 hb7)
    | fail)
  have HF7 := Lib.hid (HF.out w7 HD7.out ((HTT.out.keep HB7.out).up hbw))
  have hfb : ∀ W, (callFunc 114 #[.int .u64 (F : Int)]).run Tryz.prog W = .ok (.value (.float .f64 F)) W := fun W => run_sfrombits F W
  cases ov
  all_goals
    go_wp2_with (first
      | (go_at_call 112; (with_reducible refine HF7.out.mono ?_); rintro e w8 ⟨rfl, hb8⟩; have HB8 := Lib.hid (HB7.out.trans (hb8.mono hbw)); clear hb8)
      | fail)
    go_ret3
    first
      | exact ⟨⟨_, rfl, .inl rfl⟩, HB8.out⟩
      | exact ⟨⟨_, rfl, .inr rfl⟩, HB8.out⟩
theorem mm_lt {s : ByteArray} {a p q : Nat} (h : Nm1 s a p q) : (qfM s p).m < 10000000000000000000 := by
  have hk := qm_ok h p (Nat.le_refl _)
  exact Nat.lt_of_lt_of_le hk.m (show 10 ^ (qfM s p).nm ≤ 10 ^ 19 from Nat.pow_le_pow_right (by decide) hk.nm)
/-- atof64 of a minus sign and a numeral: a float, no NaN, with the sign bit, always the same. -/
theorem atofm_any {hiT loT T : Nat → Nat} (hf : TBF hiT loT T) (s : ByteArray) (a p q : Nat) (h : Nm1 s a p q) : ∃ F, FMn F ∧ ∀ w, TBL hiT loT T w w.heap.size → AtP s F w := by
  have hR : RDm s (qfM s p).m (expM s p q) (qfM s p).tr := ⟨special_m s a p q h, read_m s a p q h, mm_lt h⟩
  obtain ⟨m, hm⟩ : ∃ m, (qfM s p).m = m := ⟨_, rfl⟩
  obtain ⟨E, hE⟩ : ∃ E, expM s p q = E := ⟨_, rfl⟩
  obtain ⟨tr, htr⟩ : ∃ tr, (qfM s p).tr = tr := ⟨_, rfl⟩
  rw [hm, hE, htr] at hR
  have hml := hR.m
  have z0 : FMn 9223372036854775808 := ⟨0, Nat.zero_le _, rfl⟩
  by_cases h0 : m = 0
  · subst h0
    exact ⟨_, z0, fun w hT => am_zero s E tr w hR hT.o⟩
  by_cases h1 : 310 < E
  · exact ⟨_, ⟨fIN, Nat.le_refl _, rfl⟩, fun w hT => am_over s m E tr w hR hT.o h0 h1⟩
  by_cases h2 : E < -345
  · exact ⟨_, z0, fun w hT => am_under s m E tr w hR hT.o h0 h2⟩
  have hin : -345 ≤ E ∧ E ≤ 310 := ⟨by omega, by omega⟩
  obtain ⟨i, hi⟩ : ∃ i : Nat, (i : Int) - 348 = E := ⟨(E + 348).toNat, by omega⟩
  have hil : i < 696 := by omega
  have hP : ∀ n : Nat, n ≠ 0 → n < 18446744073709551616 → ∃ y, FMn y ∧ ∀ w, PTZ hiT loT w w.heap.size → Calls Tryz.prog 116 #[.int .u64 (n : Int), .int .i64 E, .int .u64 9223372036854775808] w fun r w' => (∃ v, r = .returned (.tuple #[.float .f64 y, v]) ∧ ErrV v) ∧ Below w.heap.size w w' := by
    intro n hn hnl
    refine ⟨9223372036854775808 + pfF (hiT i) (loT i) n E, ⟨_, pfF_le _ _ n E hn hnl (hf.h i) ⟨by omega, by omega⟩, rfl⟩, fun w hT => ?_⟩
    have := pf64_m hiT loT n i hf.h hf.l hn hnl hil w hT
    rw [hi] at this
    exact this
  obtain ⟨y, hy, hyP⟩ := hP m h0 (by omega)
  cases tr with
  | false =>
    obtain ⟨x, ok, hx1, hx2⟩ := exact_m T hf.t m E ⟨by omega, by omega⟩
    cases ok with
    | true => exact ⟨x, hx1 rfl, fun w hT => am_exact s m E x w hR hT.o h0 hin (hx2 w hT.t hT.f)⟩
    | false => exact ⟨y, hy, fun w hT => am_pf s m E x y w hR hT.o h0 hin (hx2 w hT.t hT.f) (hyP w hT.p)⟩
  | true =>
    obtain ⟨y1, hy1, hyP1⟩ := hP (m + 1) (by omega) (by omega)
    have hP1 : ∀ w, TBL hiT loT T w w.heap.size → ∀ W, Below w.heap.size w W → Calls Tryz.prog 116 #[.int .u64 ((m + 1 : Nat) : Int), .int .i64 E, .int .u64 9223372036854775808] W fun r w' => (∃ v, r = .returned (.tuple #[.float .f64 y1, v]) ∧ ErrV v) ∧ Below W.heap.size W w' :=
      fun w hT W hb => hyP1 W ((hT.p.keep hb).up hb.size)
    by_cases hq : (FloatKind.f64.format.order y y1 == some .eq) = true
    · exact ⟨y, hy, fun w hT => am_eq s m (m + 1) E y y1 w hR hT.o h0 hin (hyP w hT.p) (hP1 w hT) rfl hq⟩
    · refine ⟨(fba (smZ s a p q) true).1, fba_mn _, fun w hT => ?_⟩
      exact am_slow s a p q _ (fba (smZ s a p q) true).2 rfl h hiT loT T m (m + 1) E y y1 w hR hT.o hT h0 hin (hyP w hT.p) (hP1 w hT) rfl (by simpa using hq)
/-- strconv.ParseFloat of a minus sign and a numeral. -/
theorem pflm_any {hiT loT T : Nat → Nat} (hf : TBF hiT loT T) (tv : TypeId) (yv : Value) (s : ByteArray) (a p q : Nat) (h : Nm1 s a p q) : ∃ F, FMn F ∧ ∀ w, TBL hiT loT T w w.heap.size → w.cell? ⟨2, 0, none⟩ = some (.iface tv yv) → 2 < w.heap.size →
    Calls Tryz.prog 11 #[.string s, .int .i64 64] w fun r w' => (∃ v, r = .returned (.tuple #[.float .f64 F, v])) ∧ Below w.heap.size w w' := by
  obtain ⟨F, h1, h2⟩ := atofm_any hf s a p q h
  exact ⟨F, h1, fun w hw he hl => pf_any s F h.sz tv yv w (h2 w hw) hl he⟩
end
end Go.Proofs.YtbhommcpgejbfaaGreatDoor
