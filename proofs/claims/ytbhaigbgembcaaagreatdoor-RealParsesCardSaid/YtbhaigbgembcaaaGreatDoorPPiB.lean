/- strconv's parseFloat64. -/
import Derived.Test.YtbhaigbgembcaaaGreatDoorPGPhE
namespace Go.Proofs.YtbhaigbgembcaaaGreatDoor
open Go Go.ChangeShapes Go.WideShapes Go.RowKit
set_option linter.unusedVariables false
set_option linter.unusedSimpArgs false
set_option maxRecDepth 100000 in
set_option maxHeartbeats 2000000 in
theorem pf64_any (hiT loT : Nat → Nat) (d i : Nat) (hh : ∀ i, hiT i < 18446744073709551616) (hl : ∀ i, loT i < 18446744073709551616) (hd0 : d ≠ 0) (hd : d < 18446744073709551616) (hi : i < 696) (w : World) (hT : PTZ hiT loT w w.heap.size) :
    Calls Tryz.prog 70 #[.int .u64 (d : Int), .int .i64 ((i : Int) - 348), .int .u64 0] w fun r w' => (∃ v, r = .returned (.tuple #[.float .f64 (pfF (hiT i) (loT i) d ((i : Int) - 348)), v]) ∧ ErrV v) ∧ Below w.heap.size w w' := by
  obtain ⟨l1, l2, l3⟩ := len_facts hd0 hd
  obtain ⟨s1, s2, s3, s4⟩ := pfS_facts (Lib.bitLen d) ((i : Int) - 348) ⟨l1, l2⟩ ⟨by omega, by omega⟩
  have HLen := Lib.hid (Tryz.bits_Len64 (d : Int) w (by omega) (by omega))
  have HL2 := Lib.hid (l2p_any ((i : Int) - 348) ⟨by omega, by omega⟩ w)
  obtain ⟨p, hp⟩ : ∃ p : Int, (i : Int) - 348 = p := ⟨_, rfl⟩
  rw [hp] at s1 s2 s3 s4 HL2 ⊢
  rw [Int.toNat_natCast] at HLen
  have hpb : -348 ≤ p ∧ p ≤ 347 := by omega
  obtain ⟨b, hb⟩ : ∃ b, Lib.bitLen d = b := ⟨_, rfl⟩
  have HF := Lib.hid (show pfF (hiT i) (loT i) d p = if 64 ≤ pfS b p then 0 else pkF (pfM (usZ (d * 2 ^ (64 - b)) (hiT i) (loT i) (pfS b p).toNat)) (-(pfE b p - (pfT (usZ (d * 2 ^ (64 - b)) (hiT i) (loT i) (pfS b p).toNat) : Nat))) by unfold pfF; rw [hb])
  obtain ⟨F, hF⟩ : ∃ F, pfF (hiT i) (loT i) d p = F := ⟨_, rfl⟩
  rw [hF] at HF ⊢
  rw [hb] at l1 l2 l3 s1 s2 s3 s4 HLen
  obtain ⟨LP, hLP⟩ : ∃ LP, p * 108853 / 32768 = LP := ⟨_, rfl⟩
  have hLPb : -1200 ≤ LP ∧ LP ≤ 1200 := by omega
  rw [hLP] at HL2
  have eE : pfE b p = min 1074 (53 - (b : Int) - LP) := by unfold pfE; rw [hLP]
  have eS : pfS b p = -(pfE b p - (64 - (b : Int)) + LP + 3) := by unfold pfS; rw [hLP]
  have w1 : IntKind.i64.wrap (53 - (b : Int)) = 53 - (b : Int) := IntWalk.i64_in _ (by omega)
  have w2 : IntKind.i64.wrap (53 - (b : Int) - LP) = 53 - (b : Int) - LP := IntWalk.i64_in _ (by omega)
  have w3 : IntKind.i64.wrap (64 - (b : Int)) = 64 - (b : Int) := IntWalk.i64_in _ (by omega)
  have w4 : IntKind.i64.wrap (pfE b p - (64 - (b : Int))) = pfE b p - (64 - (b : Int)) := IntWalk.i64_in _ (by omega)
  clear hb hF hLP
  go_enter Tryz.func70, Tryz.ntmps70
  go_upto_region 4 with (first
    | (go_at_call 82; (with_reducible refine HLen.out.mono ?_); rintro e w9 ⟨rfl, rfl⟩)
    | (go_at_call 102; (with_reducible refine HL2.out.mono ?_); rintro e w9 ⟨rfl, rfl⟩)
    | fail)
  rw [← eE]
  obtain ⟨EE, hEE⟩ : ∃ EE, pfE b p = EE := ⟨_, rfl⟩
  obtain ⟨SS, hSS⟩ : ∃ SS, pfS b p = SS := ⟨_, rfl⟩
  rw [hEE, hSS] at eS
  rw [hEE] at w4 s3 s4 ⊢
  rw [hSS] at s1 s2
  have HF2 := Lib.hid (show F = if 64 ≤ SS then 0 else pkF (pfM (usZ (d * 2 ^ (64 - b)) (hiT i) (loT i) SS.toNat)) (-(EE - (pfT (usZ (d * 2 ^ (64 - b)) (hiT i) (loT i) SS.toNat) : Nat))) by rw [← hSS, ← hEE]; exact HF.out)
  have hPre := prescale_any hiT loT w9.heap.size i (EE - (64 - (b : Int))) LP hi ⟨by omega, by omega⟩ ⟨by omega, by omega⟩ (w9.alloc (.cells #[.int .u64 0, .int .u64 0, .int .i64 0] 134)) ⟨⟨0, 0, 0, by simp, by simp, by simp⟩, fun i _ => by simp⟩ (hT.keep ((Below.refl _ _).alloc (Nat.le_refl _) _))
  rw [hp, ← eS] at hPre
  have HPre := Lib.hid hPre
  have HT := Lib.hid hT
  clear hPre hT HF eE eS
  go_upto_region 6 with (first
    | (go_at_call 103; (with_reducible refine HPre.out.mono ?_); rintro e w2 ⟨rfl, hw2⟩)
    | fail)
  generalize hw3 : w9.alloc _ = wx
  have HB := Lib.hid (show Below w9.heap.size w9 wx by rw [← hw3]; exact (Below.refl _ _).alloc (Nat.le_refl _) _)
  have c0 : wx.cell? ⟨w9.heap.size, 0, none⟩ = some (.int .u64 (hiT i : Int)) := by rw [← hw3]; simp
  have c1 : wx.cell? ⟨w9.heap.size, 1, none⟩ = some (.int .u64 (loT i : Int)) := by rw [← hw3]; simp
  have c2 : wx.cell? ⟨w9.heap.size, 2, none⟩ = some (.int .i64 SS) := by rw [← hw3]; simp
  clear hw3 HPre HT HL2 HLen
  by_cases h64 : 64 ≤ SS
  · have HR := Lib.hid (show F = 0 by rw [HF2.out, if_pos h64])
    have hfb : (callFunc 68 #[.int .u64 0]).run Tryz.prog wx = .ok (.value (.float .f64 0)) wx := run_sfrombits 0 wx
    have ho : bits .or .u64 0 0 = 0 := by rfl
    clear HF2 c0 c1
    go_wp2_with fail
    go_ret2
    exact ⟨⟨.nilIface, by rw [HR.out]; rfl, .inl rfl⟩, HB.out⟩
  · obtain ⟨S, hS⟩ : ∃ S : Nat, SS = (S : Int) := ⟨SS.toNat, by omega⟩
    subst hS
    rw [Int.toNat_natCast] at HF2
    obtain ⟨x, hx⟩ : ∃ x, d * 2 ^ (64 - b) = x := ⟨_, rfl⟩
    rw [hx] at HF2 l3
    obtain ⟨K, hK⟩ : ∃ K : Nat, 64 - b = K := ⟨_, rfl⟩
    rw [hK] at hx
    have w3' : IntKind.i64.wrap (64 - (b : Int)) = (K : Int) := by rw [w3]; omega
    have hsh : IntKind.u64.wrap ((d : Int) * 2 ^ K) = (x : Int) := by
      rw [show (d : Int) * 2 ^ K = (x : Int) by rw [← hx]; push_cast; rfl]
      exact IntWalk.u64_in _ (by omega)
    have HU := Lib.hid (us_any x w9.heap.size (hiT i) (loT i) S l3 (hh i) (hl i) (by omega) wx ⟨c0, c1, c2⟩)
    have hul := usZ_lt x (hiT i) (loT i) S l3 (hh i) (by omega)
    obtain ⟨u, hu⟩ : ∃ u, usZ x (hiT i) (loT i) S = u := ⟨_, rfl⟩
    rw [hu] at HU hul HF2
    have HR := Lib.hid (show F = pkF (pfM u) (-(EE - (pfT u : Nat))) by rw [HF2.out, if_neg h64])
    have hKl : (K : Int) < 64 := by omega
    clear HF2 hu hx w3 c0 c1
    go_upto_region 9 with (first
      | (go_at_call 104; (with_reducible refine HU.out.mono ?_); rintro e w4 ⟨rfl, q, rfl⟩)
      | fail)
    clear HU
    have HB2 := Lib.hid (show Below w9.heap.size w9 (wx.drewN q) from below_drewN HB.out q)
    generalize wx.drewN q = wy at HB2 ⊢
    clear c2 HB
    have ha := and_one u (by omega)
    have hml := pfM_le u hul
    have hvl := (pfV_lt u hul).1
    by_cases hg : 36028797018963966 ≤ u
    · have hge : ((36028797018963966 : Int) ≤ (u : Int)) := by omega
      have ht : pfT u = 1 := by unfold pfT; rw [if_pos hg]
      have hv : pfV u = u / 2 ^ 1 ||| u % 2 := by unfold pfV; rw [ht]
      have ho : bits .or .u64 ((u : Int) / 2) ((u : Int) % 2) = ((pfV u : Nat) : Int) := by
        have := u64_or_nat (u / 2 ^ 1) (u % 2) (by omega) (by omega)
        rw [cast_shr] at this
        rw [hv]; simpa using this
      have hor : bits .or .u64 0 ((pfM u : Nat) : Int) = ((pfM u : Nat) : Int) := by
        have := u64_or_nat 0 (pfM u) (by omega) (by omega)
        rw [Nat.zero_or] at this
        exact this
      rw [ht] at HR
      obtain ⟨v, hvv⟩ : ∃ v, pfV u = v := ⟨_, rfl⟩
      have hRn := fun W => round_any v (by omega) W
      have epm : (v + 1 + v / 4 % 2) / 4 = pfM u := by unfold pfM; rw [hvv]
      rw [epm] at hRn
      rw [hvv] at ho
      obtain ⟨m, hm⟩ : ∃ m, pfM u = m := ⟨_, rfl⟩
      rw [hm] at hml HR hor hRn epm
      have hs1 : IntKind.i64.wrap (EE - 1) = EE - 1 := IntWalk.i64_in _ (by omega)
      have hs2 : IntKind.i64.wrap (-(EE - 1)) = -(EE - 1) := IntWalk.i64_in _ (by omega)
      have HRn := Lib.hid hRn
      have HPk := Lib.hid (pack_any m (-(EE - 1)) hml (by omega))
      have HR2 := Lib.hid (show F = pkF m (-(EE - 1)) from HR.out)
      clear epm HR hRn hm hvv hv ht hg hml hul
      go_upto_region 10 with (first
        | (go_at_call 106; (with_reducible refine (unmin53 _).mono ?_); rintro e w9 ⟨rfl, rfl⟩)
        | (go_at_call 105; (with_reducible refine (bool2i_any _ _).mono ?_); rintro e w9 ⟨rfl, rfl⟩)
        | fail)
      go_wp2_with (first
        | (go_at_call 108; (with_reducible refine (HRn.out _).mono ?_); rintro e w9 ⟨rfl, rfl⟩)
        | (go_at_call 110; (with_reducible refine (HPk.out _).mono ?_); rintro e w9 ⟨⟨v9, rfl, hv9⟩, rfl⟩)
        | fail)
      all_goals first
        | (exfalso; omega)
        | (go_ret2; exact ⟨⟨_, by rw [HR2.out]; rfl, hv9⟩, HB2.out⟩)
    · have hge : ((u : Int) < 36028797018963966) := by omega
      have ht : pfT u = 0 := by unfold pfT; rw [if_neg hg]
      have hv : pfV u = u / 2 ^ 0 ||| u % 2 := by unfold pfV; rw [ht]
      have ho : bits .or .u64 (u : Int) ((u : Int) % 2) = ((pfV u : Nat) : Int) := by
        have := u64_or_nat (u / 2 ^ 0) (u % 2) (by omega) (by omega)
        rw [cast_shr] at this
        rw [hv]; simpa using this
      have hor : bits .or .u64 0 ((pfM u : Nat) : Int) = ((pfM u : Nat) : Int) := by
        have := u64_or_nat 0 (pfM u) (by omega) (by omega)
        rw [Nat.zero_or] at this
        exact this
      rw [ht] at HR
      obtain ⟨v, hvv⟩ : ∃ v, pfV u = v := ⟨_, rfl⟩
      have hRn := fun W => round_any v (by omega) W
      have epm : (v + 1 + v / 4 % 2) / 4 = pfM u := by unfold pfM; rw [hvv]
      rw [epm] at hRn
      rw [hvv] at ho
      obtain ⟨m, hm⟩ : ∃ m, pfM u = m := ⟨_, rfl⟩
      rw [hm] at hml HR hor hRn epm
      have hs1 : IntKind.i64.wrap EE = EE := IntWalk.i64_in _ (by omega)
      have hs2 : IntKind.i64.wrap (-EE) = -EE := IntWalk.i64_in _ (by omega)
      obtain ⟨NE, hNE⟩ : ∃ NE : Int, -EE = NE := ⟨_, rfl⟩
      have hs3 : IntKind.i64.wrap (-EE) = NE := hs2.trans hNE
      have HRn := Lib.hid hRn
      have HPk := Lib.hid (pack_any m NE hml (by omega))
      have HR2 := Lib.hid (show F = pkF m NE by rw [← hNE]; have := HR.out; simpa using this)
      clear hs2 hNE
      clear epm HR hRn hm hvv hv ht hg hml hul
      go_upto_region 10 with (first
        | (go_at_call 106; (with_reducible refine (unmin53 _).mono ?_); rintro e w9 ⟨rfl, rfl⟩)
        | (go_at_call 105; (with_reducible refine (bool2i_any _ _).mono ?_); rintro e w9 ⟨rfl, rfl⟩)
        | fail)
      go_upto_region 12 with fail
      clear hs1 ho ha hge
      go_wp2_with (first
        | (go_at_call 108; (with_reducible refine (HRn.out _).mono ?_); rintro e w9 ⟨rfl, rfl⟩)
        | (go_at_call 110; (with_reducible refine (HPk.out _).mono ?_); rintro e w9 ⟨⟨v9, rfl, hv9⟩, rfl⟩)
        | fail)
      all_goals first
        | (exfalso; omega)
        | (go_ret2; exact ⟨⟨_, by rw [HR2.out]; rfl, hv9⟩, HB2.out⟩)
end Go.Proofs.YtbhaigbgembcaaaGreatDoor
