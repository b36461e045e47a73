/- The hash of a float: the document's. -/
import Derived.Test.YthcijdlkaoppnaaGreatDoorPRlK
namespace Go.Proofs.YthcijdlkaoppnaaGreatDoor
open Go Go.ChangeShapes Go.WideShapes Go.RowKit
set_option linter.unusedVariables false
set_option linter.unusedSimpArgs false
theorem db_back {M p k d : Nat} (h : d = db M (p - (k + 1))) (hk : k + 1 ≤ p) : d * 2 % 2147483647 = db M (p - k) := by
  rw [h, ← db_step, show p - (k + 1) + 1 = p - k by omega]
theorem u64_mul2 (d : Nat) : Value.int IntKind.u64 ((d : Int) * 2 % 2147483647) = Value.int IntKind.u64 ((d * 2 % 2147483647 : Nat) : Int) := by
  congr 1
set_option maxRecDepth 100000 in
theorem rhash_any (b : Nat) (hb : b < 18446744073709551616) (w : World) : Calls Tryz.prog 6 #[.int .u64 (b : Int)] w fun e w' => e = .returned (.int .i64 (hashV b)) ∧ w = w' := by
  have HV := Lib.hid (show hashV b = if nanB b = true then 0 else if infB b = true then (if negB b = true then -314159 else 314159) else if negB b = true then -((hsB b : Nat) : Int) else ((hsB b : Nat) : Int) from rfl)
  have HNn := Lib.hid (fun W => risNaN_any b hb W)
  have HIn := Lib.hid (fun W => risInf_any b hb W)
  have HSg := Lib.hid (fun W => below_anyB b hb W)
  have HPa := Lib.hid (fun W => rparts_any b hb W)
  have HS := Lib.hid (show hsB b = db (manB b) (pwB b) from rfl)
  have HPw := Lib.hid (show exqB b % 31 = ((pwB b : Nat) : Int) by unfold pwB; omega)
  have hp := pw_lt b
  have hml := man_lt b
  have hel := exq_lo b
  obtain ⟨M, hM⟩ : ∃ M, manB b = M := ⟨_, rfl⟩
  obtain ⟨X, hX⟩ : ∃ X, exqB b = X := ⟨_, rfl⟩
  obtain ⟨p, hpp⟩ : ∃ p, pwB b = p := ⟨_, rfl⟩
  obtain ⟨hs, hhs⟩ : ∃ p, hsB b = p := ⟨_, rfl⟩
  rw [hM] at hml HPa HS
  rw [hX] at hel HPa HPw
  rw [hpp] at hp HS HPw
  rw [hhs] at HS HV
  clear hM hX hpp hhs
  obtain ⟨n, hn⟩ : ∃ n, nanB b = n := ⟨_, rfl⟩
  obtain ⟨i, hi⟩ : ∃ i, infB b = i := ⟨_, rfl⟩
  obtain ⟨g, hg⟩ : ∃ g, negB b = g := ⟨_, rfl⟩
  rw [hn] at HNn HV
  rw [hi] at HIn HV
  rw [hg] at HSg HV
  clear hn hi hg
  cases g <;> cases n <;> cases i
  all_goals
    simp only [Bool.false_eq_true, if_false, if_true] at HV
    go_enter Tryz.func6, Tryz.ntmps6
    go_wp2_with (first
      | (go_at_call 17; (with_reducible refine (HSg.out _).mono ?_); rintro e w9 ⟨rfl, rfl⟩)
      | (go_at_call 18; (with_reducible refine (HNn.out _).mono ?_); rintro e w9 ⟨rfl, rfl⟩)
      | (go_at_call 19; (with_reducible refine (HIn.out _).mono ?_); rintro e w9 ⟨rfl, rfl⟩)
      | (go_at_call 20; (with_reducible refine (HPa.out _).mono ?_); rintro e w9 ⟨rfl, rfl⟩)
      | fail)
    try (go_ret; exact ⟨by rw [HV.out]; rfl, rfl⟩)
  all_goals
    go_loopw [5] (fun s5 wr => ∃ y : Int, s5 = .int .i64 y ∧ y % 31 = (p : Int) ∧ -1074 ≤ y ∧ y ≤ 1000 ∧ w = wr) (fun s5 wr => (1000 - RowKit.intOf s5).toNat)
    case atStart => exact ⟨X, rfl, HPw.out, by omega, by omega, rfl⟩
    case round =>
      obtain ⟨y, rfl, hy, hy1, hy2, rfl⟩ := hrel
      have HY := Lib.hid hy
      by_cases hlt : y < 0
      · clear hy
        go_wp2_with fail
        exact ⟨⟨y + 31, by go_num, by have := HY.out; omega, by omega, by omega, trivial⟩, by simp [RowKit.intOf]; omega⟩
      · have ht : y.tmod 31 = (p : Int) := by rw [Int.tmod_eq_emod_of_nonneg (by omega)]; exact hy
        have hm0 : ((M : Int) % 2147483647) = ((db M 0 : Nat) : Int) := by rw [db_zero]; omega
        have HM0 := Lib.hid hm0
        clear hy hm0
        go_wp2_with fail
        go_loopw [6, 7] (fun s6 s7 wx => ∃ (k d : Nat), s7 = .int .i64 k ∧ s6 = .int .u64 d ∧ k ≤ p ∧ d < 2147483647 ∧ d = db M (p - k) ∧ w = wx) (fun s6 s7 wx => (RowKit.intOf s7).toNat)
        case atStart => exact ⟨p, db M 0, rfl, by rw [← HM0.out], Nat.le_refl _, db_lt _ _, by rw [Nat.sub_self], rfl⟩
        case round =>
          obtain ⟨k, d, rfl, rfl, hk, hd, hdb, rfl⟩ := hrel
          have HDB := Lib.hid hdb
          clear hdb
          by_cases hk0 : 0 < k
          · obtain ⟨j, rfl⟩ : ∃ j, k = j + 1 := ⟨k - 1, by omega⟩
            have hk1 : (0 : Int) < ((j + 1 : Nat) : Int) := by omega
            go_wp2_with fail
            exact ⟨⟨j, d * 2 % 2147483647, by go_num, u64_mul2 d, by omega, Nat.mod_lt _ (by decide), db_back HDB.out hk, trivial⟩, by simp [RowKit.intOf]⟩
          · obtain rfl : k = 0 := by omega
            have hdh : d = hs := by rw [HDB.out, Nat.sub_zero, HS.out]
            subst hdh
            go_wp2_with fail
            go_ret
            exact ⟨by rw [HV.out]; simp, rfl⟩
end Go.Proofs.YthcijdlkaoppnaaGreatDoor
