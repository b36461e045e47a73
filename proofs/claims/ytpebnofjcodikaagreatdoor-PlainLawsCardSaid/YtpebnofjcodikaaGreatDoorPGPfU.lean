/- strconv's decimal: shouldRoundUp, RoundedInteger. strconv's decimal: the two loops of floatBits, plainly. A scope in which the run jumps forward, to two labels. -/
import Derived.Test.YtpebnofjcodikaaGreatDoorPGPfR
import Derived.Deep.LoopGhost
import Derived.Scope
import Derived.WalkMore
namespace Go.Proofs.YtpebnofjcodikaaGreatDoor
section
open Go Go.ChangeShapes Go.WideShapes Go.RowKit
set_option linter.unusedVariables false
set_option linter.unusedSimpArgs false
/-- Is it rounded up where it is cut at the point? -/
def sru (s : DS) : Bool :=
  if s.dp < 0 ∨ (s.n : Int) ≤ s.dp then false
  else if dg s.V s.n s.dp.toNat = 5 ∧ s.dp.toNat + 1 = s.n then (if s.tr = true then true else (decide (0 < s.dp.toNat) && decide (dg s.V s.n (s.dp.toNat - 1) % 2 ≠ 0)))
  else decide (5 ≤ dg s.V s.n s.dp.toNat)
set_option maxRecDepth 100000 in
set_option maxHeartbeats 4000000 in
theorem sru_any (b : Nat) (s : DS) (ng : Bool) (w : World) (h8 : s.n ≤ 800) (hdp : -100000 ≤ s.dp ∧ s.dp ≤ 100000) (hM : DM w b s ng) :
    Calls Tryz.prog 218 #[.pointer (some ⟨b, 0, none⟩), .int .i64 s.dp] w fun e w' => e = .returned (.bool (sru s)) ∧ w = w' := by
  obtain ⟨V, n, dp, tr⟩ := s
  obtain ⟨g, hD, hg⟩ := hM.ex
  simp only at h8 hdp hD hg
  have cn := hD.cn
  obtain ⟨R, hR⟩ : ∃ R, sru ⟨V, n, dp, tr⟩ = R := ⟨_, rfl⟩
  rw [hR]
  have hnI : (n : Int) ≤ 800 := by omega
  unfold sru at hR
  simp only at hR
  by_cases h1 : dp < 0 ∨ (n : Int) ≤ dp
  · rw [if_pos h1] at hR
    subst hR
    have hw : dp < 0 ∨ (¬ dp < 0 ∧ (n : Int) ≤ dp) := by omega
    clear hM hD hg h1
    rcases hw with h | ⟨h, h'⟩
    all_goals
      go_enter Tryz.func218, Tryz.ntmps218
      go_wp2_with fail
      go_ret
      exact ⟨rfl, rfl⟩
  · rw [if_neg h1] at hR
    obtain ⟨j, rfl⟩ : ∃ j : Nat, dp = (j : Int) := ⟨dp.toNat, by omega⟩
    have hjn : j < n := by omega
    have hjI : (j : Int) < (n : Int) := by omega
    have hj8 : (j : Int) < 800 := by omega
    have hj0 : (0 : Int) ≤ (j : Int) := by omega
    rw [Int.toNat_natCast] at hR
    have cj := hD.c j (by omega)
    have hgj := hg j hjn
    have ct := hD.ct
    have hd10 := dg_lt V n j
    obtain ⟨x, hx⟩ : ∃ x, g j = x := ⟨_, rfl⟩
    obtain ⟨d, hd⟩ : ∃ d, dg V n j = d := ⟨_, rfl⟩
    rw [hx] at cj hgj
    rw [hd] at hgj hR hd10
    by_cases h5 : d = 5
    · have hx5 : (x : Int) = 53 := by omega
      by_cases hjl : j + 1 = n
      · rw [if_pos ⟨h5, hjl⟩] at hR
        have hjlI : (j : Int) + 1 = (n : Int) := by omega
        cases tr with
        | true =>
          rw [if_pos rfl] at hR
          subst hR
          clear hM hD hg h1 hgj hx hd hd10 hjl
          go_enter Tryz.func218, Tryz.ntmps218
          go_wp2_with fail
          go_ret
          exact ⟨rfl, rfl⟩
        | false =>
          rw [if_neg (by simp)] at hR
          by_cases hj1 : 0 < j
          · obtain ⟨i, rfl⟩ : ∃ i, j = i + 1 := ⟨j - 1, by omega⟩
            have ci := hD.c i (by omega)
            have hgi := hg i (by omega)
            have hi10 := dg_lt V n i
            rw [show i + 1 - 1 = i by omega] at hR
            obtain ⟨y, hy⟩ : ∃ y, g i = y := ⟨_, rfl⟩
            obtain ⟨q, hq⟩ : ∃ q, dg V n i = q := ⟨_, rfl⟩
            rw [hy] at ci hgi
            rw [hq] at hgi hR hi10
            have hy1 : IntKind.u8.wrap ((y : Int) - 48) = (q : Int) := by rw [IntWalk.u8_in _ (by omega)]; omega
            have hw1 : IntKind.i64.wrap (((i + 1 : Nat) : Int) - 1) = (i : Int) := by rw [IntWalk.i64_in _ (by omega)]; omega
            have hi8 : (i : Int) < 800 := by omega
            have hj1I : (0 : Int) < ((i + 1 : Nat) : Int) := by omega
            have HR := Lib.hid (show R = ((q : Int) % 2 != 0) by
              rw [← hR]
              have e1 : decide (0 < i + 1) = true := by simp
              rw [e1, Bool.true_and, Bool.eq_iff_iff, decide_eq_true_eq, bne_iff_ne]; omega)
            clear hM hD hg h1 hgj hx hd hd10 hjl hR hgi hy hq
            go_enter Tryz.func218, Tryz.ntmps218
            go_wp2_with fail
            go_ret
            exact ⟨by rw [HR.out]; rfl, rfl⟩
          · have hj00 : j = 0 := by omega
            subst hj00
            have HR := Lib.hid (show R = false by rw [← hR]; rfl)
            clear hM hD hg h1 hgj hx hd hd10 hjl hR
            go_enter Tryz.func218, Tryz.ntmps218
            go_wp2_with fail
            go_ret
            exact ⟨by rw [HR.out]; rfl, rfl⟩
      · rw [if_neg (fun h => hjl h.2)] at hR
        have hjlI : ¬ (j : Int) + 1 = (n : Int) := by omega
        have HR := Lib.hid (show R = true by rw [← hR, h5]; rfl)
        clear hM hD hg h1 hgj hx hd hd10 hjl hR
        go_enter Tryz.func218, Tryz.ntmps218
        go_wp2_with fail
        go_ret
        exact ⟨by rw [HR.out]; rfl, rfl⟩
    · rw [if_neg (fun h => h5 h.1)] at hR
      have hx5 : ¬ (x : Int) = 53 := by omega
      have HR := Lib.hid (show R = decide ((53 : Int) ≤ (x : Int)) by rw [← hR, decide_eq_decide]; omega)
      clear hM hD hg h1 hgj hx hd hd10 hR h5
      go_enter Tryz.func218, Tryz.ntmps218
      go_wp2_with fail
      go_ret
      exact ⟨by rw [HR.out]; rfl, rfl⟩
/-- The first digits, as a word. -/
def zr (V n r : Nat) : Nat := yr V n r % 18446744073709551616
theorem zr_lt (V n r : Nat) : zr V n r < 18446744073709551616 := Nat.mod_lt _ (by decide)
theorem zr_step {V n r a : Nat} (ha : zr V n r * 10 % 18446744073709551616 = a) : (a + dgz V n r) % 18446744073709551616 = zr V n (r + 1) := by
  unfold zr at *
  rw [yr_step, ← ha]
  omega
/-- The whole part, rounded. -/
def rin (s : DS) : Nat := if 20 < s.dp then 18446744073709551615 else (yr s.V s.n s.dp.toNat % 18446744073709551616 + (if sru s = true then 1 else 0)) % 18446744073709551616
theorem wrap_nat (x : Nat) : IntKind.u64.wrap ((x : Nat) : Int) = ((x % 18446744073709551616 : Nat) : Int) := by
  rw [Int.natCast_emod]; rfl
set_option maxRecDepth 100000 in
set_option maxHeartbeats 4000000 in
theorem rin_any (b : Nat) (s : DS) (ng : Bool) (w : World) (h8 : s.n ≤ 800) (hV : s.V < 10 ^ s.n) (hdp : -100000 ≤ s.dp ∧ s.dp ≤ 100000) (hM : DM w b s ng) :
    Calls Tryz.prog 244 #[.pointer (some ⟨b, 0, none⟩)] w fun e w' => e = .returned (.int .u64 ((rin s : Nat) : Int)) ∧ w = w' := by
  have HSR := Lib.hid (sru_any b s ng w h8 hdp hM)
  obtain ⟨u, hu⟩ : ∃ u, sru s = u := ⟨_, rfl⟩
  have hR : rin s = if 20 < s.dp then 18446744073709551615 else (yr s.V s.n s.dp.toNat % 18446744073709551616 + (if u = true then 1 else 0)) % 18446744073709551616 := by unfold rin; rw [hu]
  rw [hu] at HSR
  obtain ⟨R, hRR⟩ : ∃ R, rin s = R := ⟨_, rfl⟩
  rw [hRR] at hR ⊢
  obtain ⟨V, n, dp, tr⟩ := s
  obtain ⟨g, hD, hg⟩ := hM.ex
  simp only at h8 hV hdp hD hg hR HSR
  have cn := hD.cn
  have cd := hD.cd
  have hnI : (n : Int) ≤ 800 := by omega
  clear hu hRR hM
  by_cases h20 : 20 < dp
  · rw [if_pos h20] at hR
    have HR := Lib.hid hR
    clear hR hD hg HSR
    go_enter Tryz.func244, Tryz.ntmps244
    go_wp2_with fail
    go_ret
    exact ⟨by rw [HR.out]; rfl, rfl⟩
  · rw [if_neg h20] at hR
    have HR := Lib.hid hR
    have HD := Lib.hid hD
    have HG := Lib.hid hg
    have HY0 := Lib.hid (yr_zero hV)
    clear hR hD hg hV
    go_enter Tryz.func244, Tryz.ntmps244
    go_wp2_with fail
    go_loopw [3, 4] (fun s3 s4 wr => ∃ r : Nat, s3 = .int .i64 (r : Int) ∧ s4 = .int .u64 ((zr V n r : Nat) : Int) ∧ r ≤ n ∧ (r : Int) ≤ max dp 0 ∧ w = wr) (fun s3 s4 wr => (900 - RowKit.intOf s3).toNat)
    case atStart => exact ⟨0, rfl, by unfold zr; rw [HY0.out]; rfl, by omega, by omega, rfl⟩
    case round =>
      obtain ⟨r, rfl, rfl, hrn, hrd, rfl⟩ := hrel
      have hrI : (r : Int) ≤ 800 := by omega
      by_cases hgo : (r : Int) < dp ∧ r < n
      · obtain ⟨hg1, hg2⟩ := hgo
        have hg2I : (r : Int) < (n : Int) := by omega
        have cr := HD.out.c r (by omega)
        have hgr := HG.out r hg2
        have hd10 := dg_lt V n r
        have hzl := zr_lt V n r
        obtain ⟨a, ha⟩ : ∃ a, zr V n r * 10 % 18446744073709551616 = a := ⟨_, rfl⟩
        have hst := zr_step ha
        rw [show dgz V n r = dg V n r by unfold dgz; rw [if_pos hg2]] at hst
        obtain ⟨x, hx⟩ : ∃ x, g r = x := ⟨_, rfl⟩
        obtain ⟨d, hd⟩ : ∃ d, dg V n r = d := ⟨_, rfl⟩
        rw [hx] at cr hgr
        rw [hd] at hgr hst hd10
        obtain ⟨z, hz⟩ : ∃ z, zr V n r = z := ⟨_, rfl⟩
        obtain ⟨z2, hz2⟩ : ∃ z, zr V n (r + 1) = z := ⟨_, rfl⟩
        rw [hz] at ha ⊢
        rw [hz2] at hst
        have H1 := Lib.hid (show IntKind.u64.wrap ((z : Int) * 10) = (a : Int) by rw [← ha, ← wrap_nat]; push_cast; rfl)
        have H2 := Lib.hid (show IntKind.u8.wrap ((x : Int) - 48) = (d : Int) by rw [IntWalk.u8_in _ (by omega)]; omega)
        have H3 := Lib.hid (show IntKind.u64.wrap ((a : Int) + (d : Int)) = (z2 : Int) by rw [← hst, ← wrap_nat]; push_cast; rfl)
        have HZ2 := Lib.hid hz2
        have hd9 : (d : Int) ≤ 9 := by omega
        clear ha hst hgr hx hd hd10 hz hz2 hzl
        go_upto_region 8 with fail
        have h1 := H1.out
        have h2 := H2.out
        have h3 := H3.out
        go_wp2_with fail
        exact ⟨⟨r + 1, by congr 1, by rw [HZ2.out], by omega, by omega, trivial⟩, by simp only [RowKit.intOf]; omega⟩
      · have hway : (¬ (r : Int) < dp ∧ dp ≤ (r : Int)) ∨ ((r : Int) < dp ∧ ¬ (r : Int) < (n : Int) ∧ n ≤ r) := by omega
        have hstop : n ≤ r ∨ dp ≤ (r : Int) := by omega
        clear hgo
        rcases hway with ⟨hw1, hw9⟩ | ⟨hw1, hw2, hw9⟩
        all_goals
          clear hw9
          go_wp2_with fail
          go_loopw [3, 4] (fun s3 s4 wr => ∃ i : Nat, s3 = .int .i64 (i : Int) ∧ s4 = .int .u64 ((zr V n i : Nat) : Int) ∧ (n ≤ i ∨ dp ≤ (i : Int)) ∧ (i : Int) ≤ max dp 0 ∧ w = wr) (fun s3 s4 wr => (900 - RowKit.intOf s3).toNat)
          case atStart => exact ⟨r, rfl, rfl, hstop, hrd, rfl⟩
          case round =>
            clear hw1
            obtain ⟨i, rfl, rfl, hin, hid, rfl⟩ := hrel
            have hiI : (i : Int) ≤ 100 := by omega
            by_cases hgo : (i : Int) < dp
            · have hni : n ≤ i := by omega
              have hzl := zr_lt V n i
              obtain ⟨a, ha⟩ : ∃ a, zr V n i * 10 % 18446744073709551616 = a := ⟨_, rfl⟩
              have hst := zr_step ha
              rw [show dgz V n i = 0 by unfold dgz; rw [if_neg (by omega)], Nat.add_zero] at hst
              obtain ⟨z, hz⟩ : ∃ z, zr V n i = z := ⟨_, rfl⟩
              obtain ⟨z2, hz2⟩ : ∃ z, zr V n (i + 1) = z := ⟨_, rfl⟩
              rw [hz] at ha hzl ⊢
              rw [hz2] at hst
              have haz : a = z2 := by rw [← hst]; omega
              have H1 := Lib.hid (show IntKind.u64.wrap ((z : Int) * 10) = (z2 : Int) by rw [← haz, ← ha, ← wrap_nat]; push_cast; rfl)
              have HZ2 := Lib.hid hz2
              clear ha hst hz hz2 hzl haz
              go_upto_region 11 with fail
              have h1 := H1.out
              go_wp2_with fail
              exact ⟨⟨i + 1, by congr 1, by rw [HZ2.out], by omega, by omega, trivial⟩, by simp only [RowKit.intOf]; omega⟩
            · have hiE : i = dp.toNat := by omega
              have HRZ := Lib.hid (show R = (zr V n i + (if u = true then 1 else 0)) % 18446744073709551616 by rw [HR.out, hiE]; rfl)
              obtain ⟨z, hz⟩ : ∃ z, zr V n i = z := ⟨_, rfl⟩
              have hzl := zr_lt V n i
              rw [hz] at HRZ hzl ⊢
              clear hiE hz
              cases u with
              | true =>
                have H1 := Lib.hid (show IntKind.u64.wrap ((z : Int) + 1) = (R : Int) by rw [HRZ.out, if_pos rfl, ← wrap_nat]; push_cast; rfl)
                clear hzl
                go_upto_region 13 with (first
                  | (go_at_call 218; (with_reducible refine HSR.out.mono ?_); rintro e w9 ⟨rfl, rfl⟩)
                  | fail)
                have h1 := H1.out
                go_wp2_with fail
                go_ret
                exact ⟨rfl, rfl⟩
              | false =>
                have hRz : R = z := by rw [HRZ.out, if_neg (by simp), Nat.add_zero, Nat.mod_eq_of_lt hzl]
                subst hRz
                clear hzl
                go_wp2_with (first
                  | (go_at_call 218; (with_reducible refine HSR.out.mono ?_); rintro e w9 ⟨rfl, rfl⟩)
                  | fail)
                go_ret
                exact ⟨rfl, rfl⟩
end
section
open Go
set_option linter.unusedVariables false
set_option linter.unusedSimpArgs false
def itr {α : Type} (f : α → α) : Nat → α → α
  | 0, x => x
  | n + 1, x => itr f n (f x)
open Classical in
/-- As long as it runs; d where that has no end. -/
noncomputable def whl {α : Type} (run : α → Bool) (f : α → α) (d x : α) : α :=
  if h : ∃ n, run (itr f n x) = false then itr f (Classical.choose (exists_least h)) x else d
theorem whl_stop {α : Type} {run : α → Bool} {f : α → α} {d x : α} (h : run x = false) : whl run f d x = x := by
  have h1 : ∃ n, run (itr f n x) = false := ⟨0, h⟩
  unfold whl
  rw [dif_pos h1]
  have h2 := (Classical.choose_spec (exists_least h1)).2 0 h
  rw [show Classical.choose (exists_least h1) = 0 by omega]
  rfl
theorem whl_go {α : Type} {run : α → Bool} {f : α → α} {d x : α} (h : run x = true) : whl run f d x = whl run f d (f x) := by
  unfold whl
  by_cases h2 : ∃ n, run (itr f n (f x)) = false
  · have h1 : ∃ n, run (itr f n x) = false := by obtain ⟨n, hn⟩ := h2; exact ⟨n + 1, hn⟩
    rw [dif_pos h1, dif_pos h2]
    obtain ⟨a1, a2⟩ := Classical.choose_spec (exists_least h1)
    obtain ⟨b1, b2⟩ := Classical.choose_spec (exists_least h2)
    have e1 := a2 (Classical.choose (exists_least h2) + 1) b1
    have e0 : Classical.choose (exists_least h1) ≠ 0 := by
      intro hc
      rw [hc] at a1
      have : run x = false := a1
      rw [h] at this
      exact absurd this (by decide)
    obtain ⟨m, hm⟩ : ∃ m, Classical.choose (exists_least h1) = m + 1 := ⟨Classical.choose (exists_least h1) - 1, by omega⟩
    rw [hm] at a1 e1 ⊢
    have e2 := b2 m a1
    rw [show Classical.choose (exists_least h2) = m by omega]
    rfl
  · have h1 : ¬ ∃ n, run (itr f n x) = false := by
      rintro ⟨n, hn⟩
      cases n with
      | zero => have : run x = false := hn; rw [h] at this; exact absurd this (by decide)
      | succ n => exact h2 ⟨n, hn⟩
    rw [dif_neg h1, dif_neg h2]
/-- The table of powers, and 27 behind it. -/
def pwT : List Nat := [1, 3, 6, 9, 13, 16, 19, 23, 26]
def pw (i : Nat) : Nat := if 9 ≤ i then 27 else pwT.getD i 0
theorem pw_in (i : Nat) : 1 ≤ pw i ∧ pw i ≤ 27 := by
  unfold pw
  by_cases h : 9 ≤ i
  · rw [if_pos h]; omega
  · rw [if_neg h]
    have : ∀ i : Nat, i < 9 → 1 ≤ pwT.getD i 0 ∧ pwT.getD i 0 ≤ 27 := by decide
    exact this i (by omega)
theorem pow_le {a b : Nat} (h : a ≤ b) : (10 : Nat) ^ a ≤ 10 ^ b := Nat.pow_le_pow_right (by decide) h
theorem yr_trim (V n r : Nat) (dp : Int) (tr : Bool) : yr (trimS ⟨V, n, dp, tr⟩).V (trimS ⟨V, n, dp, tr⟩).n r = yr V n r := by
  unfold trimS yr
  simp only
  have h1 := trimP_val n V
  have h2 := trimP_le n V
  generalize (trimP V n).1 = A at *
  generalize (trimP V n).2 = m at *
  have e : (10 : Nat) ^ n = 10 ^ m * 10 ^ (n - m) := by rw [← Nat.pow_add]; congr 1; omega
  rw [← h1, e, show A * 10 ^ (n - m) * 10 ^ r = A * 10 ^ r * 10 ^ (n - m) by simp only [Nat.mul_assoc, Nat.mul_comm, Nat.mul_left_comm], Nat.mul_div_mul_right _ _ (Nat.pow_pos (by decide))]
theorem yr_cut_le (T L r : Nat) : yr (cutV T L) (cutN L) r ≤ yr T L r := by
  unfold yr cutV cutN
  by_cases h8 : L ≤ cK
  · rw [Nat.min_eq_left h8, show L - cK = 0 by omega, Nat.pow_zero, Nat.div_one]; exact Nat.le_refl _
  · rw [Nat.min_eq_right (by omega)]
    obtain ⟨d, rfl⟩ : ∃ d, L = cK + d := ⟨L - cK, by omega⟩
    rw [Nat.add_sub_cancel_left, Nat.le_div_iff_mul_le (Nat.pow_pos (by decide)), Nat.pow_add, ← Nat.mul_assoc]
    have h1 := Nat.div_mul_le_self (T / 10 ^ d * 10 ^ r) (10 ^ cK)
    have h2 := Nat.div_mul_le_self T (10 ^ d)
    have h3 : T / 10 ^ d * 10 ^ r * 10 ^ d ≤ T * 10 ^ r := by
      rw [Nat.mul_right_comm]; exact Nat.mul_le_mul_right _ h2
    exact Nat.le_trans (Nat.mul_le_mul_right _ h1) h3
theorem yr_cut_eq {T L r : Nat} (hr : r ≤ 800) : yr (cutV T L) (cutN L) r = yr T L r := by
  have hK := cK_eq
  by_cases h8 : L ≤ cK
  · unfold yr cutV cutN
    rw [Nat.min_eq_left h8, show L - cK = 0 by omega, Nat.pow_zero, Nat.div_one]
  · have e : cutN L = cK := by unfold cutN; omega
    rw [e, yr_tp (by omega), yr_tp (by omega)]
    unfold tp cutV
    rw [Nat.div_div_eq_div_mul, ← Nat.pow_add]
    congr 2; omega
theorem yr_lt {V n r : Nat} (h : V < 10 ^ n) : yr V n r < 10 ^ r := by
  unfold yr
  rw [Nat.div_lt_iff_lt_mul (Nat.pow_pos (by decide)), Nat.mul_comm (10 ^ r)]
  exact Nat.mul_lt_mul_of_pos_right h (Nat.pow_pos (by decide))
theorem yr_ge {V n r : Nat} (h : 10 ^ (n - 1) ≤ V) (hn : 1 ≤ n) (hr : 1 ≤ r) : 10 ^ (r - 1) ≤ yr V n r := by
  unfold yr
  rw [Nat.le_div_iff_mul_le (Nat.pow_pos (by decide)), ← Nat.pow_add, show r - 1 + n = (n - 1) + r by omega, Nat.pow_add]
  exact Nat.mul_le_mul_right _ h
/-- Shifted to the right: no more than the number divided. -/
theorem rsh_val {k : Nat} {s : DS} (h : Nrm s) (r : Nat) (hr : 1 ≤ r) : yr (rsh k s).V (rsh k s).n r ≤ yr s.V s.n (r + rR s.V s.n k - 1) / 2 ^ k := by
  obtain ⟨b1, b2, b3, b4⟩ := rE_spec (k := k) h.pos h.hi
  obtain ⟨c1, c2, c3, c4⟩ := rR_spec (k := k) h.pos h.hi
  unfold rsh
  rw [yr_trim]
  refine Nat.le_trans (yr_cut_le _ _ _) ?_
  have hO : rO s.V s.n k * (10 * 2 ^ k) = s.V * 10 ^ (rE s.V s.n k - s.n) := by
    rw [← yr_far b2]
    unfold rO
    exact Nat.div_mul_cancel (Nat.dvd_of_mod_eq_zero b1)
  unfold rW
  generalize rO s.V s.n k = O at *
  generalize rE s.V s.n k = E at *
  generalize rR s.V s.n k = R at *
  generalize s.V = V at *
  generalize s.n = n at *
  rw [Nat.le_div_iff_mul_le (Nat.two_pow_pos k)]
  unfold yr
  rw [Nat.le_div_iff_mul_le (Nat.pow_pos (by decide))]
  have h1 := Nat.div_mul_le_self (O * 10 ^ r) (10 ^ (E - R))
  generalize O * 10 ^ r / 10 ^ (E - R) = X at *
  have hp : 0 < (10 : Nat) ^ (E - R) := Nat.pow_pos (by decide)
  refine Nat.le_of_mul_le_mul_right ?_ hp
  have e1 : X * 2 ^ k * 10 ^ n * 10 ^ (E - R) = X * 10 ^ (E - R) * (2 ^ k * 10 ^ n) := by simp only [Nat.mul_assoc, Nat.mul_comm, Nat.mul_left_comm]
  rw [e1]
  refine Nat.le_trans (Nat.mul_le_mul_right _ h1) (Nat.le_of_eq ?_)
  have e2 : (10 : Nat) ^ r = 10 * 10 ^ (r - 1) := by rw [show r = (r - 1) + 1 by omega, Nat.pow_succ, Nat.mul_comm, Nat.add_sub_cancel]
  have e3 : O * 10 ^ r * (2 ^ k * 10 ^ n) = O * (10 * 2 ^ k) * (10 ^ (r - 1) * 10 ^ n) := by rw [e2]; simp only [Nat.mul_assoc, Nat.mul_comm, Nat.mul_left_comm]
  rw [e3, hO, Nat.mul_assoc, Nat.mul_assoc]
  congr 1
  rw [← Nat.pow_add, ← Nat.pow_add, ← Nat.pow_add]
  congr 1; omega
/-- Shifted to the left: no less than the number times as much. -/
theorem lsh_val {k : Nat} {s : DS} (r : Nat) (hr : r + nu s.V s.n k ≤ 800) : 2 ^ k * yr s.V s.n r ≤ yr (lsh k s).V (lsh k s).n (r + nu s.V s.n k) := by
  unfold lsh
  rw [yr_trim, yr_cut_eq hr]
  generalize nu s.V s.n k = u
  generalize s.V = V
  generalize s.n = n
  unfold yr
  rw [Nat.pow_add, Nat.pow_add, ← Nat.mul_assoc, Nat.mul_div_mul_right _ _ (Nat.pow_pos (by decide)), Nat.le_div_iff_mul_le (Nat.pow_pos (by decide)), Nat.mul_assoc]
  have h1 := Nat.div_mul_le_self (V * 10 ^ r) (10 ^ n)
  have h2 := Nat.mul_le_mul_left (2 ^ k) h1
  rw [show V * 2 ^ k * 10 ^ r = 2 ^ k * (V * 10 ^ r) by simp only [Nat.mul_assoc, Nat.mul_comm, Nat.mul_left_comm]]
  exact h2
theorem rR_low {k V n : Nat} (hk : k ≤ 27) (hV : 1 ≤ V) (h1 : 10 ^ (n - 1) ≤ V) (hn : 1 ≤ n) : rR V n k ≤ 10 := by
  obtain ⟨a1, a2, a3, a4⟩ := fr_spec (V := V) (n := n) (k := k) hV (n + k + 1) 0 (by omega) (by omega) (fun i hi => absurd hi (by omega))
  refine Nat.le_of_not_lt fun hc => ?_
  have h2 := a4 10 hc
  have h3 := yr_ge (r := 10) h1 hn (by omega)
  have h4 : (2 : Nat) ^ k ≤ 2 ^ 27 := Nat.pow_le_pow_right (by decide) hk
  have h5 : (2 : Nat) ^ 27 < 10 ^ (10 - 1) := by decide
  omega
@[irreducible] def mN (a b : Nat) : Nat := a * b
theorem mN_eq (a b : Nat) : mN a b = a * b := by unfold mN; rfl
theorem pow_lt_mN {a b n : Nat} (h : 10 ^ a < 2 ^ b) (hn : n ≠ 0) : (10 ^ a) ^ n < 2 ^ mN b n := by
  rw [mN_eq, Nat.pow_mul]; exact Nat.pow_lt_pow_left h hn
theorem pow_le_mN {a n r : Nat} (h : r ≤ mN a n) : 10 ^ r ≤ (10 ^ a) ^ n := by
  rw [← Nat.pow_mul, ← mN_eq]; exact pow_le h
@[irreducible] def p31 : Nat := (10 ^ 31) ^ 10
@[irreducible] def p40 : Nat := (10 ^ 40) ^ 10
theorem p31_lt : p31 < 2 ^ mN 103 10 := by unfold p31; exact pow_lt_mN (by decide +kernel) (by decide)
theorem p40_lt : p40 < 2 ^ mN 133 10 := by unfold p40; exact pow_lt_mN (by decide +kernel) (by decide)
theorem p31_ge {r : Nat} (h : r ≤ 310) : 10 ^ r ≤ p31 := by unfold p31; exact pow_le_mN (by rw [mN_eq]; omega)
theorem p40_ge {r : Nat} (h : r ≤ 400) : 10 ^ r ≤ p40 := by unfold p40; exact pow_le_mN (by rw [mN_eq]; omega)
theorem pow_in {a b B : Nat} (h : 2 ^ a ≤ B) (hB : B < 2 ^ b) : a < b := (Nat.pow_lt_pow_iff_right (by decide)).1 (Nat.lt_of_le_of_lt h hB)
/-- How much stands ahead of the point. -/
def wh (s : DS) : Nat := yr s.V s.n s.dp.toNat
/-- Ahead of the place 400. -/
def fw (s : DS) : Nat := yr s.V s.n (s.dp + 400).toNat
def runA (x : DS × Int) : Bool := decide (0 < x.1.dp)
def fA (x : DS × Int) : DS × Int := (rsh (pw x.1.dp.toNat) x.1, x.2 + (pw x.1.dp.toNat : Nat))
def runB (x : DS × Int) : Bool := decide (x.1.dp < 0) || (decide (x.1.dp = 0) && decide (dg x.1.V x.1.n 0 < 5))
def fB (x : DS × Int) : DS × Int := (lsh (pw (-x.1.dp).toNat) x.1, x.2 - (pw (-x.1.dp).toNat : Nat))
/-- What holds in the first loop. -/
structure IA (x : DS × Int) : Prop where
  nr : Nrm x.1
  d : -330 ≤ x.1.dp ∧ x.1.dp ≤ 310
  e : 0 ≤ x.2 ∧ x.2 ≤ 1057
  b : 2 ^ x.2.toNat * wh x.1 ≤ p31
theorem IA.start {s : DS} (h : Nrm s) (hd : -330 ≤ s.dp ∧ s.dp ≤ 310) : IA (s, 0) := by
  refine ⟨h, hd, by simp, ?_⟩
  have h1 := yr_lt (r := s.dp.toNat) h.hi
  have h2 := p31_ge (r := s.dp.toNat) (by omega)
  simp only [Int.toNat_zero, Nat.pow_zero, Nat.one_mul]
  unfold wh
  omega
theorem wh_pos {s : DS} (h : Nrm s) (hd : 0 < s.dp) : 1 ≤ wh s := by
  have := yr_ge (r := s.dp.toNat) h.lo h.n1 (by omega)
  have h1 : 0 < (10 : Nat) ^ (s.dp.toNat - 1) := Nat.pow_pos (by decide)
  unfold wh
  omega
theorem IA.step {x : DS × Int} (h : IA x) (hr : runA x = true) : IA (fA x) ∧ wh (fA x).1 < wh x.1 := by
  obtain ⟨s, e⟩ := x
  have hd : 0 < s.dp := by unfold runA at hr; simpa using hr
  obtain ⟨hn, hd2, he, hb⟩ := h
  simp only at hn hd2 he hb
  have hp := pw_in s.dp.toNat
  unfold fA
  simp only
  generalize pw s.dp.toNat = k at *
  have h1 := wh_pos hn hd
  obtain ⟨a1, a2⟩ := rsh_nrm (k := k) hn
  have a3 := rR_spec (k := k) hn.pos hn.hi
  have a4 := rR_low hp.2 hn.pos hn.lo hn.n1
  have hw : wh (rsh k s) ≤ wh s / 2 ^ k := by
    unfold wh
    by_cases h0 : (rsh k s).dp ≤ 0
    · rw [show (rsh k s).dp.toNat = 0 by omega, yr_zero a1.hi]; exact Nat.zero_le _
    · have := rsh_val (k := k) hn (rsh k s).dp.toNat (by omega)
      rw [show (rsh k s).dp.toNat + rR s.V s.n k - 1 = s.dp.toNat by omega] at this
      exact this
  have h2 : 2 ^ 1 ≤ 2 ^ k := Nat.pow_le_pow_right (by decide) hp.1
  have h3 := Nat.div_mul_le_self (wh s) (2 ^ k)
  have h4 : wh (rsh k s) * 2 ^ k ≤ wh s := Nat.le_trans (Nat.mul_le_mul_right _ hw) h3
  have h5 : wh (rsh k s) * 2 ≤ wh s := Nat.le_trans (Nat.mul_le_mul_left _ h2) h4
  have h6 : 2 ^ e.toNat ≤ p31 := Nat.le_trans (Nat.le_mul_of_pos_right _ h1) hb
  have h7 := pow_in h6 p31_lt
  rw [mN_eq] at h7
  refine ⟨⟨a1, by simp only; omega, (show 0 ≤ e + (k : Int) ∧ e + (k : Int) ≤ 1057 by omega), ?_⟩, by omega⟩
  simp only
  rw [show (e + (k : Int)).toNat = e.toNat + k by omega, Nat.pow_add, Nat.mul_assoc, Nat.mul_comm (2 ^ k)]
  exact Nat.le_trans (Nat.mul_le_mul_left _ h4) hb
/-- What holds in the second loop, begun at e1. -/
structure IB (e1 : Int) (x : DS × Int) : Prop where
  nr : Nrm x.1
  d : -330 ≤ x.1.dp ∧ x.1.dp ≤ 19
  e : x.2 ≤ e1 ∧ e1 - 1357 ≤ x.2
  b : 2 ^ (e1 - x.2).toNat ≤ fw x.1
theorem IB.start {s : DS} {e : Int} (h : Nrm s) (hd : -330 ≤ s.dp ∧ s.dp ≤ 0) : IB e (s, e) := by
  refine ⟨h, by simp only; omega, by simp only; omega, ?_⟩
  simp only
  rw [Int.sub_self, Int.toNat_zero, Nat.pow_zero]
  have := yr_ge (r := (s.dp + 400).toNat) h.lo h.n1 (by omega)
  have h1 : 0 < (10 : Nat) ^ ((s.dp + 400).toNat - 1) := Nat.pow_pos (by decide)
  unfold fw
  omega
theorem IB.step {e1 : Int} {x : DS × Int} (h : IB e1 x) (hr : runB x = true) : IB e1 (fB x) ∧ fw x.1 < p40 ∧ fw x.1 < fw (fB x).1 := by
  obtain ⟨s, e⟩ := x
  have hd : s.dp ≤ 0 := by
    unfold runB at hr
    simp only [Bool.or_eq_true, Bool.and_eq_true, decide_eq_true_eq] at hr
    omega
  obtain ⟨hn, hd2, he, hb⟩ := h
  simp only at hn hd2 he hb
  have hp := pw_in (-s.dp).toNat
  unfold fB
  simp only
  generalize pw (-s.dp).toNat = k at *
  obtain ⟨a1, a2⟩ := lsh_nrm (k := k) hn hp.1 (by omega)
  have a3 := nu_le (V := s.V) (n := s.n) (k := k) hp.1 (by omega)
  have hw : 2 ^ k * fw s ≤ fw (lsh k s) := by
    have := lsh_val (k := k) (s := s) (s.dp + 400).toNat (by omega)
    rw [show (s.dp + 400).toNat + nu s.V s.n k = ((lsh k s).dp + 400).toNat by omega] at this
    exact this
  have h1 : fw s < p40 := Nat.lt_of_lt_of_le (yr_lt hn.hi) (p40_ge (by omega))
  have h0 : 1 ≤ fw s := Nat.le_trans (Nat.two_pow_pos _) hb
  have h2 : 2 ^ 1 ≤ 2 ^ k := Nat.pow_le_pow_right (by decide) hp.1
  have h3 : 2 * fw s ≤ 2 ^ k * fw s := Nat.mul_le_mul_right _ h2
  have h7 := pow_in hb (Nat.lt_trans h1 p40_lt)
  rw [mN_eq] at h7
  refine ⟨⟨a1, by simp only; omega, by simp only; omega, ?_⟩, h1, by omega⟩
  simp only
  rw [show (e1 - (e - (k : Int))).toNat = (e1 - e).toNat + k by omega, Nat.pow_add, Nat.mul_comm]
  exact Nat.le_trans (Nat.mul_le_mul_left _ hb) hw
end
section
open Go
set_option linter.unusedVariables false
/-- By a goto to label l: J; else as Q. -/
def onGo (l : Nat) (J : Act → World → Prop) (Q : Exit → Act → World → Prop) : Exit → Act → World → Prop
  | .goto l', a, w => if l' = l then J a w else Q (.goto l') a w
  | e, a, w => Q e a w
section
variable {P : Program} {a : Act} {w : World} {Q : Exit → Act → World → Prop} {l : Nat} {J : Act → World → Prop}
@[go_sem] theorem onGo_normal : onGo l J Q .normal a w = Q .normal a w := rfl
@[go_sem] theorem onGo_exit (id : Nat) : onGo l J Q (.exit id) a w = Q (.exit id) a w := rfl
@[go_sem] theorem onGo_ret : onGo l J Q .ret a w = Q .ret a w := rfl
@[go_sem] theorem onGo_panic (ch : List PanicEntry) : onGo l J Q (.panic ch) a w = Q (.panic ch) a w := rfl
@[go_sem] theorem onGo_goto (l' : Nat) : onGo l J Q (.goto l') a w = if l' = l then J a w else Q (.goto l') a w := rfl
/-- Two labels, 1 ahead of 0: the jump to each is the walk of what stands behind it. -/
theorem wp_scope_fwd2 {c r0 r1 : Code} (h0 : findLabel c 0 = some r0) (h1 : findLabel c 1 = some r1)
    (h : ∀ J1 J0 : Act → World → Prop, (∀ a w, r1.wp P (onGo 0 J0 (Exit.noGoto Q)) a w → J1 a w) → (∀ a w, r0.wp P (Exit.noGoto Q) a w → J0 a w) → c.wp P (onGo 1 J1 (onGo 0 J0 (Exit.noGoto Q))) a w) :
    (Code.scope c).wp P Q a w := by
  have hc := h (fun a w => r1.wp P (onGo 0 (fun a w => r0.wp P (Exit.noGoto Q) a w) (Exit.noGoto Q)) a w) (fun a w => r0.wp P (Exit.noGoto Q) a w) (fun _ _ x => x) (fun _ _ x => x)
  intro b k cs
  have g0 : gotoIn 0 (.inScope c :: k) = some (.code r0 :: .inScope c :: k) := by simp [gotoIn, h0]
  have g1 : gotoIn 1 (.inScope c :: k) = some (.code r1 :: .inScope c :: k) := by simp [gotoIn, h1]
  have k0 : ∀ a w, r0.wp P (Exit.noGoto Q) a w → ∃ e a' w', Q e a' w' ∧ Arrives P (lone (b.at a (.code r0 :: .inScope c :: k)) cs w) b k cs e a' w' := by
    intro a w hw
    obtain ⟨e, a₁, w₁, hq, harr⟩ := hw b (.inScope c :: k) cs
    cases e with
    | normal => exact ⟨.normal, a₁, w₁, hq, Steps.trans harr (.one step_inScope)⟩
    | exit id => exact ⟨.exit id, a₁, w₁, hq, fun k' hk => harr k' (by simp [exitTo, hk])⟩
    | goto l' => exact hq.elim
    | ret => exact ⟨_, a₁, w₁, hq, harr⟩
    | panic ch => exact ⟨_, a₁, w₁, hq, harr⟩
    | outgrown => exact ⟨_, a₁, w₁, hq, harr⟩
  have k1 : ∀ a w, r1.wp P (onGo 0 (fun a w => r0.wp P (Exit.noGoto Q) a w) (Exit.noGoto Q)) a w → ∃ e a' w', Q e a' w' ∧ Arrives P (lone (b.at a (.code r1 :: .inScope c :: k)) cs w) b k cs e a' w' := by
    intro a w hw
    obtain ⟨e, a₁, w₁, hq, harr⟩ := hw b (.inScope c :: k) cs
    cases e with
    | normal => exact ⟨.normal, a₁, w₁, hq, Steps.trans harr (.one step_inScope)⟩
    | exit id => exact ⟨.exit id, a₁, w₁, hq, fun k' hk => harr k' (by simp [exitTo, hk])⟩
    | goto l' =>
      rw [onGo_goto] at hq
      by_cases hl : l' = 0
      · subst hl
        rw [if_pos rfl] at hq
        obtain ⟨e₂, a₂, w₂, hq₂, harr₂⟩ := k0 a₁ w₁ hq
        exact ⟨e₂, a₂, w₂, hq₂, .of_steps (harr _ g0) harr₂⟩
      · rw [if_neg hl] at hq; exact hq.elim
    | ret => exact ⟨_, a₁, w₁, hq, harr⟩
    | panic ch => exact ⟨_, a₁, w₁, hq, harr⟩
    | outgrown => exact ⟨_, a₁, w₁, hq, harr⟩
  obtain ⟨e, a₁, w₁, hq, harr⟩ := hc b (.inScope c :: k) cs
  cases e with
  | normal => exact ⟨.normal, a₁, w₁, hq, .head step_scope (Steps.trans harr (.one step_inScope))⟩
  | exit id => exact ⟨.exit id, a₁, w₁, hq, fun k' hk => .head step_scope (harr k' (by simp [exitTo, hk]))⟩
  | goto l' =>
    rw [onGo_goto] at hq
    by_cases hl : l' = 1
    · subst hl
      rw [if_pos rfl] at hq
      obtain ⟨e₂, a₂, w₂, hq₂, harr₂⟩ := k1 a₁ w₁ hq
      exact ⟨e₂, a₂, w₂, hq₂, .of_steps (.head step_scope (harr _ g1)) harr₂⟩
    · rw [if_neg hl, onGo_goto] at hq
      by_cases hl0 : l' = 0
      · subst hl0
        rw [if_pos rfl] at hq
        obtain ⟨e₂, a₂, w₂, hq₂, harr₂⟩ := k0 a₁ w₁ hq
        exact ⟨e₂, a₂, w₂, hq₂, .of_steps (.head step_scope (harr _ g0)) harr₂⟩
      · rw [if_neg hl0] at hq; exact hq.elim
  | ret => exact ⟨_, a₁, w₁, hq, .of_steps (.one step_scope) harr⟩
  | panic ch => exact ⟨_, a₁, w₁, hq, .of_steps (.one step_scope) harr⟩
  | outgrown => exact ⟨_, a₁, w₁, hq, .of_steps (.one step_scope) harr⟩
end
end
end Go.Proofs.YtpebnofjcodikaaGreatDoor
