/- strconv's atof64exact. strconv's atof64: its leaves. strconv's atof64: its leaves. -/
import Derived.Test.YtpebnofjcodikaaGreatDoorPGRlA
import Derived.Test.YtpebnofjcodikaaGreatDoorPGRlU
import Derived.Test.YtpebnofjcodikaaGreatDoorPGPfY
import Derived.Test.YtpebnofjcodikaaGreatDoorPGPhA
namespace Go.Proofs.YtpebnofjcodikaaGreatDoor
section
open Go Go.ChangeShapes Go.WideShapes Go.RowKit Ieee
set_option linter.unusedVariables false
set_option linter.unusedSimpArgs false
/-- The table of the exact powers of ten, as floats T. -/
structure F10 (T : Nat → Nat) (w : World) (b : Nat) : Prop where
  ex : ∃ R o c, R < b ∧ 23 ≤ c ∧ w.cell? ⟨18, 0, none⟩ = some (.slice (some ⟨R, o, none⟩) 23 c) ∧ 18 < b ∧ ∀ i, i < 23 → w.cell? ⟨R, o + i, none⟩ = some (.float .f64 (T i))
theorem F10.keep {T : Nat → Nat} {w w' : World} {b : Nat} (h : F10 T w b) (hb : Below b w w') : F10 T w' b := by
  obtain ⟨R, o, c, h1, h2, h3, h4, h5⟩ := h.ex
  exact ⟨R, o, c, h1, h2, (hb.cell (p := ⟨_, _, none⟩) h4).trans h3, h4, fun i hi => (hb.cell (p := ⟨_, _, none⟩) h1).trans (h5 i hi)⟩
theorem near_le (m : Nat) (p : Int) : double.nearest false m p ≤ fIN := by
  unfold Format.nearest
  by_cases h : m = 0
  · rw [if_pos h]; exact Nat.zero_le _
  · rw [if_neg h]
    simp only
    rw [in_d]
    have : ∀ x : Nat, double.word false (min x fIN) ≤ fIN := fun x => Nat.min_le_right x fIN
    exact this _
theorem pos_read {x : Nat} (h : x < fIN) : ∃ m p, double.read x = .number false m p ∧ (0 < x → m ≠ 0) := by
  obtain ⟨p1, p2, p3, p4⟩ := pos_facts h
  rcases read_nn p3 with ⟨h1, _⟩ | ⟨_, m, p, h1, h2⟩
  · unfold infB at h1; rw [p1] at h1; simp at h1; omega
  · rw [p2] at h1
    exact ⟨m, p, h1, fun h0 => h2 (by unfold zeroB; rw [p1]; simp; omega)⟩
theorem mul_le_d {x y : Nat} (hx : x < fIN) (hy : y < fIN) : ∃ z, double.mul x y = some z ∧ z ≤ fIN := by
  obtain ⟨m, p, h1, _⟩ := pos_read hx
  obtain ⟨n, q, h2, _⟩ := pos_read hy
  unfold Format.mul
  rw [h1, h2]
  exact ⟨_, rfl, near_le _ _⟩
theorem div_le_d {x y : Nat} (hx : x < fIN) (hy : y < fIN) (h0 : 0 < y) : ∃ z, double.div x y = some z ∧ z ≤ fIN := by
  obtain ⟨m, p, h1, _⟩ := pos_read hx
  obtain ⟨n, q, h2, h3⟩ := pos_read hy
  unfold Format.div
  rw [h1, h2]
  unfold Datum.quotient
  simp only [if_neg (h3 h0)]
  exact ⟨_, rfl, near_le _ _⟩
theorem foi_lt (m : Nat) (h : m < 4503599627370496) : floatOfInt .f64 (m : Int) < fIN := by
  have hI : fIN = 9218868437227405312 := rfl
  have e0 : floatOfInt .f64 (m : Int) = double.nearest false m 0 := by
    show double.nearest (decide ((m : Int) < 0)) ((m : Int).natAbs) 0 = _
    rw [decide_eq_false (by omega), Int.natAbs_natCast]
  rw [e0]
  by_cases h0 : m = 0
  · subst h0; decide +kernel
  · have hl : m.log2 < 52 := (Nat.log2_lt h0).2 h
    obtain ⟨r, h1, h2⟩ := nearest_int false m (by omega) (fun h3 => by omega)
    rw [h1]
    show min r fIN < fIN
    have hr : r < fIN := by
      rcases Nat.lt_or_ge r fIN with h3 | h3
      · exact h3
      · exfalso
        have h4 : magV fIN ≤ magV r := by
          rcases Nat.lt_or_eq_of_le h3 with h5 | h5
          · exact Nat.le_of_lt (mag_lt h5)
          · rw [h5]; exact Nat.le_refl _
        rw [h2] at h4
        have h5 : m * 2 ^ eK < 4503599627370496 * 2 ^ eK := Nat.mul_lt_mul_of_pos_right h (Nat.two_pow_pos _)
        have h6 : 4503599627370496 * 2 ^ eK ≤ magV fIN := by
          unfold magV
          rw [if_neg (by decide +kernel)]
          exact Nat.mul_le_mul (by omega) (Nat.pow_le_pow_right (by decide) (by rw [eK_eq]; decide +kernel))
        exact Nat.lt_irrefl _ (Nat.lt_of_lt_of_le h5 (Nat.le_trans h6 h4))
    omega
set_option maxRecDepth 100000 in
set_option maxHeartbeats 2000000 in
theorem ex_big (m : Nat) (e : Int) (hm : ¬ m < 4503599627370496) (w : World) (hF : FI w 11 w.heap.size) :
    Calls Tryz.prog 234 #[.int .u64 (m : Int), .int .i64 e, .bool false] w fun r w' => r = .returned (.tuple #[.float .f64 0, .bool false]) ∧ w = w' := by
  have c0 := hF.m
  clear hF
  have hw : ¬ (m : Int) / 4503599627370496 = 0 := by omega
  clear hm
  go_enter Tryz.func234, Tryz.ntmps234
  go_wp2_with fail
  all_goals first
    | (exfalso; omega)
    | (go_ret2; exact ⟨rfl, rfl⟩)
    | (go_ret; exact ⟨rfl, rfl⟩)
set_option maxRecDepth 100000 in
set_option maxHeartbeats 2000000 in
theorem ex_zero (m : Nat) (hm : m < 4503599627370496) (w : World) (hF : FI w 11 w.heap.size) :
    Calls Tryz.prog 234 #[.int .u64 (m : Int), .int .i64 0, .bool false] w fun r w' => r = .returned (.tuple #[.float .f64 (floatOfInt .f64 (m : Int)), .bool true]) ∧ w = w' := by
  have c0 := hF.m
  clear hF
  have hw : (m : Int) / 4503599627370496 = 0 := by omega
  clear hm
  go_enter Tryz.func234, Tryz.ntmps234
  go_wp2_with fail
  all_goals first
    | (exfalso; omega)
    | (go_ret2; exact ⟨rfl, rfl⟩)
    | (go_ret; exact ⟨rfl, rfl⟩)
set_option maxRecDepth 100000 in
set_option maxHeartbeats 2000000 in
theorem ex_far (m : Nat) (hm : m < 4503599627370496) (e : Int) (he : e < -22 ∨ 37 < e) (he2 : -1000 ≤ e ∧ e ≤ 1000) (w : World) (hF : FI w 11 w.heap.size) :
    Calls Tryz.prog 234 #[.int .u64 (m : Int), .int .i64 e, .bool false] w fun r w' => r = .returned (.tuple #[.float .f64 (floatOfInt .f64 (m : Int)), .bool false]) ∧ w = w' := by
  have c0 := hF.m
  clear hF
  have hw : (m : Int) / 4503599627370496 = 0 := by omega
  clear hm
  obtain ⟨e1, e2⟩ := he2
  have e3 : ¬ e = 0 := by omega
  go_enter Tryz.func234, Tryz.ntmps234
  go_wp2_with fail
  all_goals first
    | (exfalso; omega)
    | (go_ret2; exact ⟨rfl, rfl⟩)
    | (go_ret; exact ⟨rfl, rfl⟩)
set_option maxRecDepth 100000 in
set_option maxHeartbeats 2000000 in
theorem ex_c0 (m : Nat) (hm : m < 4503599627370496) (k : Nat) (hk : 0 < k ∧ k ≤ 22) (hg : (FloatKind.f64.format.order (floatOfInt .f64 (m : Int)) 4831355200913801216 == some .gt) = true) (w : World) (hF : FI w 11 w.heap.size) :
    Calls Tryz.prog 234 #[.int .u64 (m : Int), .int .i64 ((k : Nat) : Int), .bool false] w fun r w' => r = .returned (.tuple #[.float .f64 (floatOfInt .f64 (m : Int)), .bool false]) ∧ w = w' := by
  have c0 := hF.m
  clear hF
  have hw : (m : Int) / 4503599627370496 = 0 := by omega
  clear hm
  have k1 : (0 : Int) < (k : Int) := by omega
  have k2 : (k : Int) ≤ 22 := by omega
  have k3 : ¬ (k : Int) = 0 := by omega
  clear hk
  go_enter Tryz.func234, Tryz.ntmps234
  go_wp2_with fail
  all_goals first
    | (exfalso; omega)
    | (go_ret2; exact ⟨rfl, rfl⟩)
    | (go_ret; exact ⟨rfl, rfl⟩)
set_option maxRecDepth 100000 in
set_option maxHeartbeats 2000000 in
theorem ex_c1 (m : Nat) (hm : m < 4503599627370496) (k : Nat) (hk : 0 < k ∧ k ≤ 22) (T : Nat → Nat) (z z2 : Nat) (hg : (FloatKind.f64.format.order (floatOfInt .f64 (m : Int)) 4831355200913801216 == some .gt) = false) (hl : (FloatKind.f64.format.order (floatOfInt .f64 (m : Int)) 14054727237768577024 == some .lt) = false) (hz : Ieee.double.mul (floatOfInt .f64 (m : Int)) (T k) = some z) (w : World) (hT : F10 T w w.heap.size) (hF : FI w 11 w.heap.size) :
    Calls Tryz.prog 234 #[.int .u64 (m : Int), .int .i64 ((k : Nat) : Int), .bool false] w fun r w' => r = .returned (.tuple #[.float .f64 z, .bool true]) ∧ w = w' := by
  have c0 := hF.m
  clear hF
  have hw : (m : Int) / 4503599627370496 = 0 := by omega
  clear hm
  obtain ⟨R, o, c, h1, h2, h3, h4, h5⟩ := hT.ex
  clear hT
  have k1 : (0 : Int) < (k : Int) := by omega
  have k2 : (k : Int) ≤ 22 := by omega
  have k3 : ¬ (k : Int) = 0 := by omega
  have ck := h5 k (by omega)
  have hq : (binOp .mul 88 (.float .f64 (floatOfInt .f64 (m : Int))) (.float .f64 (T k))).run Tryz.prog w = .ok (.float .f64 z) w := run_float_arith w .mul 88 .f64 _ _ _ hz
  clear hk
  go_enter Tryz.func234, Tryz.ntmps234
  go_wp2_with fail
  all_goals first
    | (exfalso; omega)
    | (go_ret2; exact ⟨rfl, rfl⟩)
    | (go_ret; exact ⟨rfl, rfl⟩)
set_option maxRecDepth 100000 in
set_option maxHeartbeats 2000000 in
theorem ex_d0 (m : Nat) (hm : m < 4503599627370496) (k : Nat) (hk : 22 < k ∧ k ≤ 37) (T : Nat → Nat) (z z2 : Nat) (hg : (FloatKind.f64.format.order z 4831355200913801216 == some .gt) = true) (hz : Ieee.double.mul (floatOfInt .f64 (m : Int)) (T (k - 22)) = some z) (w : World) (hT : F10 T w w.heap.size) (hF : FI w 11 w.heap.size) :
    Calls Tryz.prog 234 #[.int .u64 (m : Int), .int .i64 ((k : Nat) : Int), .bool false] w fun r w' => r = .returned (.tuple #[.float .f64 z, .bool false]) ∧ w = w' := by
  have c0 := hF.m
  clear hF
  have hw : (m : Int) / 4503599627370496 = 0 := by omega
  clear hm
  obtain ⟨R, o, c, h1, h2, h3, h4, h5⟩ := hT.ex
  clear hT
  obtain ⟨j, hj⟩ : ∃ j, k = 22 + j := ⟨k - 22, by omega⟩
  subst hj
  have k1 : (0 : Int) < ((22 + j : Nat) : Int) := by omega
  have k2 : ((22 + j : Nat) : Int) ≤ 37 := by omega
  have k3 : ¬ ((22 + j : Nat) : Int) = 0 := by omega
  have k4 : (22 : Int) < ((22 + j : Nat) : Int) := by omega
  have hsb : IntKind.i64.wrap (((22 + j : Nat) : Int) - 22) = (j : Int) := by rw [IntWalk.i64_in _ (by omega)]; omega
  have ck := h5 j (by omega)
  rw [show 22 + j - 22 = j by omega] at hz
  have hq : (binOp .mul 88 (.float .f64 (floatOfInt .f64 (m : Int))) (.float .f64 (T j))).run Tryz.prog w = .ok (.float .f64 z) w := run_float_arith w .mul 88 .f64 _ _ _ hz
  obtain ⟨kk, hkk⟩ : ∃ kk : Int, ((22 + j : Nat) : Int) = kk := ⟨_, rfl⟩
  rw [hkk] at k1 k2 k3 k4 hsb ⊢
  clear hk
  go_enter Tryz.func234, Tryz.ntmps234
  go_wp2_with fail
  all_goals first
    | (exfalso; omega)
    | (go_ret2; exact ⟨rfl, rfl⟩)
    | (go_ret; exact ⟨rfl, rfl⟩)
set_option maxRecDepth 100000 in
set_option maxHeartbeats 2000000 in
theorem ex_d1 (m : Nat) (hm : m < 4503599627370496) (k : Nat) (hk : 22 < k ∧ k ≤ 37) (T : Nat → Nat) (z z2 : Nat) (hg : (FloatKind.f64.format.order z 4831355200913801216 == some .gt) = false) (hl : (FloatKind.f64.format.order z 14054727237768577024 == some .lt) = false) (hz : Ieee.double.mul (floatOfInt .f64 (m : Int)) (T (k - 22)) = some z) (hz2 : Ieee.double.mul z (T 22) = some z2) (w : World) (hT : F10 T w w.heap.size) (hF : FI w 11 w.heap.size) :
    Calls Tryz.prog 234 #[.int .u64 (m : Int), .int .i64 ((k : Nat) : Int), .bool false] w fun r w' => r = .returned (.tuple #[.float .f64 z2, .bool true]) ∧ w = w' := by
  have c0 := hF.m
  clear hF
  have hw : (m : Int) / 4503599627370496 = 0 := by omega
  clear hm
  obtain ⟨R, o, c, h1, h2, h3, h4, h5⟩ := hT.ex
  clear hT
  obtain ⟨j, hj⟩ : ∃ j, k = 22 + j := ⟨k - 22, by omega⟩
  subst hj
  have k1 : (0 : Int) < ((22 + j : Nat) : Int) := by omega
  have k2 : ((22 + j : Nat) : Int) ≤ 37 := by omega
  have k3 : ¬ ((22 + j : Nat) : Int) = 0 := by omega
  have k4 : (22 : Int) < ((22 + j : Nat) : Int) := by omega
  have hsb : IntKind.i64.wrap (((22 + j : Nat) : Int) - 22) = (j : Int) := by rw [IntWalk.i64_in _ (by omega)]; omega
  have ck := h5 j (by omega)
  rw [show 22 + j - 22 = j by omega] at hz
  have hq : (binOp .mul 88 (.float .f64 (floatOfInt .f64 (m : Int))) (.float .f64 (T j))).run Tryz.prog w = .ok (.float .f64 z) w := run_float_arith w .mul 88 .f64 _ _ _ hz
  have hq2 : (binOp .mul 88 (.float .f64 z) (.float .f64 (T 22))).run Tryz.prog w = .ok (.float .f64 z2) w := run_float_arith w .mul 88 .f64 _ _ _ hz2
  have ck2 := h5 22 (by omega)
  obtain ⟨kk, hkk⟩ : ∃ kk : Int, ((22 + j : Nat) : Int) = kk := ⟨_, rfl⟩
  rw [hkk] at k1 k2 k3 k4 hsb ⊢
  clear hk
  go_enter Tryz.func234, Tryz.ntmps234
  go_wp2_with fail
  all_goals first
    | (exfalso; omega)
    | (go_ret2; exact ⟨rfl, rfl⟩)
    | (go_ret; exact ⟨rfl, rfl⟩)
set_option maxRecDepth 100000 in
set_option maxHeartbeats 2000000 in
theorem ex_e1 (m : Nat) (hm : m < 4503599627370496) (k : Nat) (hk : 0 < k ∧ k ≤ 22) (T : Nat → Nat) (z z2 : Nat) (hz : Ieee.double.div (floatOfInt .f64 (m : Int)) (T k) = some z) (w : World) (hT : F10 T w w.heap.size) (hF : FI w 11 w.heap.size) :
    Calls Tryz.prog 234 #[.int .u64 (m : Int), .int .i64 (-((k : Nat) : Int)), .bool false] w fun r w' => r = .returned (.tuple #[.float .f64 z, .bool true]) ∧ w = w' := by
  have c0 := hF.m
  clear hF
  have hw : (m : Int) / 4503599627370496 = 0 := by omega
  clear hm
  obtain ⟨R, o, c, h1, h2, h3, h4, h5⟩ := hT.ex
  clear hT
  have k1 : -(k : Int) < (0 : Int) := by omega
  have k2 : (-22 : Int) ≤ -(k : Int) := by omega
  have k3 : ¬ -(k : Int) = 0 := by omega
  have k4 : ¬ (0 : Int) < -(k : Int) := by omega
  have hsb : IntKind.i64.wrap (-(-(k : Int))) = (k : Int) := by rw [IntWalk.i64_in _ (by omega)]; omega
  have ck := h5 k (by omega)
  have hq : (binOp .quo 88 (.float .f64 (floatOfInt .f64 (m : Int))) (.float .f64 (T k))).run Tryz.prog w = .ok (.float .f64 z) w := run_float_arith w .quo 88 .f64 _ _ _ hz
  obtain ⟨kk, hkk⟩ : ∃ kk : Int, -(k : Int) = kk := ⟨_, rfl⟩
  rw [hkk] at k1 k2 k3 k4 hsb ⊢
  clear hk
  go_enter Tryz.func234, Tryz.ntmps234
  go_wp2_with fail
  all_goals first
    | (exfalso; omega)
    | (go_ret2; exact ⟨rfl, rfl⟩)
    | (go_ret; exact ⟨rfl, rfl⟩)
theorem gt_le {x : Nat} (hx : x ≤ fIN) : (FloatKind.f64.format.order x 4831355200913801216 == some .gt) = decide (4831355200913801216 < x) ∧ (FloatKind.f64.format.order x 14054727237768577024 == some .lt) = false := by
  have hI : fIN = 9218868437227405312 := rfl
  rcases Nat.lt_or_eq_of_le hx with h | h
  · refine ⟨gt_pos h (by omega), ?_⟩
    rw [fmt_double, lt_d (pos_facts h).2.2.1 (by decide +kernel), place_pos h]
    have : placeZ 14054727237768577024 = -4831355200913801216 := by decide +kernel
    rw [this]
    exact decide_eq_false (by omega)
  · rw [h]; decide +kernel
/-- The exact way: what it answers, if it answers, is no NaN and not below 0. -/
theorem exact_any (T : Nat → Nat) (hT : ∀ k, k < 23 → 0 < T k ∧ T k < fIN) (m : Nat) (e : Int) (he : -1000 ≤ e ∧ e ≤ 1000) :
    ∃ x ok, (ok = true → x ≤ fIN) ∧ ∀ w : World, F10 T w w.heap.size → FI w 11 w.heap.size →
      Calls Tryz.prog 234 #[.int .u64 (m : Int), .int .i64 e, .bool false] w fun r w' => r = .returned (.tuple #[.float .f64 x, .bool ok]) ∧ w = w' := by
  by_cases hm : m < 4503599627370496
  · have hf := foi_lt m hm
    have hI : fIN = 9218868437227405312 := rfl
    by_cases h0 : e = 0
    · subst h0
      exact ⟨_, _, fun _ => Nat.le_of_lt hf, fun w h10 hF => ex_zero m hm w hF⟩
    by_cases h1 : e < -22 ∨ 37 < e
    · exact ⟨_, false, by simp, fun w h10 hF => ex_far m hm e h1 he w hF⟩
    by_cases h2 : e < 0
    · obtain ⟨k, rfl⟩ : ∃ k : Nat, e = -((k : Nat) : Int) := ⟨e.natAbs, by omega⟩
      obtain ⟨t0, t1⟩ := hT k (by omega)
      obtain ⟨z, hz, hz2⟩ := div_le_d hf t1 t0
      exact ⟨z, true, fun _ => hz2, fun w h10 hF => ex_e1 m hm k (by omega) T z 0 hz w h10 hF⟩
    obtain ⟨k, rfl⟩ : ∃ k : Nat, e = ((k : Nat) : Int) := ⟨e.toNat, by omega⟩
    by_cases h3 : k ≤ 22
    · obtain ⟨t0, t1⟩ := hT k (by omega)
      obtain ⟨g1, g2⟩ := gt_le (Nat.le_of_lt hf)
      by_cases h4 : 4831355200913801216 < floatOfInt .f64 (m : Int)
      · exact ⟨_, false, by simp, fun w h10 hF => ex_c0 m hm k (by omega) (by rw [g1]; exact decide_eq_true h4) w hF⟩
      · obtain ⟨z, hz, hz2⟩ := mul_le_d hf t1
        exact ⟨z, true, fun _ => hz2, fun w h10 hF => ex_c1 m hm k (by omega) T z 0 (by rw [g1]; exact decide_eq_false h4) g2 hz w h10 hF⟩
    · obtain ⟨t0, t1⟩ := hT (k - 22) (by omega)
      obtain ⟨z, hz, hz2⟩ := mul_le_d hf t1
      obtain ⟨g1, g2⟩ := gt_le hz2
      by_cases h4 : 4831355200913801216 < z
      · exact ⟨z, false, by simp, fun w h10 hF => ex_d0 m hm k (by omega) T z 0 (by rw [g1]; exact decide_eq_true h4) hz w h10 hF⟩
      · obtain ⟨u0, u1⟩ := hT 22 (by omega)
        obtain ⟨z2, hy, hy2⟩ := mul_le_d (show z < fIN by omega) u1
        exact ⟨z2, true, fun _ => hy2, fun w h10 hF => ex_d1 m hm k (by omega) T z z2 (by rw [g1]; exact decide_eq_false h4) g2 hz hy w h10 hF⟩
  · exact ⟨_, false, by simp, fun w h10 hF => ex_big m e hm w hF⟩
end
section
open Go Go.ChangeShapes Go.WideShapes Go.RowKit
set_option linter.unusedVariables false
set_option linter.unusedSimpArgs false
def chkU : Option Value → Bool
  | some (.int .u8 n) => n == 0
  | _ => false
theorem chkU_eq (o : Option Value) (h : chkU o = true) : o = some (.int .u8 0) := by
  unfold chkU at h
  split at h
  · rw [eq_of_beq h]
  · cases h
theorem zd_at : ∀ j, j < 800 → (Tryz.zeroCells214)[j]? = some (.int .u8 0) := by
  intro j hj
  have h : ∀ j : Fin 800, chkU ((Tryz.zeroCells214)[j.val]?) = true := by decide +kernel
  exact chkU_eq _ (h ⟨j, hj⟩)
theorem zd_tail : (Tryz.zeroCells214)[800]? = some (.int .i64 0) ∧ (Tryz.zeroCells214)[801]? = some (.int .i64 0) ∧ (Tryz.zeroCells214)[802]? = some (.bool false) ∧ (Tryz.zeroCells214)[803]? = some (.bool false) := ⟨by kernel_rfl, by kernel_rfl, by kernel_rfl, by kernel_rfl⟩
/-- A new decimal is 0. -/
theorem dm_new (w : World) : DM (w.alloc (.cells Tryz.zeroCells214 214)) w.heap.size ⟨0, 0, 0, false⟩ false := by
  have hc := fun j => World.cell?_alloc_mark w Tryz.zeroCells214 214 (0, 0) j
  refine ⟨fun _ => 0, ⟨fun i hi => (hc i).trans (zd_at i hi), fun _ => by decide, fun i _ => by simp, (hc _).trans zd_tail.1, (hc _).trans zd_tail.2.1, (hc _).trans zd_tail.2.2.1, (hc _).trans zd_tail.2.2.2⟩, fun i hi => absurd hi (Nat.not_lt_zero i)⟩
end
section
open Go Go.ChangeShapes Go.WideShapes Go.RowKit
set_option linter.unusedVariables false
set_option linter.unusedSimpArgs false
theorem PTZ.up {hiT loT : Nat → Nat} {w : World} {b b' : Nat} (h : PTZ hiT loT w b) (hb : b ≤ b') : PTZ hiT loT w b' := ⟨Nat.lt_of_lt_of_le h.l hb, h.h⟩
theorem LC.up {w : World} {b b' : Nat} (h : LC w b) (hb : b ≤ b') : LC w b' := by
  obtain ⟨R, o, c, h1, h2, h3, h4, h5⟩ := h.ex
  exact ⟨R, o, c, Nat.lt_of_lt_of_le h1 hb, h2, h3, Nat.lt_of_lt_of_le h4 hb, h5⟩
theorem PWT.up {w : World} {b b' : Nat} (h : PWT w b) (hb : b ≤ b') : PWT w b' := by
  obtain ⟨R, o, c, h1, h2, h3, h4, h5⟩ := h.ex
  exact ⟨R, o, c, Nat.lt_of_lt_of_le h1 hb, h2, h3, Nat.lt_of_lt_of_le h4 hb, h5⟩
theorem FI.up {w : World} {F b b' : Nat} (h : FI w F b) (hb : b ≤ b') : FI w F b' := ⟨h.m, h.e, h.bs, Nat.lt_of_lt_of_le h.l hb⟩
theorem F10.up {T : Nat → Nat} {w : World} {b b' : Nat} (h : F10 T w b) (hb : b ≤ b') : F10 T w b' := by
  obtain ⟨R, o, c, h1, h2, h3, h4, h5⟩ := h.ex
  exact ⟨R, o, c, Nat.lt_of_lt_of_le h1 hb, h2, h3, Nat.lt_of_lt_of_le h4 hb, h5⟩
/-- strconv's tables in memory, below b. -/
structure TBL (hiT loT T : Nat → Nat) (w : World) (b : Nat) : Prop where
  p : PTZ hiT loT w b
  l : LC w b
  pw : PWT w b
  f : FI w 11 b
  t : F10 T w b
  o : w.cell? ⟨9, 0, none⟩ = some (.bool true)
  ol : 9 < b
theorem TBL.keep {hiT loT T : Nat → Nat} {w w' : World} {b : Nat} (h : TBL hiT loT T w b) (hb : Below b w w') : TBL hiT loT T w' b :=
  ⟨h.p.keep hb, h.l.keep hb, h.pw.keep hb, h.f.keep hb, h.t.keep hb, (hb.cell (p := ⟨_, _, none⟩) h.ol).trans h.o, h.ol⟩
theorem TBL.up {hiT loT T : Nat → Nat} {w : World} {b b' : Nat} (h : TBL hiT loT T w b) (hb : b ≤ b') : TBL hiT loT T w b' :=
  ⟨h.p.up hb, h.l.up hb, h.pw.up hb, h.f.up hb, h.t.up hb, h.o, Nat.lt_of_lt_of_le h.ol hb⟩
/-- What is known of the tables' numbers. -/
structure TBF (hiT loT T : Nat → Nat) : Prop where
  h : ∀ i, hiT i < 18446744073709551616
  l : ∀ i, loT i < 18446744073709551616
  t : ∀ k, k < 23 → 0 < T k ∧ T k < fIN
theorem fbX_le (x : DS × Int) : (fbX x false).1 ≤ fIN := by
  have hI : fIN = 9218868437227405312 := rfl
  have hW : ∀ r, Ieee.double.word false r = r := fun r => rfl
  unfold fbX
  by_cases h1 : 1024 ≤ x.2
  · rw [if_pos h1]; exact Nat.le_refl _
  · rw [if_neg h1]
    split
    · split
      · exact Nat.le_refl _
      · simp only [hW]; omega
    · split
      · simp only [hW]; omega
      · simp only [hW]; omega
theorem fba_le (s : DS) : (fba s false).1 ≤ fIN := by
  unfold fba
  split
  · exact Nat.zero_le _
  · split
    · exact Nat.le_refl _
    · split
      · exact Nat.zero_le _
      · unfold fb; exact fbX_le _
/-- What readFloat and special answer at a text. -/
structure RDs (s : ByteArray) (m : Nat) (E : Int) (tr : Bool) : Prop where
  sp : ∀ w, Calls Tryz.prog 223 #[.string s] w fun e w' => e = .returned (.tuple #[.float .f64 0, .int .i64 0, .bool false]) ∧ w = w'
  rd : ∀ w, Calls Tryz.prog 224 #[.string s] w fun e w' => e = .returned (.tuple #[.int .u64 ((m : Nat) : Int), .int .i64 E, .bool false, .bool tr, .bool false, .int .i64 ((s.size : Nat) : Int), .bool true]) ∧ w = w'
  m : m < 10000000000000000000
def AtP (s : ByteArray) (X : Nat) (w : World) : Prop := Calls Tryz.prog 195 #[.string s] w fun r w' => (∃ v, r = .returned (.tuple #[.float .f64 X, .int .i64 ((s.size : Nat) : Int), v]) ∧ ErrV v) ∧ Below w.heap.size w w'
set_option maxRecDepth 100000 in
set_option maxHeartbeats 2000000 in
theorem at_zero (s : ByteArray) (E : Int) (tr : Bool) (w : World) (hR : RDs s 0 E tr) (ho : w.cell? ⟨9, 0, none⟩ = some (.bool true)) : AtP s 0 w := by
  unfold AtP
  have HR := Lib.hid hR
  clear hR
  have ho0 : bits .or .u64 0 0 = 0 := by rfl
  have hfb : (callFunc 233 #[.int .u64 0]).run Tryz.prog w = .ok (.value (.float .f64 0)) w := run_sfrombits 0 w
  go_enter Tryz.func195, Tryz.ntmps195
  go_wp2_with (first
    | (go_at_call 223; (with_reducible refine (HR.out.sp _).mono ?_); rintro e w9 ⟨rfl, rfl⟩)
    | (go_at_call 224; (with_reducible refine (HR.out.rd _).mono ?_); rintro e w9 ⟨rfl, rfl⟩)
    | (go_at_call 232; (with_reducible refine (bool2u_any _ _).mono ?_); rintro e w9 ⟨rfl, rfl⟩)
    | fail)
  all_goals first
    | (exfalso; omega)
    | (go_ret3; exact ⟨⟨.nilIface, rfl, .inl rfl⟩, Below.refl _ _⟩)
set_option maxRecDepth 100000 in
set_option maxHeartbeats 2000000 in
theorem at_over (s : ByteArray) (m : Nat) (E : Int) (tr : Bool) (w : World) (hR : RDs s m E tr) (ho : w.cell? ⟨9, 0, none⟩ = some (.bool true)) (hm : m ≠ 0) (hE : 310 < E) : AtP s fIN w := by
  unfold AtP
  have HR := Lib.hid hR
  clear hR
  have hm1 : ¬ (m : Int) = 0 := by omega
  have ho0 : bits .or .u64 0 9218868437227405312 = 9218868437227405312 := by rfl
  have hfb : (callFunc 233 #[.int .u64 9218868437227405312]).run Tryz.prog w = .ok (.value (.float .f64 9218868437227405312)) w := run_sfrombits 9218868437227405312 w
  go_enter Tryz.func195, Tryz.ntmps195
  go_wp2_with (first
    | (go_at_call 223; (with_reducible refine (HR.out.sp _).mono ?_); rintro e w9 ⟨rfl, rfl⟩)
    | (go_at_call 224; (with_reducible refine (HR.out.rd _).mono ?_); rintro e w9 ⟨rfl, rfl⟩)
    | (go_at_call 232; (with_reducible refine (bool2u_any _ _).mono ?_); rintro e w9 ⟨rfl, rfl⟩)
    | fail)
  all_goals first
    | (exfalso; omega)
    | (go_ret3; exact ⟨⟨_, rfl, .inr rfl⟩, Below.refl _ _⟩)
set_option maxRecDepth 100000 in
set_option maxHeartbeats 2000000 in
theorem at_under (s : ByteArray) (m : Nat) (E : Int) (tr : Bool) (w : World) (hR : RDs s m E tr) (ho : w.cell? ⟨9, 0, none⟩ = some (.bool true)) (hm : m ≠ 0) (hE : E < -345) : AtP s 0 w := by
  unfold AtP
  have HR := Lib.hid hR
  clear hR
  have hm1 : ¬ (m : Int) = 0 := by omega
  have hE2 : ¬ 310 < E := by omega
  have ho0 : bits .or .u64 0 0 = 0 := by rfl
  have hfb : (callFunc 233 #[.int .u64 0]).run Tryz.prog w = .ok (.value (.float .f64 0)) w := run_sfrombits 0 w
  go_enter Tryz.func195, Tryz.ntmps195
  go_wp2_with (first
    | (go_at_call 223; (with_reducible refine (HR.out.sp _).mono ?_); rintro e w9 ⟨rfl, rfl⟩)
    | (go_at_call 224; (with_reducible refine (HR.out.rd _).mono ?_); rintro e w9 ⟨rfl, rfl⟩)
    | (go_at_call 232; (with_reducible refine (bool2u_any _ _).mono ?_); rintro e w9 ⟨rfl, rfl⟩)
    | fail)
  all_goals first
    | (exfalso; omega)
    | (go_ret3; exact ⟨⟨_, rfl, .inl rfl⟩, Below.refl _ _⟩)
set_option maxRecDepth 100000 in
set_option maxHeartbeats 2000000 in
theorem at_exact (s : ByteArray) (m : Nat) (E : Int) (x : Nat) (w : World) (hR : RDs s m E false) (ho : w.cell? ⟨9, 0, none⟩ = some (.bool true)) (hm : m ≠ 0) (hE : -345 ≤ E ∧ E ≤ 310) (hX : Calls Tryz.prog 234 #[.int .u64 (m : Int), .int .i64 E, .bool false] w fun r w' => r = .returned (.tuple #[.float .f64 x, .bool true]) ∧ w = w') : AtP s x w := by
  unfold AtP
  have HR := Lib.hid hR
  clear hR
  have hm1 : ¬ (m : Int) = 0 := by omega
  have hE2 : ¬ 310 < E := by omega
  have hE3 : ¬ E < -345 := by omega
  clear hE
  have HX := Lib.hid hX
  clear hX
  go_enter Tryz.func195, Tryz.ntmps195
  go_wp2_with (first
    | (go_at_call 223; (with_reducible refine (HR.out.sp _).mono ?_); rintro e w9 ⟨rfl, rfl⟩)
    | (go_at_call 224; (with_reducible refine (HR.out.rd _).mono ?_); rintro e w9 ⟨rfl, rfl⟩)
    | (go_at_call 232; (with_reducible refine (bool2u_any _ _).mono ?_); rintro e w9 ⟨rfl, rfl⟩)
    | (go_at_call 234; (with_reducible refine HX.out.mono ?_); rintro e w9 ⟨rfl, rfl⟩)
    | fail)
  all_goals first
    | (exfalso; omega)
    | (go_ret3; exact ⟨⟨_, rfl, .inl rfl⟩, Below.refl _ _⟩)
set_option maxRecDepth 100000 in
set_option maxHeartbeats 2000000 in
theorem at_pf (s : ByteArray) (m : Nat) (E : Int) (x y : Nat) (w : World) (hR : RDs s m E false) (ho : w.cell? ⟨9, 0, none⟩ = some (.bool true)) (hm : m ≠ 0) (hE : -345 ≤ E ∧ E ≤ 310) (hX : Calls Tryz.prog 234 #[.int .u64 (m : Int), .int .i64 E, .bool false] w fun r w' => r = .returned (.tuple #[.float .f64 x, .bool false]) ∧ w = w') (hP : Calls Tryz.prog 235 #[.int .u64 (m : Int), .int .i64 E, .int .u64 0] w fun r w' => (∃ v, r = .returned (.tuple #[.float .f64 y, v]) ∧ ErrV v) ∧ Below w.heap.size w w') : AtP s y w := by
  unfold AtP
  have HR := Lib.hid hR
  clear hR
  have hm1 : ¬ (m : Int) = 0 := by omega
  have hE2 : ¬ 310 < E := by omega
  have hE3 : ¬ E < -345 := by omega
  clear hE
  have HX := Lib.hid hX
  have HP := Lib.hid hP
  clear hX hP
  go_enter Tryz.func195, Tryz.ntmps195
  go_wp2_with (first
    | (go_at_call 223; (with_reducible refine (HR.out.sp _).mono ?_); rintro e w9 ⟨rfl, rfl⟩)
    | (go_at_call 224; (with_reducible refine (HR.out.rd _).mono ?_); rintro e w9 ⟨rfl, rfl⟩)
    | (go_at_call 232; (with_reducible refine (bool2u_any _ _).mono ?_); rintro e w9 ⟨rfl, rfl⟩)
    | (go_at_call 234; (with_reducible refine HX.out.mono ?_); rintro e w9 ⟨rfl, rfl⟩)
    | (go_at_call 235; (with_reducible refine HP.out.mono ?_); rintro e w4 ⟨⟨v4, rfl, hv4⟩, hb4⟩; have HB4 := Lib.hid hb4; have HV4 := Lib.hid hv4; clear hb4 hv4)
    | fail)
  all_goals first
    | (exfalso; omega)
    | (go_ret3; exact ⟨⟨_, rfl, HV4.out⟩, HB4.out⟩)
set_option maxRecDepth 100000 in
set_option maxHeartbeats 2000000 in
theorem at_eq (s : ByteArray) (m m1 : Nat) (E : Int) (y y1 : Nat) (w : World) (hR : RDs s m E true) (ho : w.cell? ⟨9, 0, none⟩ = some (.bool true)) (hm : m ≠ 0) (hE : -345 ≤ E ∧ E ≤ 310) (hP : Calls Tryz.prog 235 #[.int .u64 (m : Int), .int .i64 E, .int .u64 0] w fun r w' => (∃ v, r = .returned (.tuple #[.float .f64 y, v]) ∧ ErrV v) ∧ Below w.heap.size w w') (hP1 : ∀ W, Below w.heap.size w W → Calls Tryz.prog 235 #[.int .u64 (m1 : Int), .int .i64 E, .int .u64 0] W fun r w' => (∃ v, r = .returned (.tuple #[.float .f64 y1, v]) ∧ ErrV v) ∧ Below W.heap.size W w') (hm1 : m + 1 = m1) (hq : (FloatKind.f64.format.order y y1 == some .eq) = true) : AtP s y w := by
  unfold AtP
  have HR := Lib.hid hR
  clear hR
  have hm0 : ¬ (m : Int) = 0 := by omega
  have hE2 : ¬ 310 < E := by omega
  have hE3 : ¬ E < -345 := by omega
  clear hE
  have hmw : IntKind.u64.wrap ((m : Int) + 1) = (m1 : Int) := by have hmm := HR.out.m; rw [IntWalk.u64_in _ (by omega)]; omega
  have HP := Lib.hid hP
  have HP1 := Lib.hid hP1
  clear hP hP1 hm1
  go_enter Tryz.func195, Tryz.ntmps195
  go_wp2_with (first
    | (go_at_call 223; (with_reducible refine (HR.out.sp _).mono ?_); rintro e w9 ⟨rfl, rfl⟩)
    | (go_at_call 224; (with_reducible refine (HR.out.rd _).mono ?_); rintro e w9 ⟨rfl, rfl⟩)
    | (go_at_call 232; (with_reducible refine (bool2u_any _ _).mono ?_); rintro e w9 ⟨rfl, rfl⟩)
    | (go_at_call 235; (with_reducible refine HP.out.mono ?_); rintro e w4 ⟨⟨v4, rfl, hv4⟩, hb4⟩; have HB4 := Lib.hid hb4; have HV4 := Lib.hid hv4; clear hb4 hv4)
    | (go_at_call 235; (with_reducible refine (HP1.out _ HB4.out).mono ?_); rintro e w5 ⟨⟨v5, rfl, hv5⟩, hb5⟩; have HB5 := Lib.hid (HB4.out.trans (hb5.mono HB4.out.size)); clear hb5 hv5)
    | fail)
  all_goals first
    | (exfalso; omega)
    | (go_ret3; exact ⟨⟨_, rfl, HV4.out⟩, HB5.out⟩)
set_option maxRecDepth 100000 in
set_option maxHeartbeats 2000000 in
theorem at_slow (s : ByteArray) (a p q F : Nat) (ov : Bool) (hz : fba (sfZ s a p q) false = (F, ov)) (h : Nml s a p q) (hiT loT T : Nat → Nat) (m m1 : Nat) (E : Int) (y y1 : Nat) (w : World) (hR : RDs s m E true) (ho : w.cell? ⟨9, 0, none⟩ = some (.bool true)) (hT : TBL hiT loT T w w.heap.size) (hm : m ≠ 0) (hE : -345 ≤ E ∧ E ≤ 310) (hP : Calls Tryz.prog 235 #[.int .u64 (m : Int), .int .i64 E, .int .u64 0] w fun r w' => (∃ v, r = .returned (.tuple #[.float .f64 y, v]) ∧ ErrV v) ∧ Below w.heap.size w w') (hP1 : ∀ W, Below w.heap.size w W → Calls Tryz.prog 235 #[.int .u64 (m1 : Int), .int .i64 E, .int .u64 0] W fun r w' => (∃ v, r = .returned (.tuple #[.float .f64 y1, v]) ∧ ErrV v) ∧ Below W.heap.size W w') (hm1 : m + 1 = m1) (hq : (FloatKind.f64.format.order y y1 == some .eq) = false) : AtP s F w := by
  unfold AtP
  have HR := Lib.hid hR
  clear hR
  have hm0 : ¬ (m : Int) = 0 := by omega
  have hE2 : ¬ 310 < E := by omega
  have hE3 : ¬ E < -345 := by omega
  clear hE
  have hmw : IntKind.u64.wrap ((m : Int) + 1) = (m1 : Int) := by have hmm := HR.out.m; rw [IntWalk.u64_in _ (by omega)]; omega
  have HP := Lib.hid hP
  have HP1 := Lib.hid hP1
  clear hP hP1 hm1
  go_enter Tryz.func195, Tryz.ntmps195
  go_upto_region 28 with (first
    | (go_at_call 223; (with_reducible refine (HR.out.sp _).mono ?_); rintro e w9 ⟨rfl, rfl⟩)
    | (go_at_call 224; (with_reducible refine (HR.out.rd _).mono ?_); rintro e w9 ⟨rfl, rfl⟩)
    | (go_at_call 232; (with_reducible refine (bool2u_any _ _).mono ?_); rintro e w9 ⟨rfl, rfl⟩)
    | (go_at_call 235; (with_reducible refine HP.out.mono ?_); rintro e w4 ⟨⟨v4, rfl, hv4⟩, hb4⟩; have HB4 := Lib.hid hb4; have HV4 := Lib.hid hv4; clear hb4 hv4)
    | (go_at_call 235; (with_reducible refine (HP1.out _ HB4.out).mono ?_); rintro e w5 ⟨⟨v5, rfl, hv5⟩, hb5⟩; have HB5 := Lib.hid (HB4.out.trans (hb5.mono HB4.out.size)); clear hb5 hv5)
    | fail)
  go_upto_region 29 with fail
  generalize hw6 : w5.alloc _ = w6
  have HB6 := Lib.hid (show Below w.heap.size w w6 by rw [← hw6]; exact HB5.out.alloc HB5.out.size _)
  have HD := Lib.hid (show DM w6 w5.heap.size ⟨0, 0, 0, false⟩ false by rw [← hw6]; exact dm_new w5)
  have HS := Lib.hid (set_any w5.heap.size s a p q h w6 HD.out)
  have hsl : s.extract 0 s.size = s := by simp
  obtain ⟨b, hb⟩ : ∃ b, w5.heap.size = b := ⟨_, rfl⟩
  have hbw : w.heap.size ≤ b := by rw [← hb]; exact HB5.out.size
  rw [hb] at HS ⊢
  have HTT := Lib.hid hT
  have HN := Lib.hid (sfZ_nrm h)
  clear hT ho hw6 HD hb h
  have hz2 : ∀ W, DM W b (sfZ s a p q) false → TBL hiT loT T W b → Calls Tryz.prog 231 #[.pointer (some ⟨b, 0, none⟩), .pointer (some ⟨11, 0, none⟩)] W fun e w' => e = .returned (.tuple #[.int .u64 ((F : Nat) : Int), .bool ov]) ∧ Below b W w' := fun W hD hT => by
    have := fba_any b _ (sfZ s a p q) false W HN.out hD hT.l hT.pw hT.f
    rw [hz] at this
    exact this
  have HF := Lib.hid hz2
  clear hz hz2
  go_upto_region 31 with (first
    | (go_at_call 230; (with_reducible refine HS.out.mono ?_); rintro e w7 ⟨rfl, hd7, hb7⟩; have HD7 := Lib.hid hd7; have HB7 := Lib.hid (HB6.out.trans (hb7.mono hbw)); clear hd7 hb7)
    | fail)
  have HF7 := Lib.hid (HF.out w7 HD7.out ((HTT.out.keep HB7.out).up hbw))
  have hfb : ∀ W, (callFunc 233 #[.int .u64 (F : Int)]).run Tryz.prog W = .ok (.value (.float .f64 F)) W := fun W => run_sfrombits F W
  cases ov
  all_goals
    go_wp2_with (first
      | (go_at_call 231; (with_reducible refine HF7.out.mono ?_); rintro e w8 ⟨rfl, hb8⟩; have HB8 := Lib.hid (HB7.out.trans (hb8.mono hbw)); clear hb8)
      | fail)
    go_ret3
    first
      | exact ⟨⟨_, rfl, .inl rfl⟩, HB8.out⟩
      | exact ⟨⟨_, rfl, .inr rfl⟩, HB8.out⟩
theorem m_lt {s : ByteArray} {a p q : Nat} (h : Nml s a p q) : (qfN s p).m < 10000000000000000000 := by
  have hk := qf_ok h p (Nat.le_refl _)
  exact Nat.lt_of_lt_of_le hk.m (show 10 ^ (qfN s p).nm ≤ 10 ^ 19 from Nat.pow_le_pow_right (by decide) hk.nm)
end
end Go.Proofs.YtpebnofjcodikaaGreatDoor
