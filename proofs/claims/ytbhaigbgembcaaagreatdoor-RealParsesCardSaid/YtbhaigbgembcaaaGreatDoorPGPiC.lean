/- strconv's atof64exact. strconv's atof64: its leaves. -/
import Derived.Test.YtbhaigbgembcaaaGreatDoorPGRlA
import Derived.Test.YtbhaigbgembcaaaGreatDoorPGRlV2
import Derived.Test.YtbhaigbgembcaaaGreatDoorPGRlU
import Derived.Test.YtbhaigbgembcaaaGreatDoorPPfY
import Derived.Test.YtbhaigbgembcaaaGreatDoorPPiB
namespace Go.Proofs.YtbhaigbgembcaaaGreatDoor
section
open Go Go.ChangeShapes Go.WideShapes Go.RowKit Ieee
set_option linter.unusedVariables false
set_option linter.unusedSimpArgs false
/-- The table of the exact powers of ten, as floats T. -/
structure F10 (T : Nat → Nat) (w : World) (b : Nat) : Prop where
  ex : ∃ R o c, R < b ∧ 23 ≤ c ∧ w.cell? ⟨9, 0, none⟩ = some (.slice (some ⟨R, o, none⟩) 23 c) ∧ 9 < b ∧ ∀ i, i < 23 → w.cell? ⟨R, o + i, none⟩ = some (.float .f64 (T i))
theorem F10.keep {T : Nat → Nat} {w w' : World} {b : Nat} (h : F10 T w b) (hb : Below b w w') : F10 T w' b := by
  obtain ⟨R, o, c, h1, h2, h3, h4, h5⟩ := h.ex
  exact ⟨R, o, c, h1, h2, (hb.cell (p := ⟨_, _, none⟩) h4).trans h3, h4, fun i hi => (hb.cell (p := ⟨_, _, none⟩) h1).trans (h5 i hi)⟩
theorem near_le (m : Nat) (p : Int) : double.nearest false m p ≤ fIN := by
  unfold Format.nearest
  by_cases h : m = 0
  · rw [if_pos h]; exact Nat.zero_le _
  · rw [if_neg h]
    simp only
    rw [in_d]
    have : ∀ x : Nat, double.word false (min x fIN) ≤ fIN := fun x => Nat.min_le_right x fIN
    exact this _
theorem pos_read {x : Nat} (h : x < fIN) : ∃ m p, double.read x = .number false m p ∧ (0 < x → m ≠ 0) := by
  obtain ⟨p1, p2, p3, p4⟩ := pos_facts h
  rcases read_nn p3 with ⟨h1, _⟩ | ⟨_, m, p, h1, h2⟩
  · unfold infB at h1; rw [p1] at h1; simp at h1; omega
  · rw [p2] at h1
    exact ⟨m, p, h1, fun h0 => h2 (by unfold zeroB; rw [p1]; simp; omega)⟩
theorem mul_le_d {x y : Nat} (hx : x < fIN) (hy : y < fIN) : ∃ z, double.mul x y = some z ∧ z ≤ fIN := by
  obtain ⟨m, p, h1, _⟩ := pos_read hx
  obtain ⟨n, q, h2, _⟩ := pos_read hy
  unfold Format.mul
  rw [h1, h2]
  exact ⟨_, rfl, near_le _ _⟩
theorem div_le_d {x y : Nat} (hx : x < fIN) (hy : y < fIN) (h0 : 0 < y) : ∃ z, double.div x y = some z ∧ z ≤ fIN := by
  obtain ⟨m, p, h1, _⟩ := pos_read hx
  obtain ⟨n, q, h2, h3⟩ := pos_read hy
  unfold Format.div
  rw [h1, h2]
  unfold Datum.quotient
  simp only [if_neg (h3 h0)]
  exact ⟨_, rfl, near_le _ _⟩
theorem foi_lt (m : Nat) (h : m < 4503599627370496) : floatOfInt .f64 (m : Int) < fIN := by
  have hI : fIN = 9218868437227405312 := rfl
  have e0 : floatOfInt .f64 (m : Int) = double.nearest false m 0 := by
    show double.nearest (decide ((m : Int) < 0)) ((m : Int).natAbs) 0 = _
    rw [decide_eq_false (by omega), Int.natAbs_natCast]
  rw [e0]
  by_cases h0 : m = 0
  · subst h0; decide +kernel
  · have hl : m.log2 < 52 := (Nat.log2_lt h0).2 h
    obtain ⟨r, h1, h2⟩ := nearest_int false m (by omega) (fun h3 => by omega)
    rw [h1]
    show min r fIN < fIN
    have hr : r < fIN := by
      rcases Nat.lt_or_ge r fIN with h3 | h3
      · exact h3
      · exfalso
        have h4 : magV fIN ≤ magV r := by
          rcases Nat.lt_or_eq_of_le h3 with h5 | h5
          · exact Nat.le_of_lt (mag_lt h5)
          · rw [h5]; exact Nat.le_refl _
        rw [h2] at h4
        have h5 : m * 2 ^ eK < 4503599627370496 * 2 ^ eK := Nat.mul_lt_mul_of_pos_right h (Nat.two_pow_pos _)
        have h6 : 4503599627370496 * 2 ^ eK ≤ magV fIN := by
          unfold magV
          rw [if_neg (by decide +kernel)]
          exact Nat.mul_le_mul (by omega) (Nat.pow_le_pow_right (by decide) (by rw [eK_eq]; decide +kernel))
        exact Nat.lt_irrefl _ (Nat.lt_of_lt_of_le h5 (Nat.le_trans h6 h4))
    omega
set_option maxRecDepth 100000 in
set_option maxHeartbeats 2000000 in
theorem ex_big (m : Nat) (e : Int) (hm : ¬ m < 4503599627370496) (w : World) (hF : FI w 5 w.heap.size) :
    Calls Tryz.prog 69 #[.int .u64 (m : Int), .int .i64 e, .bool false] w fun r w' => r = .returned (.tuple #[.float .f64 0, .bool false]) ∧ w = w' := by
  have c0 := hF.m
  clear hF
  have hw : ¬ (m : Int) / 4503599627370496 = 0 := by omega
  clear hm
  go_enter Tryz.func69, Tryz.ntmps69
  go_wp2_with fail
  all_goals first
    | (exfalso; omega)
    | (go_ret2; exact ⟨rfl, rfl⟩)
    | (go_ret; exact ⟨rfl, rfl⟩)
set_option maxRecDepth 100000 in
set_option maxHeartbeats 2000000 in
theorem ex_zero (m : Nat) (hm : m < 4503599627370496) (w : World) (hF : FI w 5 w.heap.size) :
    Calls Tryz.prog 69 #[.int .u64 (m : Int), .int .i64 0, .bool false] w fun r w' => r = .returned (.tuple #[.float .f64 (floatOfInt .f64 (m : Int)), .bool true]) ∧ w = w' := by
  have c0 := hF.m
  clear hF
  have hw : (m : Int) / 4503599627370496 = 0 := by omega
  clear hm
  go_enter Tryz.func69, Tryz.ntmps69
  go_wp2_with fail
  all_goals first
    | (exfalso; omega)
    | (go_ret2; exact ⟨rfl, rfl⟩)
    | (go_ret; exact ⟨rfl, rfl⟩)
set_option maxRecDepth 100000 in
set_option maxHeartbeats 2000000 in
theorem ex_far (m : Nat) (hm : m < 4503599627370496) (e : Int) (he : e < -22 ∨ 37 < e) (he2 : -1000 ≤ e ∧ e ≤ 1000) (w : World) (hF : FI w 5 w.heap.size) :
    Calls Tryz.prog 69 #[.int .u64 (m : Int), .int .i64 e, .bool false] w fun r w' => r = .returned (.tuple #[.float .f64 (floatOfInt .f64 (m : Int)), .bool false]) ∧ w = w' := by
  have c0 := hF.m
  clear hF
  have hw : (m : Int) / 4503599627370496 = 0 := by omega
  clear hm
  obtain ⟨e1, e2⟩ := he2
  have e3 : ¬ e = 0 := by omega
  go_enter Tryz.func69, Tryz.ntmps69
  go_wp2_with fail
  all_goals first
    | (exfalso; omega)
    | (go_ret2; exact ⟨rfl, rfl⟩)
    | (go_ret; exact ⟨rfl, rfl⟩)
set_option maxRecDepth 100000 in
set_option maxHeartbeats 2000000 in
theorem ex_c0 (m : Nat) (hm : m < 4503599627370496) (k : Nat) (hk : 0 < k ∧ k ≤ 22) (hg : (FloatKind.f64.format.order (floatOfInt .f64 (m : Int)) 4831355200913801216 == some .gt) = true) (w : World) (hF : FI w 5 w.heap.size) :
    Calls Tryz.prog 69 #[.int .u64 (m : Int), .int .i64 ((k : Nat) : Int), .bool false] w fun r w' => r = .returned (.tuple #[.float .f64 (floatOfInt .f64 (m : Int)), .bool false]) ∧ w = w' := by
  have c0 := hF.m
  clear hF
  have hw : (m : Int) / 4503599627370496 = 0 := by omega
  clear hm
  have k1 : (0 : Int) < (k : Int) := by omega
  have k2 : (k : Int) ≤ 22 := by omega
  have k3 : ¬ (k : Int) = 0 := by omega
  clear hk
  go_enter Tryz.func69, Tryz.ntmps69
  go_wp2_with fail
  all_goals first
    | (exfalso; omega)
    | (go_ret2; exact ⟨rfl, rfl⟩)
    | (go_ret; exact ⟨rfl, rfl⟩)
set_option maxRecDepth 100000 in
set_option maxHeartbeats 2000000 in
theorem ex_c1 (m : Nat) (hm : m < 4503599627370496) (k : Nat) (hk : 0 < k ∧ k ≤ 22) (T : Nat → Nat) (z z2 : Nat) (hg : (FloatKind.f64.format.order (floatOfInt .f64 (m : Int)) 4831355200913801216 == some .gt) = false) (hl : (FloatKind.f64.format.order (floatOfInt .f64 (m : Int)) 14054727237768577024 == some .lt) = false) (hz : Ieee.double.mul (floatOfInt .f64 (m : Int)) (T k) = some z) (w : World) (hT : F10 T w w.heap.size) (hF : FI w 5 w.heap.size) :
    Calls Tryz.prog 69 #[.int .u64 (m : Int), .int .i64 ((k : Nat) : Int), .bool false] w fun r w' => r = .returned (.tuple #[.float .f64 z, .bool true]) ∧ w = w' := by
  have c0 := hF.m
  clear hF
  have hw : (m : Int) / 4503599627370496 = 0 := by omega
  clear hm
  obtain ⟨R, o, c, h1, h2, h3, h4, h5⟩ := hT.ex
  clear hT
  have k1 : (0 : Int) < (k : Int) := by omega
  have k2 : (k : Int) ≤ 22 := by omega
  have k3 : ¬ (k : Int) = 0 := by omega
  have ck := h5 k (by omega)
  have hq : (binOp .mul 32 (.float .f64 (floatOfInt .f64 (m : Int))) (.float .f64 (T k))).run Tryz.prog w = .ok (.float .f64 z) w := run_float_arith w .mul 32 .f64 _ _ _ hz
  clear hk
  go_enter Tryz.func69, Tryz.ntmps69
  go_wp2_with fail
  all_goals first
    | (exfalso; omega)
    | (go_ret2; exact ⟨rfl, rfl⟩)
    | (go_ret; exact ⟨rfl, rfl⟩)
set_option maxRecDepth 100000 in
set_option maxHeartbeats 2000000 in
theorem ex_d0 (m : Nat) (hm : m < 4503599627370496) (k : Nat) (hk : 22 < k ∧ k ≤ 37) (T : Nat → Nat) (z z2 : Nat) (hg : (FloatKind.f64.format.order z 4831355200913801216 == some .gt) = true) (hz : Ieee.double.mul (floatOfInt .f64 (m : Int)) (T (k - 22)) = some z) (w : World) (hT : F10 T w w.heap.size) (hF : FI w 5 w.heap.size) :
    Calls Tryz.prog 69 #[.int .u64 (m : Int), .int .i64 ((k : Nat) : Int), .bool false] w fun r w' => r = .returned (.tuple #[.float .f64 z, .bool false]) ∧ w = w' := by
  have c0 := hF.m
  clear hF
  have hw : (m : Int) / 4503599627370496 = 0 := by omega
  clear hm
  obtain ⟨R, o, c, h1, h2, h3, h4, h5⟩ := hT.ex
  clear hT
  obtain ⟨j, hj⟩ : ∃ j, k = 22 + j := ⟨k - 22, by omega⟩
  subst hj
  have k1 : (0 : Int) < ((22 + j : Nat) : Int) := by omega
  have k2 : ((22 + j : Nat) : Int) ≤ 37 := by omega
  have k3 : ¬ ((22 + j : Nat) : Int) = 0 := by omega
  have k4 : (22 : Int) < ((22 + j : Nat) : Int) := by omega
  have hsb : IntKind.i64.wrap (((22 + j : Nat) : Int) - 22) = (j : Int) := by rw [IntWalk.i64_in _ (by omega)]; omega
  have ck := h5 j (by omega)
  rw [show 22 + j - 22 = j by omega] at hz
  have hq : (binOp .mul 32 (.float .f64 (floatOfInt .f64 (m : Int))) (.float .f64 (T j))).run Tryz.prog w = .ok (.float .f64 z) w := run_float_arith w .mul 32 .f64 _ _ _ hz
  obtain ⟨kk, hkk⟩ : ∃ kk : Int, ((22 + j : Nat) : Int) = kk := ⟨_, rfl⟩
  rw [hkk] at k1 k2 k3 k4 hsb ⊢
  clear hk
  go_enter Tryz.func69, Tryz.ntmps69
  go_wp2_with fail
  all_goals first
    | (exfalso; omega)
    | (go_ret2; exact ⟨rfl, rfl⟩)
    | (go_ret; exact ⟨rfl, rfl⟩)
set_option maxRecDepth 100000 in
set_option maxHeartbeats 2000000 in
theorem ex_d1 (m : Nat) (hm : m < 4503599627370496) (k : Nat) (hk : 22 < k ∧ k ≤ 37) (T : Nat → Nat) (z z2 : Nat) (hg : (FloatKind.f64.format.order z 4831355200913801216 == some .gt) = false) (hl : (FloatKind.f64.format.order z 14054727237768577024 == some .lt) = false) (hz : Ieee.double.mul (floatOfInt .f64 (m : Int)) (T (k - 22)) = some z) (hz2 : Ieee.double.mul z (T 22) = some z2) (w : World) (hT : F10 T w w.heap.size) (hF : FI w 5 w.heap.size) :
    Calls Tryz.prog 69 #[.int .u64 (m : Int), .int .i64 ((k : Nat) : Int), .bool false] w fun r w' => r = .returned (.tuple #[.float .f64 z2, .bool true]) ∧ w = w' := by
  have c0 := hF.m
  clear hF
  have hw : (m : Int) / 4503599627370496 = 0 := by omega
  clear hm
  obtain ⟨R, o, c, h1, h2, h3, h4, h5⟩ := hT.ex
  clear hT
  obtain ⟨j, hj⟩ : ∃ j, k = 22 + j := ⟨k - 22, by omega⟩
  subst hj
  have k1 : (0 : Int) < ((22 + j : Nat) : Int) := by omega
  have k2 : ((22 + j : Nat) : Int) ≤ 37 := by omega
  have k3 : ¬ ((22 + j : Nat) : Int) = 0 := by omega
  have k4 : (22 : Int) < ((22 + j : Nat) : Int) := by omega
  have hsb : IntKind.i64.wrap (((22 + j : Nat) : Int) - 22) = (j : Int) := by rw [IntWalk.i64_in _ (by omega)]; omega
  have ck := h5 j (by omega)
  rw [show 22 + j - 22 = j by omega] at hz
  have hq : (binOp .mul 32 (.float .f64 (floatOfInt .f64 (m : Int))) (.float .f64 (T j))).run Tryz.prog w = .ok (.float .f64 z) w := run_float_arith w .mul 32 .f64 _ _ _ hz
  have hq2 : (binOp .mul 32 (.float .f64 z) (.float .f64 (T 22))).run Tryz.prog w = .ok (.float .f64 z2) w := run_float_arith w .mul 32 .f64 _ _ _ hz2
  have ck2 := h5 22 (by omega)
  obtain ⟨kk, hkk⟩ : ∃ kk : Int, ((22 + j : Nat) : Int) = kk := ⟨_, rfl⟩
  rw [hkk] at k1 k2 k3 k4 hsb ⊢
  clear hk
  go_enter Tryz.func69, Tryz.ntmps69
  go_wp2_with fail
  all_goals first
    | (exfalso; omega)
    | (go_ret2; exact ⟨rfl, rfl⟩)
    | (go_ret; exact ⟨rfl, rfl⟩)
set_option maxRecDepth 100000 in
set_option maxHeartbeats 2000000 in
theorem ex_e1 (m : Nat) (hm : m < 4503599627370496) (k : Nat) (hk : 0 < k ∧ k ≤ 22) (T : Nat → Nat) (z z2 : Nat) (hz : Ieee.double.div (floatOfInt .f64 (m : Int)) (T k) = some z) (w : World) (hT : F10 T w w.heap.size) (hF : FI w 5 w.heap.size) :
    Calls Tryz.prog 69 #[.int .u64 (m : Int), .int .i64 (-((k : Nat) : Int)), .bool false] w fun r w' => r = .returned (.tuple #[.float .f64 z, .bool true]) ∧ w = w' := by
  have c0 := hF.m
  clear hF
  have hw : (m : Int) / 4503599627370496 = 0 := by omega
  clear hm
  obtain ⟨R, o, c, h1, h2, h3, h4, h5⟩ := hT.ex
  clear hT
  have k1 : -(k : Int) < (0 : Int) := by omega
  have k2 : (-22 : Int) ≤ -(k : Int) := by omega
  have k3 : ¬ -(k : Int) = 0 := by omega
  have k4 : ¬ (0 : Int) < -(k : Int) := by omega
  have hsb : IntKind.i64.wrap (-(-(k : Int))) = (k : Int) := by rw [IntWalk.i64_in _ (by omega)]; omega
  have ck := h5 k (by omega)
  have hq : (binOp .quo 32 (.float .f64 (floatOfInt .f64 (m : Int))) (.float .f64 (T k))).run Tryz.prog w = .ok (.float .f64 z) w := run_float_arith w .quo 32 .f64 _ _ _ hz
  obtain ⟨kk, hkk⟩ : ∃ kk : Int, -(k : Int) = kk := ⟨_, rfl⟩
  rw [hkk] at k1 k2 k3 k4 hsb ⊢
  clear hk
  go_enter Tryz.func69, Tryz.ntmps69
  go_wp2_with fail
  all_goals first
    | (exfalso; omega)
    | (go_ret2; exact ⟨rfl, rfl⟩)
    | (go_ret; exact ⟨rfl, rfl⟩)
theorem gt_le {x : Nat} (hx : x ≤ fIN) : (FloatKind.f64.format.order x 4831355200913801216 == some .gt) = decide (4831355200913801216 < x) ∧ (FloatKind.f64.format.order x 14054727237768577024 == some .lt) = false := by
  have hI : fIN = 9218868437227405312 := rfl
  rcases Nat.lt_or_eq_of_le hx with h | h
  · refine ⟨gt_pos h (by omega), ?_⟩
    rw [fmt_double, lt_d (pos_facts h).2.2.1 (by decide +kernel), place_pos h]
    have : placeZ 14054727237768577024 = -4831355200913801216 := by decide +kernel
    rw [this]
    exact decide_eq_false (by omega)
  · rw [h]; decide +kernel
/-- The exact way: what it answers, if it answers, is no NaN and not below 0. -/
theorem exact_any (T : Nat → Nat) (hT : ∀ k, k < 23 → 0 < T k ∧ T k < fIN) (m : Nat) (e : Int) (he : -1000 ≤ e ∧ e ≤ 1000) :
    ∃ x ok, (ok = true → x ≤ fIN) ∧ ∀ w : World, F10 T w w.heap.size → FI w 5 w.heap.size →
      Calls Tryz.prog 69 #[.int .u64 (m : Int), .int .i64 e, .bool false] w fun r w' => r = .returned (.tuple #[.float .f64 x, .bool ok]) ∧ w = w' := by
  by_cases hm : m < 4503599627370496
  · have hf := foi_lt m hm
    have hI : fIN = 9218868437227405312 := rfl
    by_cases h0 : e = 0
    · subst h0
      exact ⟨_, _, fun _ => Nat.le_of_lt hf, fun w h10 hF => ex_zero m hm w hF⟩
    by_cases h1 : e < -22 ∨ 37 < e
    · exact ⟨_, false, by simp, fun w h10 hF => ex_far m hm e h1 he w hF⟩
    by_cases h2 : e < 0
    · obtain ⟨k, rfl⟩ : ∃ k : Nat, e = -((k : Nat) : Int) := ⟨e.natAbs, by omega⟩
      obtain ⟨t0, t1⟩ := hT k (by omega)
      obtain ⟨z, hz, hz2⟩ := div_le_d hf t1 t0
      exact ⟨z, true, fun _ => hz2, fun w h10 hF => ex_e1 m hm k (by omega) T z 0 hz w h10 hF⟩
    obtain ⟨k, rfl⟩ : ∃ k : Nat, e = ((k : Nat) : Int) := ⟨e.toNat, by omega⟩
    by_cases h3 : k ≤ 22
    · obtain ⟨t0, t1⟩ := hT k (by omega)
      obtain ⟨g1, g2⟩ := gt_le (Nat.le_of_lt hf)
      by_cases h4 : 4831355200913801216 < floatOfInt .f64 (m : Int)
      · exact ⟨_, false, by simp, fun w h10 hF => ex_c0 m hm k (by omega) (by rw [g1]; exact decide_eq_true h4) w hF⟩
      · obtain ⟨z, hz, hz2⟩ := mul_le_d hf t1
        exact ⟨z, true, fun _ => hz2, fun w h10 hF => ex_c1 m hm k (by omega) T z 0 (by rw [g1]; exact decide_eq_false h4) g2 hz w h10 hF⟩
    · obtain ⟨t0, t1⟩ := hT (k - 22) (by omega)
      obtain ⟨z, hz, hz2⟩ := mul_le_d hf t1
      obtain ⟨g1, g2⟩ := gt_le hz2
      by_cases h4 : 4831355200913801216 < z
      · exact ⟨z, false, by simp, fun w h10 hF => ex_d0 m hm k (by omega) T z 0 (by rw [g1]; exact decide_eq_true h4) hz w h10 hF⟩
      · obtain ⟨u0, u1⟩ := hT 22 (by omega)
        obtain ⟨z2, hy, hy2⟩ := mul_le_d (show z < fIN by omega) u1
        exact ⟨z2, true, fun _ => hy2, fun w h10 hF => ex_d1 m hm k (by omega) T z z2 (by rw [g1]; exact decide_eq_false h4) g2 hz hy w h10 hF⟩
  · exact ⟨_, false, by simp, fun w h10 hF => ex_big m e hm w hF⟩
end
section
open Go Go.ChangeShapes Go.WideShapes Go.RowKit
set_option linter.unusedVariables false
set_option linter.unusedSimpArgs false
def chkU : Option Value → Bool
  | some (.int .u8 n) => n == 0
  | _ => false
theorem chkU_eq (o : Option Value) (h : chkU o = true) : o = some (.int .u8 0) := by
  unfold chkU at h
  split at h
  · rw [eq_of_beq h]
  · cases h
theorem zd_at : ∀ j, j < 800 → (Tryz.zeroCells97)[j]? = some (.int .u8 0) := by
  intro j hj
  have h : ∀ j : Fin 800, chkU ((Tryz.zeroCells97)[j.val]?) = true := by decide +kernel
  exact chkU_eq _ (h ⟨j, hj⟩)
theorem zd_tail : (Tryz.zeroCells97)[800]? = some (.int .i64 0) ∧ (Tryz.zeroCells97)[801]? = some (.int .i64 0) ∧ (Tryz.zeroCells97)[802]? = some (.bool false) ∧ (Tryz.zeroCells97)[803]? = some (.bool false) := ⟨by kernel_rfl, by kernel_rfl, by kernel_rfl, by kernel_rfl⟩
/-- A new decimal is 0. -/
theorem dm_new (w : World) : DM (w.alloc (.cells Tryz.zeroCells97 97)) w.heap.size ⟨0, 0, 0, false⟩ false := by
  have hc := fun j => World.cell?_alloc_mark w Tryz.zeroCells97 97 (0, 0) j
  refine ⟨fun _ => 0, ⟨fun i hi => (hc i).trans (zd_at i hi), fun _ => by decide, fun i _ => by simp, (hc _).trans zd_tail.1, (hc _).trans zd_tail.2.1, (hc _).trans zd_tail.2.2.1, (hc _).trans zd_tail.2.2.2⟩, fun i hi => absurd hi (Nat.not_lt_zero i)⟩
end
end Go.Proofs.YtbhaigbgembcaaaGreatDoor
