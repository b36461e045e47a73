/- Numerals as a source writes them: the document's Numeral: the ways. Numerals as a source writes them: what both sides say. -/
import Derived.Test.YtbhaigbgembcaaaGreatDoorPGPiG
namespace Go.Proofs.YtbhaigbgembcaaaGreatDoor
section
open Go Go.ChangeShapes Go.WideShapes Go.RowKit Go.PlainAid
set_option linter.unusedVariables false
set_option linter.unusedSimpArgs false
set_option maxRecDepth 100000 in
theorem nu_p (s : ByteArray) (N o a a1 p p1 p2 z : Nat) (hN : s.size = N) (hl : N ≤ 1001) (r1 : ∀ W, Calls Tryz.prog 22 #[.string s, .int .i64 (o : Int)] W fun r w' => r = .returned (.int .i64 (o : Int)) ∧ W = w') (w : World) : Calls Tryz.prog 12 #[.string s, .int .i64 (o : Int)] w fun r w' => r = .returned (.bool false) ∧ w = w' := by
  have hb := get_bt s
  clear hl
  have H_r1 := Lib.hid r1
  clear r1
  go_enter Tryz.func12, Tryz.ntmps12
  go_wp2_with (first
    | (go_at_call 22; (with_reducible refine (H_r1.out _).mono ?_); rintro e w9 ⟨rfl, rfl⟩)
    | fail)
  go_ret
  exact ⟨rfl, rfl⟩
set_option maxRecDepth 100000 in
theorem nu_b (s : ByteArray) (N o a a1 p p1 p2 z : Nat) (hN : s.size = N) (hl : N ≤ 1001) (r1 : ∀ W, Calls Tryz.prog 22 #[.string s, .int .i64 (o : Int)] W fun r w' => r = .returned (.int .i64 (a : Int)) ∧ W = w') (hao : ¬ (a : Int) = (o : Int)) (haN : (a : Int) < (N : Int)) (h46 : (bt s a == 46) = true) (ha1 : a + 1 = a1) (haL : a < 1001) (r2 : ∀ W, Calls Tryz.prog 22 #[.string s, .int .i64 (a1 : Int)] W fun r w' => r = .returned (.int .i64 (a1 : Int)) ∧ W = w') (w : World) : Calls Tryz.prog 12 #[.string s, .int .i64 (o : Int)] w fun r w' => r = .returned (.bool false) ∧ w = w' := by
  have hb := get_bt s
  have wa1 : IntKind.i64.wrap ((a : Int) + 1) = (a1 : Int) := by rw [IntWalk.i64_in _ (by omega)]; omega
  clear ha1
  clear hl
  have H_r1 := Lib.hid r1
  have H_r2 := Lib.hid r2
  clear r1 r2
  go_enter Tryz.func12, Tryz.ntmps12
  go_wp2_with (first
    | (go_at_call 22; (with_reducible refine (H_r1.out _).mono ?_); rintro e w9 ⟨rfl, rfl⟩)
    | (go_at_call 22; (with_reducible refine (H_r2.out _).mono ?_); rintro e w9 ⟨rfl, rfl⟩)
    | fail)
  go_ret
  exact ⟨rfl, rfl⟩
set_option maxRecDepth 100000 in
theorem nu_z (s : ByteArray) (N o a a1 p p1 p2 z : Nat) (hN : s.size = N) (hl : N ≤ 1001) (r1 : ∀ W, Calls Tryz.prog 22 #[.string s, .int .i64 (o : Int)] W fun r w' => r = .returned (.int .i64 (N : Int)) ∧ W = w') (hao : ¬ (N : Int) = (o : Int)) (w : World) : Calls Tryz.prog 12 #[.string s, .int .i64 (o : Int)] w fun r w' => r = .returned (.bool true) ∧ w = w' := by
  have hb := get_bt s
  clear hl
  have H_r1 := Lib.hid r1
  clear r1
  go_enter Tryz.func12, Tryz.ntmps12
  go_wp2_with (first
    | (go_at_call 22; (with_reducible refine (H_r1.out _).mono ?_); rintro e w9 ⟨rfl, rfl⟩)
    | fail)
  go_ret
  exact ⟨rfl, rfl⟩
set_option maxRecDepth 100000 in
theorem nu_a_t2 (s : ByteArray) (N o a a1 p p1 p2 z : Nat) (hN : s.size = N) (hl : N ≤ 1001) (r1 : ∀ W, Calls Tryz.prog 22 #[.string s, .int .i64 (o : Int)] W fun r w' => r = .returned (.int .i64 (p : Int)) ∧ W = w') (hao : ¬ (p : Int) = (o : Int)) (haN : (p : Int) < (N : Int)) (h46 : (bt s p == 46) = false) (h101 : (bt s p == 101) = false) (hpe : ((p : Int) == (N : Int)) = false) (w : World) : Calls Tryz.prog 12 #[.string s, .int .i64 (o : Int)] w fun r w' => r = .returned (.bool false) ∧ w = w' := by
  have hb := get_bt s
  clear hl
  have H_r1 := Lib.hid r1
  clear r1
  go_enter Tryz.func12, Tryz.ntmps12
  go_wp2_with (first
    | (go_at_call 22; (with_reducible refine (H_r1.out _).mono ?_); rintro e w9 ⟨rfl, rfl⟩)
    | fail)
  go_ret
  exact ⟨rfl, rfl⟩
set_option maxRecDepth 100000 in
theorem nu_a_e1 (s : ByteArray) (N o a a1 p p1 p2 z : Nat) (hN : s.size = N) (hl : N ≤ 1001) (r1 : ∀ W, Calls Tryz.prog 22 #[.string s, .int .i64 (o : Int)] W fun r w' => r = .returned (.int .i64 (p : Int)) ∧ W = w') (hao : ¬ (p : Int) = (o : Int)) (haN : (p : Int) < (N : Int)) (h46 : (bt s p == 46) = false)  (h101 : (bt s p == 101) = true) (hp1 : p + 1 = p1) (hpL : p < 1001) (hpN1 : ¬ (p1 : Int) < (N : Int)) (r4 : ∀ W, Calls Tryz.prog 22 #[.string s, .int .i64 (p1 : Int)] W fun r w' => r = .returned (.int .i64 (p1 : Int)) ∧ W = w') (w : World) : Calls Tryz.prog 12 #[.string s, .int .i64 (o : Int)] w fun r w' => r = .returned (.bool false) ∧ w = w' := by
  have hb := get_bt s
  have wp1 : IntKind.i64.wrap ((p : Int) + 1) = (p1 : Int) := by rw [IntWalk.i64_in _ (by omega)]; omega
  clear hp1
  clear hl
  have H_r1 := Lib.hid r1
  have H_r4 := Lib.hid r4
  clear r1 r4
  go_enter Tryz.func12, Tryz.ntmps12
  go_wp2_with (first
    | (go_at_call 22; (with_reducible refine (H_r1.out _).mono ?_); rintro e w9 ⟨rfl, rfl⟩)
    | (go_at_call 22; (with_reducible refine (H_r4.out _).mono ?_); rintro e w9 ⟨rfl, rfl⟩)
    | fail)
  go_ret
  exact ⟨rfl, rfl⟩
set_option maxRecDepth 100000 in
theorem nu_a_nf (s : ByteArray) (N o a a1 p p1 p2 z : Nat) (hN : s.size = N) (hl : N ≤ 1001) (r1 : ∀ W, Calls Tryz.prog 22 #[.string s, .int .i64 (o : Int)] W fun r w' => r = .returned (.int .i64 (p : Int)) ∧ W = w') (hao : ¬ (p : Int) = (o : Int)) (haN : (p : Int) < (N : Int)) (h46 : (bt s p == 46) = false)  (h101 : (bt s p == 101) = true) (hp1 : p + 1 = p1) (hpL : p < 1001) (hpN1 : (p1 : Int) < (N : Int)) (h43 : (bt s p1 == 43) = false) (h45 : (bt s p1 == 45) = false) (r4 : ∀ W, Calls Tryz.prog 22 #[.string s, .int .i64 (p1 : Int)] W fun r w' => r = .returned (.int .i64 (p1 : Int)) ∧ W = w') (w : World) : Calls Tryz.prog 12 #[.string s, .int .i64 (o : Int)] w fun r w' => r = .returned (.bool false) ∧ w = w' := by
  have hb := get_bt s
  have wp1 : IntKind.i64.wrap ((p : Int) + 1) = (p1 : Int) := by rw [IntWalk.i64_in _ (by omega)]; omega
  clear hp1
  clear hl
  have H_r1 := Lib.hid r1
  have H_r4 := Lib.hid r4
  clear r1 r4
  go_enter Tryz.func12, Tryz.ntmps12
  go_wp2_with (first
    | (go_at_call 22; (with_reducible refine (H_r1.out _).mono ?_); rintro e w9 ⟨rfl, rfl⟩)
    | (go_at_call 22; (with_reducible refine (H_r4.out _).mono ?_); rintro e w9 ⟨rfl, rfl⟩)
    | fail)
  go_ret
  exact ⟨rfl, rfl⟩
set_option maxRecDepth 100000 in
theorem nu_a_n0 (s : ByteArray) (N o a a1 p p1 p2 z : Nat) (hN : s.size = N) (hl : N ≤ 1001) (r1 : ∀ W, Calls Tryz.prog 22 #[.string s, .int .i64 (o : Int)] W fun r w' => r = .returned (.int .i64 (p : Int)) ∧ W = w') (hao : ¬ (p : Int) = (o : Int)) (haN : (p : Int) < (N : Int)) (h46 : (bt s p == 46) = false)  (h101 : (bt s p == 101) = true) (hp1 : p + 1 = p1) (hpL : p < 1001) (hpN1 : (p1 : Int) < (N : Int)) (h43 : (bt s p1 == 43) = false) (h45 : (bt s p1 == 45) = false) (r4 : ∀ W, Calls Tryz.prog 22 #[.string s, .int .i64 (p1 : Int)] W fun r w' => r = .returned (.int .i64 (z : Int)) ∧ W = w') (hz : ¬ (z : Int) = (p1 : Int)) (hzN : ((z : Int) == (N : Int)) = false) (w : World) : Calls Tryz.prog 12 #[.string s, .int .i64 (o : Int)] w fun r w' => r = .returned (.bool false) ∧ w = w' := by
  have hb := get_bt s
  have wp1 : IntKind.i64.wrap ((p : Int) + 1) = (p1 : Int) := by rw [IntWalk.i64_in _ (by omega)]; omega
  clear hp1
  clear hl
  have H_r1 := Lib.hid r1
  have H_r4 := Lib.hid r4
  clear r1 r4
  go_enter Tryz.func12, Tryz.ntmps12
  go_wp2_with (first
    | (go_at_call 22; (with_reducible refine (H_r1.out _).mono ?_); rintro e w9 ⟨rfl, rfl⟩)
    | (go_at_call 22; (with_reducible refine (H_r4.out _).mono ?_); rintro e w9 ⟨rfl, rfl⟩)
    | fail)
  go_ret
  exact ⟨rfl, rfl⟩
set_option maxRecDepth 100000 in
theorem nu_a_n1 (s : ByteArray) (N o a a1 p p1 p2 z : Nat) (hN : s.size = N) (hl : N ≤ 1001) (r1 : ∀ W, Calls Tryz.prog 22 #[.string s, .int .i64 (o : Int)] W fun r w' => r = .returned (.int .i64 (p : Int)) ∧ W = w') (hao : ¬ (p : Int) = (o : Int)) (haN : (p : Int) < (N : Int)) (h46 : (bt s p == 46) = false)  (h101 : (bt s p == 101) = true) (hp1 : p + 1 = p1) (hpL : p < 1001) (hpN1 : (p1 : Int) < (N : Int)) (h43 : (bt s p1 == 43) = false) (h45 : (bt s p1 == 45) = false) (r4 : ∀ W, Calls Tryz.prog 22 #[.string s, .int .i64 (p1 : Int)] W fun r w' => r = .returned (.int .i64 (N : Int)) ∧ W = w') (hz : ¬ (N : Int) = (p1 : Int)) (w : World) : Calls Tryz.prog 12 #[.string s, .int .i64 (o : Int)] w fun r w' => r = .returned (.bool true) ∧ w = w' := by
  have hb := get_bt s
  have wp1 : IntKind.i64.wrap ((p : Int) + 1) = (p1 : Int) := by rw [IntWalk.i64_in _ (by omega)]; omega
  clear hp1
  clear hl
  have H_r1 := Lib.hid r1
  have H_r4 := Lib.hid r4
  clear r1 r4
  go_enter Tryz.func12, Tryz.ntmps12
  go_wp2_with (first
    | (go_at_call 22; (with_reducible refine (H_r1.out _).mono ?_); rintro e w9 ⟨rfl, rfl⟩)
    | (go_at_call 22; (with_reducible refine (H_r4.out _).mono ?_); rintro e w9 ⟨rfl, rfl⟩)
    | fail)
  go_ret
  exact ⟨rfl, rfl⟩
set_option maxRecDepth 100000 in
theorem nu_a_uf (s : ByteArray) (N o a a1 p p1 p2 z : Nat) (hN : s.size = N) (hl : N ≤ 1001) (r1 : ∀ W, Calls Tryz.prog 22 #[.string s, .int .i64 (o : Int)] W fun r w' => r = .returned (.int .i64 (p : Int)) ∧ W = w') (hao : ¬ (p : Int) = (o : Int)) (haN : (p : Int) < (N : Int)) (h46 : (bt s p == 46) = false)  (h101 : (bt s p == 101) = true) (hp1 : p + 1 = p1) (hpL : p < 1001) (hpN1 : (p1 : Int) < (N : Int)) (h43 : (bt s p1 == 43) = true) (hp2 : p1 + 1 = p2) (hp1L : p1 < 1002) (r4 : ∀ W, Calls Tryz.prog 22 #[.string s, .int .i64 (p2 : Int)] W fun r w' => r = .returned (.int .i64 (p2 : Int)) ∧ W = w') (w : World) : Calls Tryz.prog 12 #[.string s, .int .i64 (o : Int)] w fun r w' => r = .returned (.bool false) ∧ w = w' := by
  have hb := get_bt s
  have wp1 : IntKind.i64.wrap ((p : Int) + 1) = (p1 : Int) := by rw [IntWalk.i64_in _ (by omega)]; omega
  have wp2 : IntKind.i64.wrap ((p1 : Int) + 1) = (p2 : Int) := by rw [IntWalk.i64_in _ (by omega)]; omega
  clear hp1
  clear hp2
  clear hl
  have H_r1 := Lib.hid r1
  have H_r4 := Lib.hid r4
  clear r1 r4
  go_enter Tryz.func12, Tryz.ntmps12
  go_wp2_with (first
    | (go_at_call 22; (with_reducible refine (H_r1.out _).mono ?_); rintro e w9 ⟨rfl, rfl⟩)
    | (go_at_call 22; (with_reducible refine (H_r4.out _).mono ?_); rintro e w9 ⟨rfl, rfl⟩)
    | fail)
  go_ret
  exact ⟨rfl, rfl⟩
set_option maxRecDepth 100000 in
theorem nu_a_u0 (s : ByteArray) (N o a a1 p p1 p2 z : Nat) (hN : s.size = N) (hl : N ≤ 1001) (r1 : ∀ W, Calls Tryz.prog 22 #[.string s, .int .i64 (o : Int)] W fun r w' => r = .returned (.int .i64 (p : Int)) ∧ W = w') (hao : ¬ (p : Int) = (o : Int)) (haN : (p : Int) < (N : Int)) (h46 : (bt s p == 46) = false)  (h101 : (bt s p == 101) = true) (hp1 : p + 1 = p1) (hpL : p < 1001) (hpN1 : (p1 : Int) < (N : Int)) (h43 : (bt s p1 == 43) = true) (hp2 : p1 + 1 = p2) (hp1L : p1 < 1002) (r4 : ∀ W, Calls Tryz.prog 22 #[.string s, .int .i64 (p2 : Int)] W fun r w' => r = .returned (.int .i64 (z : Int)) ∧ W = w') (hz : ¬ (z : Int) = (p2 : Int)) (hzN : ((z : Int) == (N : Int)) = false) (w : World) : Calls Tryz.prog 12 #[.string s, .int .i64 (o : Int)] w fun r w' => r = .returned (.bool false) ∧ w = w' := by
  have hb := get_bt s
  have wp1 : IntKind.i64.wrap ((p : Int) + 1) = (p1 : Int) := by rw [IntWalk.i64_in _ (by omega)]; omega
  have wp2 : IntKind.i64.wrap ((p1 : Int) + 1) = (p2 : Int) := by rw [IntWalk.i64_in _ (by omega)]; omega
  clear hp1
  clear hp2
  clear hl
  have H_r1 := Lib.hid r1
  have H_r4 := Lib.hid r4
  clear r1 r4
  go_enter Tryz.func12, Tryz.ntmps12
  go_wp2_with (first
    | (go_at_call 22; (with_reducible refine (H_r1.out _).mono ?_); rintro e w9 ⟨rfl, rfl⟩)
    | (go_at_call 22; (with_reducible refine (H_r4.out _).mono ?_); rintro e w9 ⟨rfl, rfl⟩)
    | fail)
  go_ret
  exact ⟨rfl, rfl⟩
set_option maxRecDepth 100000 in
theorem nu_a_u1 (s : ByteArray) (N o a a1 p p1 p2 z : Nat) (hN : s.size = N) (hl : N ≤ 1001) (r1 : ∀ W, Calls Tryz.prog 22 #[.string s, .int .i64 (o : Int)] W fun r w' => r = .returned (.int .i64 (p : Int)) ∧ W = w') (hao : ¬ (p : Int) = (o : Int)) (haN : (p : Int) < (N : Int)) (h46 : (bt s p == 46) = false)  (h101 : (bt s p == 101) = true) (hp1 : p + 1 = p1) (hpL : p < 1001) (hpN1 : (p1 : Int) < (N : Int)) (h43 : (bt s p1 == 43) = true) (hp2 : p1 + 1 = p2) (hp1L : p1 < 1002) (r4 : ∀ W, Calls Tryz.prog 22 #[.string s, .int .i64 (p2 : Int)] W fun r w' => r = .returned (.int .i64 (N : Int)) ∧ W = w') (hz : ¬ (N : Int) = (p2 : Int)) (w : World) : Calls Tryz.prog 12 #[.string s, .int .i64 (o : Int)] w fun r w' => r = .returned (.bool true) ∧ w = w' := by
  have hb := get_bt s
  have wp1 : IntKind.i64.wrap ((p : Int) + 1) = (p1 : Int) := by rw [IntWalk.i64_in _ (by omega)]; omega
  have wp2 : IntKind.i64.wrap ((p1 : Int) + 1) = (p2 : Int) := by rw [IntWalk.i64_in _ (by omega)]; omega
  clear hp1
  clear hp2
  clear hl
  have H_r1 := Lib.hid r1
  have H_r4 := Lib.hid r4
  clear r1 r4
  go_enter Tryz.func12, Tryz.ntmps12
  go_wp2_with (first
    | (go_at_call 22; (with_reducible refine (H_r1.out _).mono ?_); rintro e w9 ⟨rfl, rfl⟩)
    | (go_at_call 22; (with_reducible refine (H_r4.out _).mono ?_); rintro e w9 ⟨rfl, rfl⟩)
    | fail)
  go_ret
  exact ⟨rfl, rfl⟩
set_option maxRecDepth 100000 in
theorem nu_a_mf (s : ByteArray) (N o a a1 p p1 p2 z : Nat) (hN : s.size = N) (hl : N ≤ 1001) (r1 : ∀ W, Calls Tryz.prog 22 #[.string s, .int .i64 (o : Int)] W fun r w' => r = .returned (.int .i64 (p : Int)) ∧ W = w') (hao : ¬ (p : Int) = (o : Int)) (haN : (p : Int) < (N : Int)) (h46 : (bt s p == 46) = false)  (h101 : (bt s p == 101) = true) (hp1 : p + 1 = p1) (hpL : p < 1001) (hpN1 : (p1 : Int) < (N : Int)) (h43 : (bt s p1 == 43) = false) (h45 : (bt s p1 == 45) = true) (hp2 : p1 + 1 = p2) (hp1L : p1 < 1002) (r4 : ∀ W, Calls Tryz.prog 22 #[.string s, .int .i64 (p2 : Int)] W fun r w' => r = .returned (.int .i64 (p2 : Int)) ∧ W = w') (w : World) : Calls Tryz.prog 12 #[.string s, .int .i64 (o : Int)] w fun r w' => r = .returned (.bool false) ∧ w = w' := by
  have hb := get_bt s
  have wp1 : IntKind.i64.wrap ((p : Int) + 1) = (p1 : Int) := by rw [IntWalk.i64_in _ (by omega)]; omega
  have wp2 : IntKind.i64.wrap ((p1 : Int) + 1) = (p2 : Int) := by rw [IntWalk.i64_in _ (by omega)]; omega
  clear hp1
  clear hp2
  clear hl
  have H_r1 := Lib.hid r1
  have H_r4 := Lib.hid r4
  clear r1 r4
  go_enter Tryz.func12, Tryz.ntmps12
  go_wp2_with (first
    | (go_at_call 22; (with_reducible refine (H_r1.out _).mono ?_); rintro e w9 ⟨rfl, rfl⟩)
    | (go_at_call 22; (with_reducible refine (H_r4.out _).mono ?_); rintro e w9 ⟨rfl, rfl⟩)
    | fail)
  go_ret
  exact ⟨rfl, rfl⟩
set_option maxRecDepth 100000 in
theorem nu_a_m0 (s : ByteArray) (N o a a1 p p1 p2 z : Nat) (hN : s.size = N) (hl : N ≤ 1001) (r1 : ∀ W, Calls Tryz.prog 22 #[.string s, .int .i64 (o : Int)] W fun r w' => r = .returned (.int .i64 (p : Int)) ∧ W = w') (hao : ¬ (p : Int) = (o : Int)) (haN : (p : Int) < (N : Int)) (h46 : (bt s p == 46) = false)  (h101 : (bt s p == 101) = true) (hp1 : p + 1 = p1) (hpL : p < 1001) (hpN1 : (p1 : Int) < (N : Int)) (h43 : (bt s p1 == 43) = false) (h45 : (bt s p1 == 45) = true) (hp2 : p1 + 1 = p2) (hp1L : p1 < 1002) (r4 : ∀ W, Calls Tryz.prog 22 #[.string s, .int .i64 (p2 : Int)] W fun r w' => r = .returned (.int .i64 (z : Int)) ∧ W = w') (hz : ¬ (z : Int) = (p2 : Int)) (hzN : ((z : Int) == (N : Int)) = false) (w : World) : Calls Tryz.prog 12 #[.string s, .int .i64 (o : Int)] w fun r w' => r = .returned (.bool false) ∧ w = w' := by
  have hb := get_bt s
  have wp1 : IntKind.i64.wrap ((p : Int) + 1) = (p1 : Int) := by rw [IntWalk.i64_in _ (by omega)]; omega
  have wp2 : IntKind.i64.wrap ((p1 : Int) + 1) = (p2 : Int) := by rw [IntWalk.i64_in _ (by omega)]; omega
  clear hp1
  clear hp2
  clear hl
  have H_r1 := Lib.hid r1
  have H_r4 := Lib.hid r4
  clear r1 r4
  go_enter Tryz.func12, Tryz.ntmps12
  go_wp2_with (first
    | (go_at_call 22; (with_reducible refine (H_r1.out _).mono ?_); rintro e w9 ⟨rfl, rfl⟩)
    | (go_at_call 22; (with_reducible refine (H_r4.out _).mono ?_); rintro e w9 ⟨rfl, rfl⟩)
    | fail)
  go_ret
  exact ⟨rfl, rfl⟩
set_option maxRecDepth 100000 in
theorem nu_a_m1 (s : ByteArray) (N o a a1 p p1 p2 z : Nat) (hN : s.size = N) (hl : N ≤ 1001) (r1 : ∀ W, Calls Tryz.prog 22 #[.string s, .int .i64 (o : Int)] W fun r w' => r = .returned (.int .i64 (p : Int)) ∧ W = w') (hao : ¬ (p : Int) = (o : Int)) (haN : (p : Int) < (N : Int)) (h46 : (bt s p == 46) = false)  (h101 : (bt s p == 101) = true) (hp1 : p + 1 = p1) (hpL : p < 1001) (hpN1 : (p1 : Int) < (N : Int)) (h43 : (bt s p1 == 43) = false) (h45 : (bt s p1 == 45) = true) (hp2 : p1 + 1 = p2) (hp1L : p1 < 1002) (r4 : ∀ W, Calls Tryz.prog 22 #[.string s, .int .i64 (p2 : Int)] W fun r w' => r = .returned (.int .i64 (N : Int)) ∧ W = w') (hz : ¬ (N : Int) = (p2 : Int)) (w : World) : Calls Tryz.prog 12 #[.string s, .int .i64 (o : Int)] w fun r w' => r = .returned (.bool true) ∧ w = w' := by
  have hb := get_bt s
  have wp1 : IntKind.i64.wrap ((p : Int) + 1) = (p1 : Int) := by rw [IntWalk.i64_in _ (by omega)]; omega
  have wp2 : IntKind.i64.wrap ((p1 : Int) + 1) = (p2 : Int) := by rw [IntWalk.i64_in _ (by omega)]; omega
  clear hp1
  clear hp2
  clear hl
  have H_r1 := Lib.hid r1
  have H_r4 := Lib.hid r4
  clear r1 r4
  go_enter Tryz.func12, Tryz.ntmps12
  go_wp2_with (first
    | (go_at_call 22; (with_reducible refine (H_r1.out _).mono ?_); rintro e w9 ⟨rfl, rfl⟩)
    | (go_at_call 22; (with_reducible refine (H_r4.out _).mono ?_); rintro e w9 ⟨rfl, rfl⟩)
    | fail)
  go_ret
  exact ⟨rfl, rfl⟩
set_option maxRecDepth 100000 in
theorem nu_c_t2 (s : ByteArray) (N o a a1 p p1 p2 z : Nat) (hN : s.size = N) (hl : N ≤ 1001) (r1 : ∀ W, Calls Tryz.prog 22 #[.string s, .int .i64 (o : Int)] W fun r w' => r = .returned (.int .i64 (a : Int)) ∧ W = w') (hao : ¬ (a : Int) = (o : Int)) (haN : (a : Int) < (N : Int)) (h46 : (bt s a == 46) = true) (ha1 : a + 1 = a1) (haL : a < 1001) (r2 : ∀ W, Calls Tryz.prog 22 #[.string s, .int .i64 (a1 : Int)] W fun r w' => r = .returned (.int .i64 (p : Int)) ∧ W = w') (hpa : ¬ (p : Int) = (a1 : Int)) (hpN : (p : Int) < (N : Int)) (h101 : (bt s p == 101) = false) (hpe : ((p : Int) == (N : Int)) = false) (w : World) : Calls Tryz.prog 12 #[.string s, .int .i64 (o : Int)] w fun r w' => r = .returned (.bool false) ∧ w = w' := by
  have hb := get_bt s
  have wa1 : IntKind.i64.wrap ((a : Int) + 1) = (a1 : Int) := by rw [IntWalk.i64_in _ (by omega)]; omega
  clear ha1
  clear hl
  have H_r1 := Lib.hid r1
  have H_r2 := Lib.hid r2
  clear r1 r2
  go_enter Tryz.func12, Tryz.ntmps12
  go_wp2_with (first
    | (go_at_call 22; (with_reducible refine (H_r1.out _).mono ?_); rintro e w9 ⟨rfl, rfl⟩)
    | (go_at_call 22; (with_reducible refine (H_r2.out _).mono ?_); rintro e w9 ⟨rfl, rfl⟩)
    | fail)
  go_ret
  exact ⟨rfl, rfl⟩
set_option maxRecDepth 100000 in
theorem nu_c_e1 (s : ByteArray) (N o a a1 p p1 p2 z : Nat) (hN : s.size = N) (hl : N ≤ 1001) (r1 : ∀ W, Calls Tryz.prog 22 #[.string s, .int .i64 (o : Int)] W fun r w' => r = .returned (.int .i64 (a : Int)) ∧ W = w') (hao : ¬ (a : Int) = (o : Int)) (haN : (a : Int) < (N : Int)) (h46 : (bt s a == 46) = true) (ha1 : a + 1 = a1) (haL : a < 1001) (r2 : ∀ W, Calls Tryz.prog 22 #[.string s, .int .i64 (a1 : Int)] W fun r w' => r = .returned (.int .i64 (p : Int)) ∧ W = w') (hpa : ¬ (p : Int) = (a1 : Int)) (hpN : (p : Int) < (N : Int)) (h101 : (bt s p == 101) = true) (hp1 : p + 1 = p1) (hpL : p < 1001) (hpN1 : ¬ (p1 : Int) < (N : Int)) (r4 : ∀ W, Calls Tryz.prog 22 #[.string s, .int .i64 (p1 : Int)] W fun r w' => r = .returned (.int .i64 (p1 : Int)) ∧ W = w') (w : World) : Calls Tryz.prog 12 #[.string s, .int .i64 (o : Int)] w fun r w' => r = .returned (.bool false) ∧ w = w' := by
  have hb := get_bt s
  have wa1 : IntKind.i64.wrap ((a : Int) + 1) = (a1 : Int) := by rw [IntWalk.i64_in _ (by omega)]; omega
  have wp1 : IntKind.i64.wrap ((p : Int) + 1) = (p1 : Int) := by rw [IntWalk.i64_in _ (by omega)]; omega
  clear ha1
  clear hp1
  clear hl
  have H_r1 := Lib.hid r1
  have H_r2 := Lib.hid r2
  have H_r4 := Lib.hid r4
  clear r1 r2 r4
  go_enter Tryz.func12, Tryz.ntmps12
  go_wp2_with (first
    | (go_at_call 22; (with_reducible refine (H_r1.out _).mono ?_); rintro e w9 ⟨rfl, rfl⟩)
    | (go_at_call 22; (with_reducible refine (H_r2.out _).mono ?_); rintro e w9 ⟨rfl, rfl⟩)
    | (go_at_call 22; (with_reducible refine (H_r4.out _).mono ?_); rintro e w9 ⟨rfl, rfl⟩)
    | fail)
  go_ret
  exact ⟨rfl, rfl⟩
set_option maxRecDepth 100000 in
theorem nu_c_nf (s : ByteArray) (N o a a1 p p1 p2 z : Nat) (hN : s.size = N) (hl : N ≤ 1001) (r1 : ∀ W, Calls Tryz.prog 22 #[.string s, .int .i64 (o : Int)] W fun r w' => r = .returned (.int .i64 (a : Int)) ∧ W = w') (hao : ¬ (a : Int) = (o : Int)) (haN : (a : Int) < (N : Int)) (h46 : (bt s a == 46) = true) (ha1 : a + 1 = a1) (haL : a < 1001) (r2 : ∀ W, Calls Tryz.prog 22 #[.string s, .int .i64 (a1 : Int)] W fun r w' => r = .returned (.int .i64 (p : Int)) ∧ W = w') (hpa : ¬ (p : Int) = (a1 : Int)) (hpN : (p : Int) < (N : Int)) (h101 : (bt s p == 101) = true) (hp1 : p + 1 = p1) (hpL : p < 1001) (hpN1 : (p1 : Int) < (N : Int)) (h43 : (bt s p1 == 43) = false) (h45 : (bt s p1 == 45) = false) (r4 : ∀ W, Calls Tryz.prog 22 #[.string s, .int .i64 (p1 : Int)] W fun r w' => r = .returned (.int .i64 (p1 : Int)) ∧ W = w') (w : World) : Calls Tryz.prog 12 #[.string s, .int .i64 (o : Int)] w fun r w' => r = .returned (.bool false) ∧ w = w' := by
  have hb := get_bt s
  have wa1 : IntKind.i64.wrap ((a : Int) + 1) = (a1 : Int) := by rw [IntWalk.i64_in _ (by omega)]; omega
  have wp1 : IntKind.i64.wrap ((p : Int) + 1) = (p1 : Int) := by rw [IntWalk.i64_in _ (by omega)]; omega
  clear ha1
  clear hp1
  clear hl
  have H_r1 := Lib.hid r1
  have H_r2 := Lib.hid r2
  have H_r4 := Lib.hid r4
  clear r1 r2 r4
  go_enter Tryz.func12, Tryz.ntmps12
  go_wp2_with (first
    | (go_at_call 22; (with_reducible refine (H_r1.out _).mono ?_); rintro e w9 ⟨rfl, rfl⟩)
    | (go_at_call 22; (with_reducible refine (H_r2.out _).mono ?_); rintro e w9 ⟨rfl, rfl⟩)
    | (go_at_call 22; (with_reducible refine (H_r4.out _).mono ?_); rintro e w9 ⟨rfl, rfl⟩)
    | fail)
  go_ret
  exact ⟨rfl, rfl⟩
set_option maxRecDepth 100000 in
theorem nu_c_n0 (s : ByteArray) (N o a a1 p p1 p2 z : Nat) (hN : s.size = N) (hl : N ≤ 1001) (r1 : ∀ W, Calls Tryz.prog 22 #[.string s, .int .i64 (o : Int)] W fun r w' => r = .returned (.int .i64 (a : Int)) ∧ W = w') (hao : ¬ (a : Int) = (o : Int)) (haN : (a : Int) < (N : Int)) (h46 : (bt s a == 46) = true) (ha1 : a + 1 = a1) (haL : a < 1001) (r2 : ∀ W, Calls Tryz.prog 22 #[.string s, .int .i64 (a1 : Int)] W fun r w' => r = .returned (.int .i64 (p : Int)) ∧ W = w') (hpa : ¬ (p : Int) = (a1 : Int)) (hpN : (p : Int) < (N : Int)) (h101 : (bt s p == 101) = true) (hp1 : p + 1 = p1) (hpL : p < 1001) (hpN1 : (p1 : Int) < (N : Int)) (h43 : (bt s p1 == 43) = false) (h45 : (bt s p1 == 45) = false) (r4 : ∀ W, Calls Tryz.prog 22 #[.string s, .int .i64 (p1 : Int)] W fun r w' => r = .returned (.int .i64 (z : Int)) ∧ W = w') (hz : ¬ (z : Int) = (p1 : Int)) (hzN : ((z : Int) == (N : Int)) = false) (w : World) : Calls Tryz.prog 12 #[.string s, .int .i64 (o : Int)] w fun r w' => r = .returned (.bool false) ∧ w = w' := by
  have hb := get_bt s
  have wa1 : IntKind.i64.wrap ((a : Int) + 1) = (a1 : Int) := by rw [IntWalk.i64_in _ (by omega)]; omega
  have wp1 : IntKind.i64.wrap ((p : Int) + 1) = (p1 : Int) := by rw [IntWalk.i64_in _ (by omega)]; omega
  clear ha1
  clear hp1
  clear hl
  have H_r1 := Lib.hid r1
  have H_r2 := Lib.hid r2
  have H_r4 := Lib.hid r4
  clear r1 r2 r4
  go_enter Tryz.func12, Tryz.ntmps12
  go_wp2_with (first
    | (go_at_call 22; (with_reducible refine (H_r1.out _).mono ?_); rintro e w9 ⟨rfl, rfl⟩)
    | (go_at_call 22; (with_reducible refine (H_r2.out _).mono ?_); rintro e w9 ⟨rfl, rfl⟩)
    | (go_at_call 22; (with_reducible refine (H_r4.out _).mono ?_); rintro e w9 ⟨rfl, rfl⟩)
    | fail)
  go_ret
  exact ⟨rfl, rfl⟩
set_option maxRecDepth 100000 in
theorem nu_c_n1 (s : ByteArray) (N o a a1 p p1 p2 z : Nat) (hN : s.size = N) (hl : N ≤ 1001) (r1 : ∀ W, Calls Tryz.prog 22 #[.string s, .int .i64 (o : Int)] W fun r w' => r = .returned (.int .i64 (a : Int)) ∧ W = w') (hao : ¬ (a : Int) = (o : Int)) (haN : (a : Int) < (N : Int)) (h46 : (bt s a == 46) = true) (ha1 : a + 1 = a1) (haL : a < 1001) (r2 : ∀ W, Calls Tryz.prog 22 #[.string s, .int .i64 (a1 : Int)] W fun r w' => r = .returned (.int .i64 (p : Int)) ∧ W = w') (hpa : ¬ (p : Int) = (a1 : Int)) (hpN : (p : Int) < (N : Int)) (h101 : (bt s p == 101) = true) (hp1 : p + 1 = p1) (hpL : p < 1001) (hpN1 : (p1 : Int) < (N : Int)) (h43 : (bt s p1 == 43) = false) (h45 : (bt s p1 == 45) = false) (r4 : ∀ W, Calls Tryz.prog 22 #[.string s, .int .i64 (p1 : Int)] W fun r w' => r = .returned (.int .i64 (N : Int)) ∧ W = w') (hz : ¬ (N : Int) = (p1 : Int)) (w : World) : Calls Tryz.prog 12 #[.string s, .int .i64 (o : Int)] w fun r w' => r = .returned (.bool true) ∧ w = w' := by
  have hb := get_bt s
  have wa1 : IntKind.i64.wrap ((a : Int) + 1) = (a1 : Int) := by rw [IntWalk.i64_in _ (by omega)]; omega
  have wp1 : IntKind.i64.wrap ((p : Int) + 1) = (p1 : Int) := by rw [IntWalk.i64_in _ (by omega)]; omega
  clear ha1
  clear hp1
  clear hl
  have H_r1 := Lib.hid r1
  have H_r2 := Lib.hid r2
  have H_r4 := Lib.hid r4
  clear r1 r2 r4
  go_enter Tryz.func12, Tryz.ntmps12
  go_wp2_with (first
    | (go_at_call 22; (with_reducible refine (H_r1.out _).mono ?_); rintro e w9 ⟨rfl, rfl⟩)
    | (go_at_call 22; (with_reducible refine (H_r2.out _).mono ?_); rintro e w9 ⟨rfl, rfl⟩)
    | (go_at_call 22; (with_reducible refine (H_r4.out _).mono ?_); rintro e w9 ⟨rfl, rfl⟩)
    | fail)
  go_ret
  exact ⟨rfl, rfl⟩
set_option maxRecDepth 100000 in
theorem nu_c_uf (s : ByteArray) (N o a a1 p p1 p2 z : Nat) (hN : s.size = N) (hl : N ≤ 1001) (r1 : ∀ W, Calls Tryz.prog 22 #[.string s, .int .i64 (o : Int)] W fun r w' => r = .returned (.int .i64 (a : Int)) ∧ W = w') (hao : ¬ (a : Int) = (o : Int)) (haN : (a : Int) < (N : Int)) (h46 : (bt s a == 46) = true) (ha1 : a + 1 = a1) (haL : a < 1001) (r2 : ∀ W, Calls Tryz.prog 22 #[.string s, .int .i64 (a1 : Int)] W fun r w' => r = .returned (.int .i64 (p : Int)) ∧ W = w') (hpa : ¬ (p : Int) = (a1 : Int)) (hpN : (p : Int) < (N : Int)) (h101 : (bt s p == 101) = true) (hp1 : p + 1 = p1) (hpL : p < 1001) (hpN1 : (p1 : Int) < (N : Int)) (h43 : (bt s p1 == 43) = true) (hp2 : p1 + 1 = p2) (hp1L : p1 < 1002) (r4 : ∀ W, Calls Tryz.prog 22 #[.string s, .int .i64 (p2 : Int)] W fun r w' => r = .returned (.int .i64 (p2 : Int)) ∧ W = w') (w : World) : Calls Tryz.prog 12 #[.string s, .int .i64 (o : Int)] w fun r w' => r = .returned (.bool false) ∧ w = w' := by
  have hb := get_bt s
  have wa1 : IntKind.i64.wrap ((a : Int) + 1) = (a1 : Int) := by rw [IntWalk.i64_in _ (by omega)]; omega
  have wp1 : IntKind.i64.wrap ((p : Int) + 1) = (p1 : Int) := by rw [IntWalk.i64_in _ (by omega)]; omega
  have wp2 : IntKind.i64.wrap ((p1 : Int) + 1) = (p2 : Int) := by rw [IntWalk.i64_in _ (by omega)]; omega
  clear ha1
  clear hp1
  clear hp2
  clear hl
  have H_r1 := Lib.hid r1
  have H_r2 := Lib.hid r2
  have H_r4 := Lib.hid r4
  clear r1 r2 r4
  go_enter Tryz.func12, Tryz.ntmps12
  go_wp2_with (first
    | (go_at_call 22; (with_reducible refine (H_r1.out _).mono ?_); rintro e w9 ⟨rfl, rfl⟩)
    | (go_at_call 22; (with_reducible refine (H_r2.out _).mono ?_); rintro e w9 ⟨rfl, rfl⟩)
    | (go_at_call 22; (with_reducible refine (H_r4.out _).mono ?_); rintro e w9 ⟨rfl, rfl⟩)
    | fail)
  go_ret
  exact ⟨rfl, rfl⟩
set_option maxRecDepth 100000 in
theorem nu_c_u0 (s : ByteArray) (N o a a1 p p1 p2 z : Nat) (hN : s.size = N) (hl : N ≤ 1001) (r1 : ∀ W, Calls Tryz.prog 22 #[.string s, .int .i64 (o : Int)] W fun r w' => r = .returned (.int .i64 (a : Int)) ∧ W = w') (hao : ¬ (a : Int) = (o : Int)) (haN : (a : Int) < (N : Int)) (h46 : (bt s a == 46) = true) (ha1 : a + 1 = a1) (haL : a < 1001) (r2 : ∀ W, Calls Tryz.prog 22 #[.string s, .int .i64 (a1 : Int)] W fun r w' => r = .returned (.int .i64 (p : Int)) ∧ W = w') (hpa : ¬ (p : Int) = (a1 : Int)) (hpN : (p : Int) < (N : Int)) (h101 : (bt s p == 101) = true) (hp1 : p + 1 = p1) (hpL : p < 1001) (hpN1 : (p1 : Int) < (N : Int)) (h43 : (bt s p1 == 43) = true) (hp2 : p1 + 1 = p2) (hp1L : p1 < 1002) (r4 : ∀ W, Calls Tryz.prog 22 #[.string s, .int .i64 (p2 : Int)] W fun r w' => r = .returned (.int .i64 (z : Int)) ∧ W = w') (hz : ¬ (z : Int) = (p2 : Int)) (hzN : ((z : Int) == (N : Int)) = false) (w : World) : Calls Tryz.prog 12 #[.string s, .int .i64 (o : Int)] w fun r w' => r = .returned (.bool false) ∧ w = w' := by
  have hb := get_bt s
  have wa1 : IntKind.i64.wrap ((a : Int) + 1) = (a1 : Int) := by rw [IntWalk.i64_in _ (by omega)]; omega
  have wp1 : IntKind.i64.wrap ((p : Int) + 1) = (p1 : Int) := by rw [IntWalk.i64_in _ (by omega)]; omega
  have wp2 : IntKind.i64.wrap ((p1 : Int) + 1) = (p2 : Int) := by rw [IntWalk.i64_in _ (by omega)]; omega
  clear ha1
  clear hp1
  clear hp2
  clear hl
  have H_r1 := Lib.hid r1
  have H_r2 := Lib.hid r2
  have H_r4 := Lib.hid r4
  clear r1 r2 r4
  go_enter Tryz.func12, Tryz.ntmps12
  go_wp2_with (first
    | (go_at_call 22; (with_reducible refine (H_r1.out _).mono ?_); rintro e w9 ⟨rfl, rfl⟩)
    | (go_at_call 22; (with_reducible refine (H_r2.out _).mono ?_); rintro e w9 ⟨rfl, rfl⟩)
    | (go_at_call 22; (with_reducible refine (H_r4.out _).mono ?_); rintro e w9 ⟨rfl, rfl⟩)
    | fail)
  go_ret
  exact ⟨rfl, rfl⟩
set_option maxRecDepth 100000 in
theorem nu_c_u1 (s : ByteArray) (N o a a1 p p1 p2 z : Nat) (hN : s.size = N) (hl : N ≤ 1001) (r1 : ∀ W, Calls Tryz.prog 22 #[.string s, .int .i64 (o : Int)] W fun r w' => r = .returned (.int .i64 (a : Int)) ∧ W = w') (hao : ¬ (a : Int) = (o : Int)) (haN : (a : Int) < (N : Int)) (h46 : (bt s a == 46) = true) (ha1 : a + 1 = a1) (haL : a < 1001) (r2 : ∀ W, Calls Tryz.prog 22 #[.string s, .int .i64 (a1 : Int)] W fun r w' => r = .returned (.int .i64 (p : Int)) ∧ W = w') (hpa : ¬ (p : Int) = (a1 : Int)) (hpN : (p : Int) < (N : Int)) (h101 : (bt s p == 101) = true) (hp1 : p + 1 = p1) (hpL : p < 1001) (hpN1 : (p1 : Int) < (N : Int)) (h43 : (bt s p1 == 43) = true) (hp2 : p1 + 1 = p2) (hp1L : p1 < 1002) (r4 : ∀ W, Calls Tryz.prog 22 #[.string s, .int .i64 (p2 : Int)] W fun r w' => r = .returned (.int .i64 (N : Int)) ∧ W = w') (hz : ¬ (N : Int) = (p2 : Int)) (w : World) : Calls Tryz.prog 12 #[.string s, .int .i64 (o : Int)] w fun r w' => r = .returned (.bool true) ∧ w = w' := by
  have hb := get_bt s
  have wa1 : IntKind.i64.wrap ((a : Int) + 1) = (a1 : Int) := by rw [IntWalk.i64_in _ (by omega)]; omega
  have wp1 : IntKind.i64.wrap ((p : Int) + 1) = (p1 : Int) := by rw [IntWalk.i64_in _ (by omega)]; omega
  have wp2 : IntKind.i64.wrap ((p1 : Int) + 1) = (p2 : Int) := by rw [IntWalk.i64_in _ (by omega)]; omega
  clear ha1
  clear hp1
  clear hp2
  clear hl
  have H_r1 := Lib.hid r1
  have H_r2 := Lib.hid r2
  have H_r4 := Lib.hid r4
  clear r1 r2 r4
  go_enter Tryz.func12, Tryz.ntmps12
  go_wp2_with (first
    | (go_at_call 22; (with_reducible refine (H_r1.out _).mono ?_); rintro e w9 ⟨rfl, rfl⟩)
    | (go_at_call 22; (with_reducible refine (H_r2.out _).mono ?_); rintro e w9 ⟨rfl, rfl⟩)
    | (go_at_call 22; (with_reducible refine (H_r4.out _).mono ?_); rintro e w9 ⟨rfl, rfl⟩)
    | fail)
  go_ret
  exact ⟨rfl, rfl⟩
set_option maxRecDepth 100000 in
theorem nu_c_mf (s : ByteArray) (N o a a1 p p1 p2 z : Nat) (hN : s.size = N) (hl : N ≤ 1001) (r1 : ∀ W, Calls Tryz.prog 22 #[.string s, .int .i64 (o : Int)] W fun r w' => r = .returned (.int .i64 (a : Int)) ∧ W = w') (hao : ¬ (a : Int) = (o : Int)) (haN : (a : Int) < (N : Int)) (h46 : (bt s a == 46) = true) (ha1 : a + 1 = a1) (haL : a < 1001) (r2 : ∀ W, Calls Tryz.prog 22 #[.string s, .int .i64 (a1 : Int)] W fun r w' => r = .returned (.int .i64 (p : Int)) ∧ W = w') (hpa : ¬ (p : Int) = (a1 : Int)) (hpN : (p : Int) < (N : Int)) (h101 : (bt s p == 101) = true) (hp1 : p + 1 = p1) (hpL : p < 1001) (hpN1 : (p1 : Int) < (N : Int)) (h43 : (bt s p1 == 43) = false) (h45 : (bt s p1 == 45) = true) (hp2 : p1 + 1 = p2) (hp1L : p1 < 1002) (r4 : ∀ W, Calls Tryz.prog 22 #[.string s, .int .i64 (p2 : Int)] W fun r w' => r = .returned (.int .i64 (p2 : Int)) ∧ W = w') (w : World) : Calls Tryz.prog 12 #[.string s, .int .i64 (o : Int)] w fun r w' => r = .returned (.bool false) ∧ w = w' := by
  have hb := get_bt s
  have wa1 : IntKind.i64.wrap ((a : Int) + 1) = (a1 : Int) := by rw [IntWalk.i64_in _ (by omega)]; omega
  have wp1 : IntKind.i64.wrap ((p : Int) + 1) = (p1 : Int) := by rw [IntWalk.i64_in _ (by omega)]; omega
  have wp2 : IntKind.i64.wrap ((p1 : Int) + 1) = (p2 : Int) := by rw [IntWalk.i64_in _ (by omega)]; omega
  clear ha1
  clear hp1
  clear hp2
  clear hl
  have H_r1 := Lib.hid r1
  have H_r2 := Lib.hid r2
  have H_r4 := Lib.hid r4
  clear r1 r2 r4
  go_enter Tryz.func12, Tryz.ntmps12
  go_wp2_with (first
    | (go_at_call 22; (with_reducible refine (H_r1.out _).mono ?_); rintro e w9 ⟨rfl, rfl⟩)
    | (go_at_call 22; (with_reducible refine (H_r2.out _).mono ?_); rintro e w9 ⟨rfl, rfl⟩)
    | (go_at_call 22; (with_reducible refine (H_r4.out _).mono ?_); rintro e w9 ⟨rfl, rfl⟩)
    | fail)
  go_ret
  exact ⟨rfl, rfl⟩
set_option maxRecDepth 100000 in
theorem nu_c_m0 (s : ByteArray) (N o a a1 p p1 p2 z : Nat) (hN : s.size = N) (hl : N ≤ 1001) (r1 : ∀ W, Calls Tryz.prog 22 #[.string s, .int .i64 (o : Int)] W fun r w' => r = .returned (.int .i64 (a : Int)) ∧ W = w') (hao : ¬ (a : Int) = (o : Int)) (haN : (a : Int) < (N : Int)) (h46 : (bt s a == 46) = true) (ha1 : a + 1 = a1) (haL : a < 1001) (r2 : ∀ W, Calls Tryz.prog 22 #[.string s, .int .i64 (a1 : Int)] W fun r w' => r = .returned (.int .i64 (p : Int)) ∧ W = w') (hpa : ¬ (p : Int) = (a1 : Int)) (hpN : (p : Int) < (N : Int)) (h101 : (bt s p == 101) = true) (hp1 : p + 1 = p1) (hpL : p < 1001) (hpN1 : (p1 : Int) < (N : Int)) (h43 : (bt s p1 == 43) = false) (h45 : (bt s p1 == 45) = true) (hp2 : p1 + 1 = p2) (hp1L : p1 < 1002) (r4 : ∀ W, Calls Tryz.prog 22 #[.string s, .int .i64 (p2 : Int)] W fun r w' => r = .returned (.int .i64 (z : Int)) ∧ W = w') (hz : ¬ (z : Int) = (p2 : Int)) (hzN : ((z : Int) == (N : Int)) = false) (w : World) : Calls Tryz.prog 12 #[.string s, .int .i64 (o : Int)] w fun r w' => r = .returned (.bool false) ∧ w = w' := by
  have hb := get_bt s
  have wa1 : IntKind.i64.wrap ((a : Int) + 1) = (a1 : Int) := by rw [IntWalk.i64_in _ (by omega)]; omega
  have wp1 : IntKind.i64.wrap ((p : Int) + 1) = (p1 : Int) := by rw [IntWalk.i64_in _ (by omega)]; omega
  have wp2 : IntKind.i64.wrap ((p1 : Int) + 1) = (p2 : Int) := by rw [IntWalk.i64_in _ (by omega)]; omega
  clear ha1
  clear hp1
  clear hp2
  clear hl
  have H_r1 := Lib.hid r1
  have H_r2 := Lib.hid r2
  have H_r4 := Lib.hid r4
  clear r1 r2 r4
  go_enter Tryz.func12, Tryz.ntmps12
  go_wp2_with (first
    | (go_at_call 22; (with_reducible refine (H_r1.out _).mono ?_); rintro e w9 ⟨rfl, rfl⟩)
    | (go_at_call 22; (with_reducible refine (H_r2.out _).mono ?_); rintro e w9 ⟨rfl, rfl⟩)
    | (go_at_call 22; (with_reducible refine (H_r4.out _).mono ?_); rintro e w9 ⟨rfl, rfl⟩)
    | fail)
  go_ret
  exact ⟨rfl, rfl⟩
set_option maxRecDepth 100000 in
theorem nu_c_m1 (s : ByteArray) (N o a a1 p p1 p2 z : Nat) (hN : s.size = N) (hl : N ≤ 1001) (r1 : ∀ W, Calls Tryz.prog 22 #[.string s, .int .i64 (o : Int)] W fun r w' => r = .returned (.int .i64 (a : Int)) ∧ W = w') (hao : ¬ (a : Int) = (o : Int)) (haN : (a : Int) < (N : Int)) (h46 : (bt s a == 46) = true) (ha1 : a + 1 = a1) (haL : a < 1001) (r2 : ∀ W, Calls Tryz.prog 22 #[.string s, .int .i64 (a1 : Int)] W fun r w' => r = .returned (.int .i64 (p : Int)) ∧ W = w') (hpa : ¬ (p : Int) = (a1 : Int)) (hpN : (p : Int) < (N : Int)) (h101 : (bt s p == 101) = true) (hp1 : p + 1 = p1) (hpL : p < 1001) (hpN1 : (p1 : Int) < (N : Int)) (h43 : (bt s p1 == 43) = false) (h45 : (bt s p1 == 45) = true) (hp2 : p1 + 1 = p2) (hp1L : p1 < 1002) (r4 : ∀ W, Calls Tryz.prog 22 #[.string s, .int .i64 (p2 : Int)] W fun r w' => r = .returned (.int .i64 (N : Int)) ∧ W = w') (hz : ¬ (N : Int) = (p2 : Int)) (w : World) : Calls Tryz.prog 12 #[.string s, .int .i64 (o : Int)] w fun r w' => r = .returned (.bool true) ∧ w = w' := by
  have hb := get_bt s
  have wa1 : IntKind.i64.wrap ((a : Int) + 1) = (a1 : Int) := by rw [IntWalk.i64_in _ (by omega)]; omega
  have wp1 : IntKind.i64.wrap ((p : Int) + 1) = (p1 : Int) := by rw [IntWalk.i64_in _ (by omega)]; omega
  have wp2 : IntKind.i64.wrap ((p1 : Int) + 1) = (p2 : Int) := by rw [IntWalk.i64_in _ (by omega)]; omega
  clear ha1
  clear hp1
  clear hp2
  clear hl
  have H_r1 := Lib.hid r1
  have H_r2 := Lib.hid r2
  have H_r4 := Lib.hid r4
  clear r1 r2 r4
  go_enter Tryz.func12, Tryz.ntmps12
  go_wp2_with (first
    | (go_at_call 22; (with_reducible refine (H_r1.out _).mono ?_); rintro e w9 ⟨rfl, rfl⟩)
    | (go_at_call 22; (with_reducible refine (H_r2.out _).mono ?_); rintro e w9 ⟨rfl, rfl⟩)
    | (go_at_call 22; (with_reducible refine (H_r4.out _).mono ?_); rintro e w9 ⟨rfl, rfl⟩)
    | fail)
  go_ret
  exact ⟨rfl, rfl⟩
set_option maxRecDepth 100000 in
theorem nu_c_t1 (s : ByteArray) (N o a a1 p p1 p2 z : Nat) (hN : s.size = N) (hl : N ≤ 1001) (r1 : ∀ W, Calls Tryz.prog 22 #[.string s, .int .i64 (o : Int)] W fun r w' => r = .returned (.int .i64 (a : Int)) ∧ W = w') (hao : ¬ (a : Int) = (o : Int)) (haN : (a : Int) < (N : Int)) (h46 : (bt s a == 46) = true) (ha1 : a + 1 = a1) (haL : a < 1001) (r2 : ∀ W, Calls Tryz.prog 22 #[.string s, .int .i64 (a1 : Int)] W fun r w' => r = .returned (.int .i64 (N : Int)) ∧ W = w') (hpa : ¬ (N : Int) = (a1 : Int)) (w : World) : Calls Tryz.prog 12 #[.string s, .int .i64 (o : Int)] w fun r w' => r = .returned (.bool true) ∧ w = w' := by
  have hb := get_bt s
  have wa1 : IntKind.i64.wrap ((a : Int) + 1) = (a1 : Int) := by rw [IntWalk.i64_in _ (by omega)]; omega
  clear ha1
  clear hl
  have H_r1 := Lib.hid r1
  have H_r2 := Lib.hid r2
  clear r1 r2
  go_enter Tryz.func12, Tryz.ntmps12
  go_wp2_with (first
    | (go_at_call 22; (with_reducible refine (H_r1.out _).mono ?_); rintro e w9 ⟨rfl, rfl⟩)
    | (go_at_call 22; (with_reducible refine (H_r2.out _).mono ?_); rintro e w9 ⟨rfl, rfl⟩)
    | fail)
  go_ret
  exact ⟨rfl, rfl⟩
end
section
open Go Go.ChangeShapes Go.WideShapes Go.RowKit Go.PlainAid
set_option linter.unusedVariables false
set_option linter.unusedSimpArgs false
theorem cd_yes {s : ByteArray} {k e : Nat} (h : Rn s k e) (hlt : k < e) (hz : s.size ≤ 1000) (W : World) : Calls Tryz.prog 18 #[.string (sb s k)] W fun r w' => r = .returned (.tuple #[.string (sb s e), .bool true]) ∧ W = w' := by
  have := cutd_any s k e h hz W
  rw [decide_eq_true hlt] at this
  exact this
theorem cd_no {s : ByteArray} {k : Nat} (h : Rn s k k) (hz : s.size ≤ 1000) (W : World) : Calls Tryz.prog 18 #[.string (sb s k)] W fun r w' => r = .returned (.tuple #[.string (sb s k), .bool false]) ∧ W = w' := by
  have := cutd_any s k k h hz W
  rw [decide_eq_false (Nat.lt_irrefl k)] at this
  exact this
theorem cp_yes (s : ByteArray) (c : UInt8) {k : Nat} (h : k < s.size) (hc : bt s k = (c.toNat : Int)) (W : World) : Calls Tryz.prog 7 #[.string (sb s k), .string ⟨#[c]⟩] W fun r w' => r = .returned (.tuple #[.string (sb s (k + 1)), .bool true]) ∧ W = w' :=
  cut_call s c k _ _ (cut_yes s c h hc) W
theorem cp_no (s : ByteArray) (c : UInt8) {k : Nat} (h : ¬ (k < s.size ∧ bt s k = (c.toNat : Int))) (W : World) : Calls Tryz.prog 7 #[.string (sb s k), .string ⟨#[c]⟩] W fun r w' => r = .returned (.tuple #[.string (sb s k), .bool false]) ∧ W = w' :=
  cut_call s c k _ _ (cut_no s c h) W
theorem emp_d (t : ByteArray) : t.toList.isEmpty = decide (t.size = 0) := by
  obtain ⟨⟨l⟩⟩ := t
  have e : (ByteArray.mk ⟨l⟩).toList = l := by simp
  rw [e]
  cases l <;> simp [ByteArray.size]
theorem emp_yes (s : ByteArray) {k : Nat} (h : s.size ≤ k) : (sb s k).toList.isEmpty = true := by
  rw [emp_d, sb_size]; exact decide_eq_true (by omega)
theorem emp_no (s : ByteArray) {k : Nat} (h : k < s.size) : (sb s k).toList.isEmpty = false := by
  rw [emp_d, sb_size]; exact decide_eq_false (by omega)
theorem mk_nml {s : ByteArray} {o a p q : Nat} (hz : s.size ≤ 1000) (ra : Rn s o a) (ha : o < a) (hd : p = a ∨ (bt s a = 46 ∧ a + 1 < p ∧ Rn s (a + 1) p)) (hp : p ≤ s.size)
    (he : p = s.size ∨ (bt s p = 101 ∧ q < s.size ∧ ((q = p + 1 ∧ bt s (p + 1) ≠ 43 ∧ bt s (p + 1) ≠ 45) ∨ (q = p + 2 ∧ (bt s (p + 1) = 43 ∨ bt s (p + 1) = 45))) ∧ Rn s q s.size)) : Nml (sb s o) (a - o) (p - o) (q - o) := by
  have hap : a ≤ p := by rcases hd with h | ⟨_, h, _⟩ <;> omega
  have hsz := sb_size s o
  have hbt : ∀ i, o + i < s.size → bt (sb s o) i = bt s (o + i) := fun i hi => sb_bt s hi
  refine ⟨by omega, by omega, by omega, by omega, ?_, ?_, ?_, ?_, ?_⟩
  · intro i hi
    rw [hbt i (by omega)]; exact ra.d _ (by omega) (by omega)
  · intro h
    rcases hd with h1 | ⟨h1, h2, h3⟩
    · omega
    · rw [hbt _ (by omega), show o + (a - o) = a by omega]
      exact ⟨h1, by omega⟩
  · intro i h1 h2
    rcases hd with h3 | ⟨_, _, h3⟩
    · omega
    · rw [hbt i (by omega)]; exact h3.d _ (by omega) (by omega)
  · intro h
    rcases he with h1 | ⟨h1, h2, h3, h4⟩
    · omega
    · rw [hbt _ (by omega), show o + (p - o) = p by omega]
      refine ⟨h1, by omega, ?_⟩
      have hp1 : p + 1 < s.size := by rcases h3 with ⟨h5, _⟩ | ⟨h5, _⟩ <;> omega
      rw [hbt _ (by omega), show o + (p - o + 1) = p + 1 by omega]
      rcases h3 with ⟨h5, h6⟩ | ⟨h5, h6⟩
      · exact .inl ⟨by omega, h6⟩
      · exact .inr ⟨by omega, h6⟩
  · intro i h h1 h2
    rcases he with h3 | ⟨h3, h4, h5, h6⟩
    · omega
    · rw [hbt i (by omega)]; exact h6.d _ (by omega) (by omega)
/-- What both sides answer of a text. -/
def NumB (s : ByteArray) (o : Nat) (b : Bool) : Prop :=
  (∀ w, Calls Tryz.prog 9 #[.string (sb s o)] w fun r w' => r = .returned (.bool b) ∧ w = w') ∧
  (∀ w, Calls Tryz.prog 12 #[.string s, .int .i64 (o : Int)] w fun r w' => r = .returned (.bool b) ∧ w = w') ∧
  (b = true → ∃ a p q, Nml (sb s o) a p q)
theorem beF {a b : Int} (h : ¬ a = b) : (a == b) = false := by rw [beq_eq_false_iff_ne]; exact h
theorem beT {a b : Int} (h : a = b) : (a == b) = true := by rw [h]; simp
theorem both_a {s : ByteArray} {o p : Nat} (hz : s.size ≤ 1000) (ra : Rn s o p) (ha : o < p) (hN : p < s.size) (h46 : bt s p ≠ 46) : ∃ b, NumB s o b := by
  have hlp := ra.hi
  have hpl : p < s.size := hN
  by_cases h101 : bt s p = 101
  · by_cases hp1 : p + 1 = s.size
    · refine ⟨false, fun w => ?_, fun w => ?_, fun h => by cases h⟩
      · have h5 := cd_no (s := s) (k := p + 1) ⟨Nat.le_refl _, by omega, fun i h1 h2 => by omega, fun h => by omega⟩ hz
        have h4 := cp_yes s 101 hpl h101
        rw [sb_nil s (show s.size ≤ p + 1 by omega)] at h4 h5
        exact id_a_e1 (sb s o) (sb s p) _ (cd_yes ra ha hz) (cp_no s 46 (fun h => h46 h.2)) h4 h5 w
      · exact nu_a_e1 s s.size o 0 0 p (p + 1) 0 0 rfl (by omega) (rrun_any s o p ra (by omega)) (by omega) (by omega) (beF h46) (beT h101) rfl (by omega) (by omega) (rrun_any s (p + 1) (p + 1) ⟨Nat.le_refl _, by omega, fun i h1 h2 => by omega, fun h => by omega⟩ (by omega)) w
    · have hp1l : p + 1 < s.size := by omega
      have hr2 : 0 < (sb s (p + 1)).size := by rw [sb_size]; omega
      have hb2 : bt (sb s (p + 1)) 0 = bt s (p + 1) := by rw [sb_bt s (by omega)]
      have hen := emp_no s hp1l
      have h4 := cp_yes s 101 hpl h101
      by_cases hs : bt s (p + 1) = 43
      · have hx : (sb s (p + 1)).extract 1 (sb s (p + 1)).size = sb s (p + 2) := by rw [sb_ext _ _ (by omega), sb_sb]
        obtain ⟨z, rz⟩ := Rn.ex s (s.size - (p + 2)) (p + 2) (by omega)
        have hzl := rz.lo
        have hzh := rz.hi
        by_cases hzq : z = p + 2
        · rw [hzq] at rz
          refine ⟨false, fun w => id_a_uf (sb s o) (sb s p) (sb s (p + 1)) (sb s (p + 2)) _ (cd_yes ra ha hz) (cp_no s 46 (fun h => h46 h.2)) h4 (cd_no rz hz) hen hr2 (by rw [hb2]; exact beT hs) hx w, fun w => nu_a_uf s s.size o 0 0 p (p + 1) (p + 2) 0 rfl (by omega) (rrun_any s o p ra (by omega)) (by omega) (by omega) (beF h46) (beT h101) rfl (by omega) (by omega) (beT hs) rfl (by omega) (rrun_any s _ _ rz (by omega)) w, fun h => by cases h⟩
        · by_cases hzN : z = s.size
          · rw [hzN] at rz
            refine ⟨true, fun w => id_a_u1 (sb s o) (sb s p) (sb s (p + 1)) (sb s (p + 2)) _ (cd_yes ra ha hz) (cp_no s 46 (fun h => h46 h.2)) h4 (cd_yes rz (by omega) hz) (emp_yes s (Nat.le_refl _)) hen hr2 (by rw [hb2]; exact beT hs) hx w, fun w => nu_a_u1 s s.size o 0 0 p (p + 1) (p + 2) 0 rfl (by omega) (rrun_any s o p ra (by omega)) (by omega) (by omega) (beF h46) (beT h101) rfl (by omega) (by omega) (beT hs) rfl (by omega) (rrun_any s _ _ rz (by omega)) (by omega) w, fun _ => ⟨_, _, _, mk_nml hz ra ha (.inl rfl) (by omega) (.inr ⟨h101, by omega, .inr ⟨rfl, .inl hs⟩, rz⟩)⟩⟩
          · refine ⟨false, fun w => id_a_u0 (sb s o) (sb s p) (sb s (p + 1)) (sb s (p + 2)) _ (cd_yes ra ha hz) (cp_no s 46 (fun h => h46 h.2)) h4 (cd_yes rz (by omega) hz) (emp_no s (by omega)) hen hr2 (by rw [hb2]; exact beT hs) hx w, fun w => nu_a_u0 s s.size o 0 0 p (p + 1) (p + 2) z rfl (by omega) (rrun_any s o p ra (by omega)) (by omega) (by omega) (beF h46) (beT h101) rfl (by omega) (by omega) (beT hs) rfl (by omega) (rrun_any s _ _ rz (by omega)) (by omega) (beF (by omega)) w, fun h => by cases h⟩
      have hs0 := hs
      clear hs
      by_cases hs : bt s (p + 1) = 45
      · have hx : (sb s (p + 1)).extract 1 (sb s (p + 1)).size = sb s (p + 2) := by rw [sb_ext _ _ (by omega), sb_sb]
        obtain ⟨z, rz⟩ := Rn.ex s (s.size - (p + 2)) (p + 2) (by omega)
        have hzl := rz.lo
        have hzh := rz.hi
        by_cases hzq : z = p + 2
        · rw [hzq] at rz
          refine ⟨false, fun w => id_a_mf (sb s o) (sb s p) (sb s (p + 1)) (sb s (p + 2)) _ (cd_yes ra ha hz) (cp_no s 46 (fun h => h46 h.2)) h4 (cd_no rz hz) hen hr2 (by rw [hb2]; exact beF (by omega)) (by rw [hb2]; exact beT hs) hx w, fun w => nu_a_mf s s.size o 0 0 p (p + 1) (p + 2) 0 rfl (by omega) (rrun_any s o p ra (by omega)) (by omega) (by omega) (beF h46) (beT h101) rfl (by omega) (by omega) (beF (by omega)) (beT hs) rfl (by omega) (rrun_any s _ _ rz (by omega)) w, fun h => by cases h⟩
        · by_cases hzN : z = s.size
          · rw [hzN] at rz
            refine ⟨true, fun w => id_a_m1 (sb s o) (sb s p) (sb s (p + 1)) (sb s (p + 2)) _ (cd_yes ra ha hz) (cp_no s 46 (fun h => h46 h.2)) h4 (cd_yes rz (by omega) hz) (emp_yes s (Nat.le_refl _)) hen hr2 (by rw [hb2]; exact beF (by omega)) (by rw [hb2]; exact beT hs) hx w, fun w => nu_a_m1 s s.size o 0 0 p (p + 1) (p + 2) 0 rfl (by omega) (rrun_any s o p ra (by omega)) (by omega) (by omega) (beF h46) (beT h101) rfl (by omega) (by omega) (beF (by omega)) (beT hs) rfl (by omega) (rrun_any s _ _ rz (by omega)) (by omega) w, fun _ => ⟨_, _, _, mk_nml hz ra ha (.inl rfl) (by omega) (.inr ⟨h101, by omega, .inr ⟨rfl, .inr hs⟩, rz⟩)⟩⟩
          · refine ⟨false, fun w => id_a_m0 (sb s o) (sb s p) (sb s (p + 1)) (sb s (p + 2)) _ (cd_yes ra ha hz) (cp_no s 46 (fun h => h46 h.2)) h4 (cd_yes rz (by omega) hz) (emp_no s (by omega)) hen hr2 (by rw [hb2]; exact beF (by omega)) (by rw [hb2]; exact beT hs) hx w, fun w => nu_a_m0 s s.size o 0 0 p (p + 1) (p + 2) z rfl (by omega) (rrun_any s o p ra (by omega)) (by omega) (by omega) (beF h46) (beT h101) rfl (by omega) (by omega) (beF (by omega)) (beT hs) rfl (by omega) (rrun_any s _ _ rz (by omega)) (by omega) (beF (by omega)) w, fun h => by cases h⟩
      obtain ⟨hs1, hs2⟩ : bt s (p + 1) ≠ 43 ∧ bt s (p + 1) ≠ 45 := ⟨hs0, hs⟩
      obtain ⟨z, rz⟩ := Rn.ex s (s.size - (p + 1)) (p + 1) (by omega)
      have hzl := rz.lo
      have hzh := rz.hi
      by_cases hzq : z = p + 1
      · rw [hzq] at rz
        refine ⟨false, fun w => id_a_nf (sb s o) (sb s p) (sb s (p + 1)) _ (cd_yes ra ha hz) (cp_no s 46 (fun h => h46 h.2)) h4 (cd_no rz hz) hen hr2 (by rw [hb2]; exact beF hs1) (by rw [hb2]; exact beF hs2) w, fun w => nu_a_nf s s.size o 0 0 p (p + 1) (0) 0 rfl (by omega) (rrun_any s o p ra (by omega)) (by omega) (by omega) (beF h46) (beT h101) rfl (by omega) (by omega) (beF hs1) (beF hs2) (rrun_any s _ _ rz (by omega)) w, fun h => by cases h⟩
      · by_cases hzN : z = s.size
        · rw [hzN] at rz
          refine ⟨true, fun w => id_a_n1 (sb s o) (sb s p) (sb s (p + 1)) _ (cd_yes ra ha hz) (cp_no s 46 (fun h => h46 h.2)) h4 (cd_yes rz (by omega) hz) (emp_yes s (Nat.le_refl _)) hen hr2 (by rw [hb2]; exact beF hs1) (by rw [hb2]; exact beF hs2) w, fun w => nu_a_n1 s s.size o 0 0 p (p + 1) (0) 0 rfl (by omega) (rrun_any s o p ra (by omega)) (by omega) (by omega) (beF h46) (beT h101) rfl (by omega) (by omega) (beF hs1) (beF hs2) (rrun_any s _ _ rz (by omega)) (by omega) w, fun _ => ⟨_, _, _, mk_nml hz ra ha (.inl rfl) (by omega) (.inr ⟨h101, by omega, .inl ⟨rfl, hs1, hs2⟩, rz⟩)⟩⟩
        · refine ⟨false, fun w => id_a_n0 (sb s o) (sb s p) (sb s (p + 1)) _ (cd_yes ra ha hz) (cp_no s 46 (fun h => h46 h.2)) h4 (cd_yes rz (by omega) hz) (emp_no s (by omega)) hen hr2 (by rw [hb2]; exact beF hs1) (by rw [hb2]; exact beF hs2) w, fun w => nu_a_n0 s s.size o 0 0 p (p + 1) (0) z rfl (by omega) (rrun_any s o p ra (by omega)) (by omega) (by omega) (beF h46) (beT h101) rfl (by omega) (by omega) (beF hs1) (beF hs2) (rrun_any s _ _ rz (by omega)) (by omega) (beF (by omega)) w, fun h => by cases h⟩
  · refine ⟨false, fun w => id_a_t0 (sb s o) (sb s p) _ (cd_yes ra ha hz) (cp_no s 46 (fun h => h46 h.2)) (cp_no s 101 (fun h => h101 h.2)) (emp_no s hpl) w, fun w => nu_a_t2 s s.size o 0 0 p 0 0 0 rfl (by omega) (rrun_any s o p ra (by omega)) (by omega) (by omega) (beF h46) (beF h101) (beF (by omega)) w, fun h => by cases h⟩
theorem both_c {s : ByteArray} {o a p : Nat} (hz : s.size ≤ 1000) (ra : Rn s o a) (ha : o < a) (hN : a < s.size) (h46 : bt s a = 46) (rp : Rn s (a + 1) p) (hp : a + 1 < p) : ∃ b, NumB s o b := by
  have hlp := rp.hi
  by_cases hpN : p = s.size
  · rw [hpN] at rp hp
    refine ⟨true, fun w => id_c_t1 (sb s o) (sb s a) (sb s (a + 1)) (sb s s.size) _ (cd_yes ra ha hz) (cp_yes s 46 hN h46) (cd_yes rp hp hz) (cp_no s 101 (fun h => absurd h.1 (by omega))) (emp_yes s (Nat.le_refl _)) w, fun w => nu_c_t1 s s.size o a (a + 1) 0 0 0 0 rfl (by omega) (rrun_any s o a ra (by omega)) (by omega) (by omega) (beT h46) rfl (by omega) (rrun_any s (a + 1) s.size rp (by omega)) (by omega) w, fun _ => ⟨_, _, _, mk_nml hz ra ha (.inr ⟨h46, hp, rp⟩) (q := 0) (Nat.le_refl _) (.inl rfl)⟩⟩
  have hpl : p < s.size := by omega
  by_cases h101 : bt s p = 101
  · by_cases hp1 : p + 1 = s.size
    · refine ⟨false, fun w => ?_, fun w => ?_, fun h => by cases h⟩
      · have h5 := cd_no (s := s) (k := p + 1) ⟨Nat.le_refl _, by omega, fun i h1 h2 => by omega, fun h => by omega⟩ hz
        have h4 := cp_yes s 101 hpl h101
        rw [sb_nil s (show s.size ≤ p + 1 by omega)] at h4 h5
        exact id_c_e1 (sb s o) (sb s a) (sb s (a + 1)) (sb s p) _ (cd_yes ra ha hz) (cp_yes s 46 hN h46) (cd_yes rp hp hz) h4 h5 w
      · exact nu_c_e1 s s.size o a (a + 1) p (p + 1) 0 0 rfl (by omega) (rrun_any s o a ra (by omega)) (by omega) (by omega) (beT h46) rfl (by omega) (rrun_any s (a + 1) p rp (by omega)) (by omega) (by omega) (beT h101) rfl (by omega) (by omega) (rrun_any s (p + 1) (p + 1) ⟨Nat.le_refl _, by omega, fun i h1 h2 => by omega, fun h => by omega⟩ (by omega)) w
    · have hp1l : p + 1 < s.size := by omega
      have hr2 : 0 < (sb s (p + 1)).size := by rw [sb_size]; omega
      have hb2 : bt (sb s (p + 1)) 0 = bt s (p + 1) := by rw [sb_bt s (by omega)]
      have hen := emp_no s hp1l
      have h4 := cp_yes s 101 hpl h101
      by_cases hs : bt s (p + 1) = 43
      · have hx : (sb s (p + 1)).extract 1 (sb s (p + 1)).size = sb s (p + 2) := by rw [sb_ext _ _ (by omega), sb_sb]
        obtain ⟨z, rz⟩ := Rn.ex s (s.size - (p + 2)) (p + 2) (by omega)
        have hzl := rz.lo
        have hzh := rz.hi
        by_cases hzq : z = p + 2
        · rw [hzq] at rz
          refine ⟨false, fun w => id_c_uf (sb s o) (sb s a) (sb s (a + 1)) (sb s p) (sb s (p + 1)) (sb s (p + 2)) _ (cd_yes ra ha hz) (cp_yes s 46 hN h46) (cd_yes rp hp hz) h4 (cd_no rz hz) hen hr2 (by rw [hb2]; exact beT hs) hx w, fun w => nu_c_uf s s.size o a (a + 1) p (p + 1) (p + 2) 0 rfl (by omega) (rrun_any s o a ra (by omega)) (by omega) (by omega) (beT h46) rfl (by omega) (rrun_any s (a + 1) p rp (by omega)) (by omega) (by omega) (beT h101) rfl (by omega) (by omega) (beT hs) rfl (by omega) (rrun_any s _ _ rz (by omega)) w, fun h => by cases h⟩
        · by_cases hzN : z = s.size
          · rw [hzN] at rz
            refine ⟨true, fun w => id_c_u1 (sb s o) (sb s a) (sb s (a + 1)) (sb s p) (sb s (p + 1)) (sb s (p + 2)) _ (cd_yes ra ha hz) (cp_yes s 46 hN h46) (cd_yes rp hp hz) h4 (cd_yes rz (by omega) hz) (emp_yes s (Nat.le_refl _)) hen hr2 (by rw [hb2]; exact beT hs) hx w, fun w => nu_c_u1 s s.size o a (a + 1) p (p + 1) (p + 2) 0 rfl (by omega) (rrun_any s o a ra (by omega)) (by omega) (by omega) (beT h46) rfl (by omega) (rrun_any s (a + 1) p rp (by omega)) (by omega) (by omega) (beT h101) rfl (by omega) (by omega) (beT hs) rfl (by omega) (rrun_any s _ _ rz (by omega)) (by omega) w, fun _ => ⟨_, _, _, mk_nml hz ra ha (.inr ⟨h46, hp, rp⟩) (by omega) (.inr ⟨h101, by omega, .inr ⟨rfl, .inl hs⟩, rz⟩)⟩⟩
          · refine ⟨false, fun w => id_c_u0 (sb s o) (sb s a) (sb s (a + 1)) (sb s p) (sb s (p + 1)) (sb s (p + 2)) _ (cd_yes ra ha hz) (cp_yes s 46 hN h46) (cd_yes rp hp hz) h4 (cd_yes rz (by omega) hz) (emp_no s (by omega)) hen hr2 (by rw [hb2]; exact beT hs) hx w, fun w => nu_c_u0 s s.size o a (a + 1) p (p + 1) (p + 2) z rfl (by omega) (rrun_any s o a ra (by omega)) (by omega) (by omega) (beT h46) rfl (by omega) (rrun_any s (a + 1) p rp (by omega)) (by omega) (by omega) (beT h101) rfl (by omega) (by omega) (beT hs) rfl (by omega) (rrun_any s _ _ rz (by omega)) (by omega) (beF (by omega)) w, fun h => by cases h⟩
      have hs0 := hs
      clear hs
      by_cases hs : bt s (p + 1) = 45
      · have hx : (sb s (p + 1)).extract 1 (sb s (p + 1)).size = sb s (p + 2) := by rw [sb_ext _ _ (by omega), sb_sb]
        obtain ⟨z, rz⟩ := Rn.ex s (s.size - (p + 2)) (p + 2) (by omega)
        have hzl := rz.lo
        have hzh := rz.hi
        by_cases hzq : z = p + 2
        · rw [hzq] at rz
          refine ⟨false, fun w => id_c_mf (sb s o) (sb s a) (sb s (a + 1)) (sb s p) (sb s (p + 1)) (sb s (p + 2)) _ (cd_yes ra ha hz) (cp_yes s 46 hN h46) (cd_yes rp hp hz) h4 (cd_no rz hz) hen hr2 (by rw [hb2]; exact beF (by omega)) (by rw [hb2]; exact beT hs) hx w, fun w => nu_c_mf s s.size o a (a + 1) p (p + 1) (p + 2) 0 rfl (by omega) (rrun_any s o a ra (by omega)) (by omega) (by omega) (beT h46) rfl (by omega) (rrun_any s (a + 1) p rp (by omega)) (by omega) (by omega) (beT h101) rfl (by omega) (by omega) (beF (by omega)) (beT hs) rfl (by omega) (rrun_any s _ _ rz (by omega)) w, fun h => by cases h⟩
        · by_cases hzN : z = s.size
          · rw [hzN] at rz
            refine ⟨true, fun w => id_c_m1 (sb s o) (sb s a) (sb s (a + 1)) (sb s p) (sb s (p + 1)) (sb s (p + 2)) _ (cd_yes ra ha hz) (cp_yes s 46 hN h46) (cd_yes rp hp hz) h4 (cd_yes rz (by omega) hz) (emp_yes s (Nat.le_refl _)) hen hr2 (by rw [hb2]; exact beF (by omega)) (by rw [hb2]; exact beT hs) hx w, fun w => nu_c_m1 s s.size o a (a + 1) p (p + 1) (p + 2) 0 rfl (by omega) (rrun_any s o a ra (by omega)) (by omega) (by omega) (beT h46) rfl (by omega) (rrun_any s (a + 1) p rp (by omega)) (by omega) (by omega) (beT h101) rfl (by omega) (by omega) (beF (by omega)) (beT hs) rfl (by omega) (rrun_any s _ _ rz (by omega)) (by omega) w, fun _ => ⟨_, _, _, mk_nml hz ra ha (.inr ⟨h46, hp, rp⟩) (by omega) (.inr ⟨h101, by omega, .inr ⟨rfl, .inr hs⟩, rz⟩)⟩⟩
          · refine ⟨false, fun w => id_c_m0 (sb s o) (sb s a) (sb s (a + 1)) (sb s p) (sb s (p + 1)) (sb s (p + 2)) _ (cd_yes ra ha hz) (cp_yes s 46 hN h46) (cd_yes rp hp hz) h4 (cd_yes rz (by omega) hz) (emp_no s (by omega)) hen hr2 (by rw [hb2]; exact beF (by omega)) (by rw [hb2]; exact beT hs) hx w, fun w => nu_c_m0 s s.size o a (a + 1) p (p + 1) (p + 2) z rfl (by omega) (rrun_any s o a ra (by omega)) (by omega) (by omega) (beT h46) rfl (by omega) (rrun_any s (a + 1) p rp (by omega)) (by omega) (by omega) (beT h101) rfl (by omega) (by omega) (beF (by omega)) (beT hs) rfl (by omega) (rrun_any s _ _ rz (by omega)) (by omega) (beF (by omega)) w, fun h => by cases h⟩
      obtain ⟨hs1, hs2⟩ : bt s (p + 1) ≠ 43 ∧ bt s (p + 1) ≠ 45 := ⟨hs0, hs⟩
      obtain ⟨z, rz⟩ := Rn.ex s (s.size - (p + 1)) (p + 1) (by omega)
      have hzl := rz.lo
      have hzh := rz.hi
      by_cases hzq : z = p + 1
      · rw [hzq] at rz
        refine ⟨false, fun w => id_c_nf (sb s o) (sb s a) (sb s (a + 1)) (sb s p) (sb s (p + 1)) _ (cd_yes ra ha hz) (cp_yes s 46 hN h46) (cd_yes rp hp hz) h4 (cd_no rz hz) hen hr2 (by rw [hb2]; exact beF hs1) (by rw [hb2]; exact beF hs2) w, fun w => nu_c_nf s s.size o a (a + 1) p (p + 1) (0) 0 rfl (by omega) (rrun_any s o a ra (by omega)) (by omega) (by omega) (beT h46) rfl (by omega) (rrun_any s (a + 1) p rp (by omega)) (by omega) (by omega) (beT h101) rfl (by omega) (by omega) (beF hs1) (beF hs2) (rrun_any s _ _ rz (by omega)) w, fun h => by cases h⟩
      · by_cases hzN : z = s.size
        · rw [hzN] at rz
          refine ⟨true, fun w => id_c_n1 (sb s o) (sb s a) (sb s (a + 1)) (sb s p) (sb s (p + 1)) _ (cd_yes ra ha hz) (cp_yes s 46 hN h46) (cd_yes rp hp hz) h4 (cd_yes rz (by omega) hz) (emp_yes s (Nat.le_refl _)) hen hr2 (by rw [hb2]; exact beF hs1) (by rw [hb2]; exact beF hs2) w, fun w => nu_c_n1 s s.size o a (a + 1) p (p + 1) (0) 0 rfl (by omega) (rrun_any s o a ra (by omega)) (by omega) (by omega) (beT h46) rfl (by omega) (rrun_any s (a + 1) p rp (by omega)) (by omega) (by omega) (beT h101) rfl (by omega) (by omega) (beF hs1) (beF hs2) (rrun_any s _ _ rz (by omega)) (by omega) w, fun _ => ⟨_, _, _, mk_nml hz ra ha (.inr ⟨h46, hp, rp⟩) (by omega) (.inr ⟨h101, by omega, .inl ⟨rfl, hs1, hs2⟩, rz⟩)⟩⟩
        · refine ⟨false, fun w => id_c_n0 (sb s o) (sb s a) (sb s (a + 1)) (sb s p) (sb s (p + 1)) _ (cd_yes ra ha hz) (cp_yes s 46 hN h46) (cd_yes rp hp hz) h4 (cd_yes rz (by omega) hz) (emp_no s (by omega)) hen hr2 (by rw [hb2]; exact beF hs1) (by rw [hb2]; exact beF hs2) w, fun w => nu_c_n0 s s.size o a (a + 1) p (p + 1) (0) z rfl (by omega) (rrun_any s o a ra (by omega)) (by omega) (by omega) (beT h46) rfl (by omega) (rrun_any s (a + 1) p rp (by omega)) (by omega) (by omega) (beT h101) rfl (by omega) (by omega) (beF hs1) (beF hs2) (rrun_any s _ _ rz (by omega)) (by omega) (beF (by omega)) w, fun h => by cases h⟩
  · refine ⟨false, fun w => id_c_t0 (sb s o) (sb s a) (sb s (a + 1)) (sb s p) _ (cd_yes ra ha hz) (cp_yes s 46 hN h46) (cd_yes rp hp hz) (cp_no s 101 (fun h => h101 h.2)) (emp_no s hpl) w, fun w => nu_c_t2 s s.size o a (a + 1) p 0 0 0 rfl (by omega) (rrun_any s o a ra (by omega)) (by omega) (by omega) (beT h46) rfl (by omega) (rrun_any s (a + 1) p rp (by omega)) (by omega) (by omega) (beF h101) (beF (by omega)) w, fun h => by cases h⟩
/-- What real.isDecimal and the document's Numeral say of a text from o on: the same. -/
theorem num_both (s : ByteArray) (o : Nat) (ho : o ≤ s.size) (hz : s.size ≤ 1000) : ∃ b, NumB s o b := by
  obtain ⟨a, ra⟩ := Rn.ex s (s.size - o) o (by omega)
  have h1 := ra.lo
  have h2 := ra.hi
  by_cases hao : a = o
  · subst hao
    exact ⟨false, fun w => id_p (sb s a) _ (cd_no ra hz) w, fun w => nu_p s s.size a 0 0 0 0 0 0 rfl (by omega) (rrun_any s a a ra (by omega)) w, fun h => by cases h⟩
  · by_cases haN : a = s.size
    · rw [haN] at ra
      exact ⟨true, fun w => id_a_t1 (sb s o) (sb s s.size) _ (cd_yes ra (by omega) hz) (cp_no s 46 (fun h => absurd h.1 (Nat.lt_irrefl _))) (cp_no s 101 (fun h => absurd h.1 (Nat.lt_irrefl _))) (emp_yes s (Nat.le_refl _)) w,
        fun w => nu_z s s.size o 0 0 0 0 0 0 rfl (by omega) (rrun_any s o s.size ra (by omega)) (by omega) w, fun _ => ⟨_, _, _, mk_nml hz ra (by omega) (.inl rfl) (q := 0) (Nat.le_refl _) (.inl rfl)⟩⟩
    · by_cases h46 : bt s a = 46
      · obtain ⟨p, rp⟩ := Rn.ex s (s.size - (a + 1)) (a + 1) (by omega)
        have h3 := rp.lo
        by_cases hpa : p = a + 1
        · rw [hpa] at rp
          exact ⟨false, fun w => id_b (sb s o) (sb s a) (sb s (a + 1)) _ (cd_yes ra (by omega) hz) (cp_yes s 46 (by omega) h46) (cd_no rp hz) w,
            fun w => nu_b s s.size o a (a + 1) 0 0 0 0 rfl (by omega) (rrun_any s o a ra (by omega)) (by omega) (by omega) (beT h46) rfl (by omega) (rrun_any s _ _ rp (by omega)) w, fun h => by cases h⟩
        · exact both_c hz ra (by omega) (by omega) h46 rp (by omega)
      · exact both_a hz ra (by omega) (by omega) h46
end
end Go.Proofs.YtbhaigbgembcaaaGreatDoor
