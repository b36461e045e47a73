/- Layer 3: Parse, the code's and the document's. -/
import Derived.Test.YtbhaigbgembcaaaGreatDoorPGPiI
import Derived.Test.YtbhaigbgembcaaaGreatDoorPGRlZ
import Derived.Test.YtbhaigbgembcaaaGreatDoorPRlTi
namespace Go.Proofs.YtbhaigbgembcaaaGreatDoor
open Go Go.ChangeShapes Go.WideShapes Go.RowKit Go.PlainAid
set_option linter.unusedVariables false
set_option linter.unusedSimpArgs false
set_option maxRecDepth 100000 in
theorem inf_one (w : World) : Calls Tryz.prog 8 #[.int .i64 1] w fun r w' => r = .returned (.float .f64 fIN) ∧ w = w' := by
  have hfb : (callFunc 17 #[.int .u64 9218868437227405312]).run Tryz.prog w = .ok (.value (.float .f64 9218868437227405312)) w := run_frombits 9218868437227405312 w
  go_enter Tryz.func8, Tryz.ntmps8
  go_wp2_with fail
  go_ret
  exact ⟨rfl, rfl⟩
theorem nn_le {F : Nat} (h : F ≤ fIN) : nanB F = false ∧ F < 18446744073709551616 ∧ flipB F = F + fSG ∧ nanB (F + fSG) = false ∧ F + fSG < 18446744073709551616 := by
  have e1 : fSG = 9223372036854775808 := rfl
  have e2 : fIN = 9218868437227405312 := rfl
  refine ⟨?_, by omega, ?_, ?_, by omega⟩
  · unfold nanB; rw [decide_eq_false_iff_not, e1]; omega
  · unfold flipB; rw [if_pos (by omega)]
  · unfold nanB; rw [decide_eq_false_iff_not, e1]; omega
theorem pat_nn {x : Nat} (h : nanB x = false) (w : World) : Calls Tryz.prog 11 #[.float .f64 x] w fun e w' => e = .returned (.int .u64 (x : Int)) ∧ w = w' := by
  have := pattern_any x w
  rw [show patB x = x by unfold patB; rw [if_neg (by rw [h]; simp)]] at this
  exact this
def RPa (s : ByteArray) (b : Nat) (e : Int) (w : World) : Prop := Calls Tryz.prog 4 #[.string s] w fun r w' => r = .returned (.tuple #[.int .u64 (b : Int), .int .i64 e]) ∧ Below w.heap.size w w'
def DPa (s : ByteArray) (b : Nat) (e : Int) (w : World) : Prop := Calls Tryz.prog 5 #[.string s] w fun r w' => r = .returned (.tuple #[.int .u64 (b : Int), .int .i64 e]) ∧ Below w.heap.size w w'
set_option maxRecDepth 100000 in
theorem rp_long (s B : ByteArray)  (w : World) (hz : ¬ s.size ≤ 1000) : RPa s 0 2 w := by
  unfold RPa
  have hzI : (1000 : Int) < (s.size : Int) := by omega
  go_enter Tryz.func4, Tryz.ntmps4
  go_wp2_with fail
  go_ret2
  exact ⟨rfl, Below.refl _ _⟩
set_option maxRecDepth 100000 in
theorem rp_nan_p (s B : ByteArray)  (w : World) (hz : s.size ≤ 1000) (h1 : ∀ W, Calls Tryz.prog 7 #[.string s, .string ⟨#[45]⟩] W fun r w' => r = .returned (.tuple #[.string B, .bool false]) ∧ W = w') (qn : (B.toList == [110, 97, 110]) = true) : RPa s 9221120237041090560 0 w := by
  unfold RPa
  have hzI : ¬ (1000 : Int) < (s.size : Int) := by omega
  have H_h1 := Lib.hid h1
  clear h1
  go_enter Tryz.func4, Tryz.ntmps4
  go_wp2_with (first
    | (go_at_call 7; (with_reducible refine (H_h1.out _).mono ?_); rintro e w9 ⟨rfl, rfl⟩)
    | fail)
  go_ret2
  exact ⟨rfl, Below.refl _ _⟩
set_option maxRecDepth 100000 in
theorem rp_inf_p (s B : ByteArray)  (w : World) (hz : s.size ≤ 1000) (h1 : ∀ W, Calls Tryz.prog 7 #[.string s, .string ⟨#[45]⟩] W fun r w' => r = .returned (.tuple #[.string B, .bool false]) ∧ W = w') (qn : (B.toList == [110, 97, 110]) = false) (qi : (B.toList == [105, 110, 102]) = true) : RPa s fIN 0 w := by
  unfold RPa
  have hzI : ¬ (1000 : Int) < (s.size : Int) := by omega
  have p := fun W => pat_nn (x := fIN) (by decide +kernel) W
  have H_h1 := Lib.hid h1
  have H_p := Lib.hid p
  clear h1 p
  go_enter Tryz.func4, Tryz.ntmps4
  go_wp2_with (first
    | (go_at_call 7; (with_reducible refine (H_h1.out _).mono ?_); rintro e w9 ⟨rfl, rfl⟩)
    | (go_at_call 8; (with_reducible refine (inf_one _).mono ?_); rintro e w9 ⟨rfl, rfl⟩)
    | (go_at_call 11; (with_reducible refine (H_p.out _).mono ?_); rintro e w9 ⟨rfl, rfl⟩)
    | fail)
  go_ret2
  exact ⟨rfl, Below.refl _ _⟩
set_option maxRecDepth 100000 in
theorem rp_num_p (s B : ByteArray) (F : Nat) (w : World) (hF : F ≤ fIN) (hz : s.size ≤ 1000) (h1 : ∀ W, Calls Tryz.prog 7 #[.string s, .string ⟨#[45]⟩] W fun r w' => r = .returned (.tuple #[.string B, .bool false]) ∧ W = w') (qn : (B.toList == [110, 97, 110]) = false) (qi : (B.toList == [105, 110, 102]) = false) (h2 : ∀ W, Calls Tryz.prog 9 #[.string B] W fun r w' => r = .returned (.bool true) ∧ W = w') (h3 : Calls Tryz.prog 10 #[.string B, .int .i64 64] w fun r w' => (∃ v, r = .returned (.tuple #[.float .f64 F, v])) ∧ Below w.heap.size w w') : RPa s F 0 w := by
  unfold RPa
  have hzI : ¬ (1000 : Int) < (s.size : Int) := by omega
  have p := fun W => pat_nn (nn_le hF).1 W
  have H_h1 := Lib.hid h1
  have H_h2 := Lib.hid h2
  have H_h3 := Lib.hid h3
  have H_p := Lib.hid p
  clear h1 h2 h3 p
  go_enter Tryz.func4, Tryz.ntmps4
  go_wp2_with (first
    | (go_at_call 7; (with_reducible refine (H_h1.out _).mono ?_); rintro e w9 ⟨rfl, rfl⟩)
    | (go_at_call 9; (with_reducible refine (H_h2.out _).mono ?_); rintro e w9 ⟨rfl, rfl⟩)
    | (go_at_call 10; (with_reducible refine H_h3.out.mono ?_); rintro e w4 ⟨⟨v4, rfl⟩, hb4⟩; have HB4 := Lib.hid hb4; clear hb4)
    | (go_at_call 11; (with_reducible refine (H_p.out _).mono ?_); rintro e w9 ⟨rfl, rfl⟩)
    | fail)
  go_ret2
  exact ⟨rfl, HB4.out⟩
set_option maxRecDepth 100000 in
theorem rp_bad_p (s B : ByteArray)  (w : World) (hz : s.size ≤ 1000) (h1 : ∀ W, Calls Tryz.prog 7 #[.string s, .string ⟨#[45]⟩] W fun r w' => r = .returned (.tuple #[.string B, .bool false]) ∧ W = w') (qn : (B.toList == [110, 97, 110]) = false) (qi : (B.toList == [105, 110, 102]) = false) (h2 : ∀ W, Calls Tryz.prog 9 #[.string B] W fun r w' => r = .returned (.bool false) ∧ W = w') : RPa s 0 4 w := by
  unfold RPa
  have hzI : ¬ (1000 : Int) < (s.size : Int) := by omega
  have H_h1 := Lib.hid h1
  have H_h2 := Lib.hid h2
  clear h1 h2
  go_enter Tryz.func4, Tryz.ntmps4
  go_wp2_with (first
    | (go_at_call 7; (with_reducible refine (H_h1.out _).mono ?_); rintro e w9 ⟨rfl, rfl⟩)
    | (go_at_call 9; (with_reducible refine (H_h2.out _).mono ?_); rintro e w9 ⟨rfl, rfl⟩)
    | fail)
  go_ret2
  exact ⟨rfl, Below.refl _ _⟩
set_option maxRecDepth 100000 in
theorem rp_nan_m (s B : ByteArray)  (w : World) (hz : s.size ≤ 1000) (h1 : ∀ W, Calls Tryz.prog 7 #[.string s, .string ⟨#[45]⟩] W fun r w' => r = .returned (.tuple #[.string B, .bool true]) ∧ W = w') (qn : (B.toList == [110, 97, 110]) = true) : RPa s 9221120237041090560 0 w := by
  unfold RPa
  have hzI : ¬ (1000 : Int) < (s.size : Int) := by omega
  have H_h1 := Lib.hid h1
  clear h1
  go_enter Tryz.func4, Tryz.ntmps4
  go_wp2_with (first
    | (go_at_call 7; (with_reducible refine (H_h1.out _).mono ?_); rintro e w9 ⟨rfl, rfl⟩)
    | fail)
  go_ret2
  exact ⟨rfl, Below.refl _ _⟩
set_option maxRecDepth 100000 in
theorem rp_inf_m (s B : ByteArray)  (w : World) (hz : s.size ≤ 1000) (h1 : ∀ W, Calls Tryz.prog 7 #[.string s, .string ⟨#[45]⟩] W fun r w' => r = .returned (.tuple #[.string B, .bool true]) ∧ W = w') (qn : (B.toList == [110, 97, 110]) = false) (qi : (B.toList == [105, 110, 102]) = true) : RPa s (fIN + fSG) 0 w := by
  unfold RPa
  have hzI : ¬ (1000 : Int) < (s.size : Int) := by omega
  obtain ⟨f1, f2, f3, f4, f5⟩ := nn_le (Nat.le_refl fIN)
  have p := fun W => pat_nn f4 W
  have hng := fun W => run_neg fIN f2 f1 W
  rw [f3] at hng
  have H_h1 := Lib.hid h1
  have H_p := Lib.hid p
  clear h1 p
  go_enter Tryz.func4, Tryz.ntmps4
  go_wp2_with (first
    | (go_at_call 7; (with_reducible refine (H_h1.out _).mono ?_); rintro e w9 ⟨rfl, rfl⟩)
    | (go_at_call 8; (with_reducible refine (inf_one _).mono ?_); rintro e w9 ⟨rfl, rfl⟩)
    | (go_at_call 11; (with_reducible refine (H_p.out _).mono ?_); rintro e w9 ⟨rfl, rfl⟩)
    | fail)
  go_ret2
  exact ⟨rfl, Below.refl _ _⟩
set_option maxRecDepth 100000 in
theorem rp_num_m (s B : ByteArray) (F : Nat) (w : World) (hF : F ≤ fIN) (hz : s.size ≤ 1000) (h1 : ∀ W, Calls Tryz.prog 7 #[.string s, .string ⟨#[45]⟩] W fun r w' => r = .returned (.tuple #[.string B, .bool true]) ∧ W = w') (qn : (B.toList == [110, 97, 110]) = false) (qi : (B.toList == [105, 110, 102]) = false) (h2 : ∀ W, Calls Tryz.prog 9 #[.string B] W fun r w' => r = .returned (.bool true) ∧ W = w') (h3 : Calls Tryz.prog 10 #[.string B, .int .i64 64] w fun r w' => (∃ v, r = .returned (.tuple #[.float .f64 F, v])) ∧ Below w.heap.size w w') : RPa s (F + fSG) 0 w := by
  unfold RPa
  have hzI : ¬ (1000 : Int) < (s.size : Int) := by omega
  obtain ⟨f1, f2, f3, f4, f5⟩ := nn_le hF
  have p := fun W => pat_nn f4 W
  have hng := fun W => run_neg F f2 f1 W
  rw [f3] at hng
  generalize F + fSG = G at p hng f4 f5 ⊢
  have H_h1 := Lib.hid h1
  have H_h2 := Lib.hid h2
  have H_h3 := Lib.hid h3
  have H_p := Lib.hid p
  clear h1 h2 h3 p
  go_enter Tryz.func4, Tryz.ntmps4
  go_wp2_with (first
    | (go_at_call 7; (with_reducible refine (H_h1.out _).mono ?_); rintro e w9 ⟨rfl, rfl⟩)
    | (go_at_call 9; (with_reducible refine (H_h2.out _).mono ?_); rintro e w9 ⟨rfl, rfl⟩)
    | (go_at_call 10; (with_reducible refine H_h3.out.mono ?_); rintro e w4 ⟨⟨v4, rfl⟩, hb4⟩; have HB4 := Lib.hid hb4; clear hb4)
    | (go_at_call 11; (with_reducible refine (H_p.out _).mono ?_); rintro e w9 ⟨rfl, rfl⟩)
    | fail)
  go_ret2
  exact ⟨rfl, HB4.out⟩
set_option maxRecDepth 100000 in
theorem rp_bad_m (s B : ByteArray)  (w : World) (hz : s.size ≤ 1000) (h1 : ∀ W, Calls Tryz.prog 7 #[.string s, .string ⟨#[45]⟩] W fun r w' => r = .returned (.tuple #[.string B, .bool true]) ∧ W = w') (qn : (B.toList == [110, 97, 110]) = false) (qi : (B.toList == [105, 110, 102]) = false) (h2 : ∀ W, Calls Tryz.prog 9 #[.string B] W fun r w' => r = .returned (.bool false) ∧ W = w') : RPa s 0 4 w := by
  unfold RPa
  have hzI : ¬ (1000 : Int) < (s.size : Int) := by omega
  have H_h1 := Lib.hid h1
  have H_h2 := Lib.hid h2
  clear h1 h2
  go_enter Tryz.func4, Tryz.ntmps4
  go_wp2_with (first
    | (go_at_call 7; (with_reducible refine (H_h1.out _).mono ?_); rintro e w9 ⟨rfl, rfl⟩)
    | (go_at_call 9; (with_reducible refine (H_h2.out _).mono ?_); rintro e w9 ⟨rfl, rfl⟩)
    | fail)
  go_ret2
  exact ⟨rfl, Below.refl _ _⟩
set_option maxRecDepth 100000 in
theorem dp_long (s B : ByteArray)  (w : World) (hz : ¬ s.size ≤ 1000) : DPa s 0 2 w := by
  unfold DPa
  have hzI : (1000 : Int) < (s.size : Int) := by omega
  go_enter Tryz.func5, Tryz.ntmps5
  go_wp2_with fail
  go_ret2
  exact ⟨rfl, Below.refl _ _⟩
theorem f64_plus {F : Nat} (h : F ≤ fIN) : IntKind.u64.wrap ((F : Int) + 9223372036854775808) = ((F + fSG : Nat) : Int) := by
  have e1 : fSG = 9223372036854775808 := rfl
  have e2 : fIN = 9218868437227405312 := rfl
  rw [IntWalk.u64_in _ (by omega)]; omega
theorem f64_zero {F : Nat} (h : F ≤ fIN) : IntKind.u64.wrap ((F : Int) + 0) = (F : Int) := by
  have e2 : fIN = 9218868437227405312 := rfl
  rw [IntWalk.u64_in _ (by omega)]; omega
set_option maxRecDepth 100000 in
theorem dp_bad_z (s B : ByteArray)  (w : World) (h0 : s.size = 0) (hz : s.size ≤ 1000) (qi : (s.toList == [105, 110, 102]) = false) (qn : (s.toList == [110, 97, 110]) = false) (h2 : ∀ W, Calls Tryz.prog 12 #[.string s, .int .i64 0] W fun r w' => r = .returned (.bool false) ∧ W = w') : DPa s 0 4 w := by
  unfold DPa
  have hzI : ¬ (1000 : Int) < (s.size : Int) := by omega
  have h0I : (s.size : Int) = 0 := by rw [h0]; rfl
  have hx : s.extract 0 s.size = s := by simp
  have H_h2 := Lib.hid h2
  clear h2
  go_enter Tryz.func5, Tryz.ntmps5
  go_wp2_with (first
    | (go_at_call 12; (with_reducible refine (H_h2.out _).mono ?_); rintro e w9 ⟨rfl, rfl⟩)
    | fail)
  go_ret2
  exact ⟨rfl, Below.refl _ _⟩
set_option maxRecDepth 100000 in
theorem dp_inf_d (s B : ByteArray)  (w : World) (h0 : 0 < s.size) (h45 : (bt s 0 == 45) = false) (hz : s.size ≤ 1000) (qi : (s.toList == [105, 110, 102]) = true) : DPa s fIN 0 w := by
  unfold DPa
  have hzI : ¬ (1000 : Int) < (s.size : Int) := by omega
  have hb := get_bt s
  have h0I : (0 : Int) < (s.size : Int) := by omega
  have hx : s.extract 0 s.size = s := by simp
  have hwf : IntKind.u64.wrap (9218868437227405312 + 0) = ((fIN : Nat) : Int) := by rfl
  go_enter Tryz.func5, Tryz.ntmps5
  go_wp2_with fail
  go_ret2
  exact ⟨rfl, Below.refl _ _⟩
set_option maxRecDepth 100000 in
theorem dp_nan_d (s B : ByteArray)  (w : World) (h0 : 0 < s.size) (h45 : (bt s 0 == 45) = false) (hz : s.size ≤ 1000) (qi : (s.toList == [105, 110, 102]) = false) (qn : (s.toList == [110, 97, 110]) = true) : DPa s 9221120237041090560 0 w := by
  unfold DPa
  have hzI : ¬ (1000 : Int) < (s.size : Int) := by omega
  have hb := get_bt s
  have h0I : (0 : Int) < (s.size : Int) := by omega
  have hx : s.extract 0 s.size = s := by simp
  go_enter Tryz.func5, Tryz.ntmps5
  go_wp2_with fail
  go_ret2
  exact ⟨rfl, Below.refl _ _⟩
set_option maxRecDepth 100000 in
theorem dp_bad_d (s B : ByteArray)  (w : World) (h0 : 0 < s.size) (h45 : (bt s 0 == 45) = false) (hz : s.size ≤ 1000) (qi : (s.toList == [105, 110, 102]) = false) (qn : (s.toList == [110, 97, 110]) = false) (h2 : ∀ W, Calls Tryz.prog 12 #[.string s, .int .i64 0] W fun r w' => r = .returned (.bool false) ∧ W = w') : DPa s 0 4 w := by
  unfold DPa
  have hzI : ¬ (1000 : Int) < (s.size : Int) := by omega
  have hb := get_bt s
  have h0I : (0 : Int) < (s.size : Int) := by omega
  have hx : s.extract 0 s.size = s := by simp
  have H_h2 := Lib.hid h2
  clear h2
  go_enter Tryz.func5, Tryz.ntmps5
  go_wp2_with (first
    | (go_at_call 12; (with_reducible refine (H_h2.out _).mono ?_); rintro e w9 ⟨rfl, rfl⟩)
    | fail)
  go_ret2
  exact ⟨rfl, Below.refl _ _⟩
set_option maxRecDepth 100000 in
theorem dp_num_d (s B : ByteArray) (F : Nat) (w : World) (hF : F ≤ fIN) (h0 : 0 < s.size) (h45 : (bt s 0 == 45) = false) (hz : s.size ≤ 1000) (qi : (s.toList == [105, 110, 102]) = false) (qn : (s.toList == [110, 97, 110]) = false) (h2 : ∀ W, Calls Tryz.prog 12 #[.string s, .int .i64 0] W fun r w' => r = .returned (.bool true) ∧ W = w') (h3 : Calls Tryz.prog 10 #[.string s, .int .i64 64] w fun r w' => (∃ v, r = .returned (.tuple #[.float .f64 F, v])) ∧ Below w.heap.size w w') : DPa s F 0 w := by
  unfold DPa
  have hzI : ¬ (1000 : Int) < (s.size : Int) := by omega
  have hb := get_bt s
  have h0I : (0 : Int) < (s.size : Int) := by omega
  have hx : s.extract 0 s.size = s := by simp
  have hwf : IntKind.u64.wrap (F : Int) = (F : Int) := by have := f64_zero hF; rw [Int.add_zero] at this; exact this
  have H_h2 := Lib.hid h2
  have H_h3 := Lib.hid h3
  clear h2 h3
  go_enter Tryz.func5, Tryz.ntmps5
  go_wp2_with (first
    | (go_at_call 12; (with_reducible refine (H_h2.out _).mono ?_); rintro e w9 ⟨rfl, rfl⟩)
    | (go_at_call 10; (with_reducible refine H_h3.out.mono ?_); rintro e w4 ⟨⟨v4, rfl⟩, hb4⟩; have HB4 := Lib.hid hb4; clear hb4)
    | fail)
  go_ret2
  exact ⟨rfl, HB4.out⟩
set_option maxRecDepth 100000 in
theorem dp_inf_m (s B : ByteArray)  (w : World) (h0 : 0 < s.size) (h45 : (bt s 0 == 45) = true) (hx : s.extract 1 s.size = B) (hz : s.size ≤ 1000) (qi : (B.toList == [105, 110, 102]) = true) : DPa s (fIN + fSG) 0 w := by
  unfold DPa
  have hzI : ¬ (1000 : Int) < (s.size : Int) := by omega
  have hb := get_bt s
  have h0I : (0 : Int) < (s.size : Int) := by omega
  have h1I : (1 : Int) ≤ (s.size : Int) := by omega
  have hwf : IntKind.u64.wrap (9218868437227405312 + 9223372036854775808) = (((fIN + fSG) : Nat) : Int) := by rfl
  go_enter Tryz.func5, Tryz.ntmps5
  go_wp2_with fail
  go_ret2
  exact ⟨rfl, Below.refl _ _⟩
set_option maxRecDepth 100000 in
theorem dp_nan_m (s B : ByteArray)  (w : World) (h0 : 0 < s.size) (h45 : (bt s 0 == 45) = true) (hx : s.extract 1 s.size = B) (hz : s.size ≤ 1000) (qi : (B.toList == [105, 110, 102]) = false) (qn : (B.toList == [110, 97, 110]) = true) : DPa s 9221120237041090560 0 w := by
  unfold DPa
  have hzI : ¬ (1000 : Int) < (s.size : Int) := by omega
  have hb := get_bt s
  have h0I : (0 : Int) < (s.size : Int) := by omega
  have h1I : (1 : Int) ≤ (s.size : Int) := by omega
  go_enter Tryz.func5, Tryz.ntmps5
  go_wp2_with fail
  go_ret2
  exact ⟨rfl, Below.refl _ _⟩
set_option maxRecDepth 100000 in
theorem dp_bad_m (s B : ByteArray)  (w : World) (h0 : 0 < s.size) (h45 : (bt s 0 == 45) = true) (hx : s.extract 1 s.size = B) (hz : s.size ≤ 1000) (qi : (B.toList == [105, 110, 102]) = false) (qn : (B.toList == [110, 97, 110]) = false) (h2 : ∀ W, Calls Tryz.prog 12 #[.string s, .int .i64 1] W fun r w' => r = .returned (.bool false) ∧ W = w') : DPa s 0 4 w := by
  unfold DPa
  have hzI : ¬ (1000 : Int) < (s.size : Int) := by omega
  have hb := get_bt s
  have h0I : (0 : Int) < (s.size : Int) := by omega
  have h1I : (1 : Int) ≤ (s.size : Int) := by omega
  have H_h2 := Lib.hid h2
  clear h2
  go_enter Tryz.func5, Tryz.ntmps5
  go_wp2_with (first
    | (go_at_call 12; (with_reducible refine (H_h2.out _).mono ?_); rintro e w9 ⟨rfl, rfl⟩)
    | fail)
  go_ret2
  exact ⟨rfl, Below.refl _ _⟩
set_option maxRecDepth 100000 in
theorem dp_num_m (s B : ByteArray) (F : Nat) (w : World) (hF : F ≤ fIN) (h0 : 0 < s.size) (h45 : (bt s 0 == 45) = true) (hx : s.extract 1 s.size = B) (hz : s.size ≤ 1000) (qi : (B.toList == [105, 110, 102]) = false) (qn : (B.toList == [110, 97, 110]) = false) (h2 : ∀ W, Calls Tryz.prog 12 #[.string s, .int .i64 1] W fun r w' => r = .returned (.bool true) ∧ W = w') (h3 : Calls Tryz.prog 10 #[.string B, .int .i64 64] w fun r w' => (∃ v, r = .returned (.tuple #[.float .f64 F, v])) ∧ Below w.heap.size w w') : DPa s (F + fSG) 0 w := by
  unfold DPa
  have hzI : ¬ (1000 : Int) < (s.size : Int) := by omega
  have hb := get_bt s
  have h0I : (0 : Int) < (s.size : Int) := by omega
  have h1I : (1 : Int) ≤ (s.size : Int) := by omega
  have hwf := f64_plus hF
  generalize F + fSG = G at hwf ⊢
  have H_h2 := Lib.hid h2
  have H_h3 := Lib.hid h3
  clear h2 h3
  go_enter Tryz.func5, Tryz.ntmps5
  go_wp2_with (first
    | (go_at_call 12; (with_reducible refine (H_h2.out _).mono ?_); rintro e w9 ⟨rfl, rfl⟩)
    | (go_at_call 10; (with_reducible refine H_h3.out.mono ?_); rintro e w4 ⟨⟨v4, rfl⟩, hb4⟩; have HB4 := Lib.hid hb4; clear hb4)
    | fail)
  go_ret2
  exact ⟨rfl, HB4.out⟩
/-- The tables, and strconv's error for what is out of range, in memory. -/
structure PFT (hiT loT T : Nat → Nat) (tv : TypeId) (yv : Value) (w : World) (b : Nat) : Prop where
  t : TBL hiT loT T w b
  e : w.cell? ⟨2, 0, none⟩ = some (.iface tv yv)
  el : 2 < b
theorem PFT.keep {hiT loT T : Nat → Nat} {tv : TypeId} {yv : Value} {w w' : World} {b : Nat} (h : PFT hiT loT T tv yv w b) (hb : Below b w w') : PFT hiT loT T tv yv w' b :=
  ⟨h.t.keep hb, (hb.cell (p := ⟨_, _, none⟩) h.el).trans h.e, h.el⟩
theorem PFT.up {hiT loT T : Nat → Nat} {tv : TypeId} {yv : Value} {w : World} {b b' : Nat} (h : PFT hiT loT T tv yv w b) (hb : b ≤ b') : PFT hiT loT T tv yv w b' :=
  ⟨h.t.up hb, h.e, Nat.lt_of_lt_of_le h.el hb⟩
/-- ParseFloat of a numeral. -/
theorem pfl_any {hiT loT T : Nat → Nat} (hf : TBF hiT loT T) (tv : TypeId) (yv : Value) (s : ByteArray) (a p q : Nat) (h : Nml s a p q) : ∃ F, F ≤ fIN ∧ ∀ w, PFT hiT loT T tv yv w w.heap.size →
    Calls Tryz.prog 10 #[.string s, .int .i64 64] w fun r w' => (∃ v, r = .returned (.tuple #[.float .f64 F, v])) ∧ Below w.heap.size w w' := by
  obtain ⟨F, h1, h2⟩ := atof_any hf s a p q h
  exact ⟨F, h1, fun w hw => pf_any s F h.sz tv yv w (h2 w hw.t) hw.el hw.e⟩
/-- Both sides' Parse. -/
theorem parse_both {hiT loT T : Nat → Nat} (hf : TBF hiT loT T) (tv : TypeId) (yv : Value) (s : ByteArray) : ∃ b : Nat, ∃ e : Int, ∀ w, PFT hiT loT T tv yv w w.heap.size → RPa s b e w ∧ DPa s b e w := by
  by_cases hz : s.size ≤ 1000
  · have hcp : ∀ (o : Nat) (ng : Bool), (⟨(Lib.trimPrefix s.data.toList [45]).toArray⟩ : ByteArray) = sb s o ∧ Lib.hasPrefix s.data.toList [45] = ng → ∀ W, Calls Tryz.prog 7 #[.string s, .string ⟨#[45]⟩] W fun r w' => r = .returned (.tuple #[.string (sb s o), .bool ng]) ∧ W = w' := fun o ng h W => by
      have := cut_call s 45 0 ng (sb s o) (by rw [sb_zero]; exact h) W
      rw [sb_zero] at this
      exact this
    by_cases h0 : s.size = 0
    · have h1 := cut_no s 45 (k := 0) (fun h => by omega)
      rw [sb_zero] at h1
      have hc := hcp 0 false (by rw [sb_zero]; exact h1)
      obtain ⟨b, hb1, hb2, hb3⟩ := num_both s 0 (by omega) hz
      rw [sb_zero] at hc hb1 hb3
      have hse : s = ⟨#[]⟩ := by have := sb_nil s (k := 0) (by omega); rw [sb_zero] at this; exact this
      have qn : (s.toList == [110, 97, 110]) = false := by rw [hse]; simp
      have qi : (s.toList == [105, 110, 102]) = false := by rw [hse]; simp
      cases b with
      | true =>
        obtain ⟨a, p, q, hn⟩ := hb3 rfl
        have := hn.a1; have := hn.ap; have := hn.pz; omega
      | false => exact ⟨0, 4, fun w hw => ⟨rp_bad_p s s w hz hc qn qi hb1, dp_bad_z s s w h0 hz qi qn hb2⟩⟩
    · have h0' : 0 < s.size := by omega
      by_cases h45 : bt s 0 = 45
      · have h1 := cut_yes s 45 (k := 0) h0' h45
        rw [sb_zero] at h1
        have hc := hcp 1 true h1
        obtain ⟨b, hb1, hb2, hb3⟩ := num_both s 1 (by omega) hz
        have hx : s.extract 1 s.size = sb s 1 := sb_ext s 1 (by omega)
        cases qn : ((sb s 1).toList == [110, 97, 110]) with
        | true =>
          have qi : ((sb s 1).toList == [105, 110, 102]) = false := by rw [eq_of_beq qn]; rfl
          exact ⟨_, 0, fun w hw => ⟨rp_nan_m s _ w hz hc qn, dp_nan_m s _ w h0' (beT h45) hx hz qi qn⟩⟩
        | false =>
          cases qi : ((sb s 1).toList == [105, 110, 102]) with
          | true => exact ⟨_, 0, fun w hw => ⟨rp_inf_m s _ w hz hc qn qi, dp_inf_m s _ w h0' (beT h45) hx hz qi⟩⟩
          | false =>
            cases b with
            | true =>
              obtain ⟨a, p, q, hn⟩ := hb3 rfl
              obtain ⟨F, hF, hP⟩ := pfl_any hf tv yv _ a p q hn
              exact ⟨F + fSG, 0, fun w hw => ⟨rp_num_m s _ F w hF hz hc qn qi hb1 (hP w hw), dp_num_m s _ F w hF h0' (beT h45) hx hz qi qn hb2 (hP w hw)⟩⟩
            | false => exact ⟨0, 4, fun w hw => ⟨rp_bad_m s _ w hz hc qn qi hb1, dp_bad_m s _ w h0' (beT h45) hx hz qi qn hb2⟩⟩
      · have h1 := cut_no s 45 (k := 0) (fun h => h45 h.2)
        rw [sb_zero] at h1
        have hc := hcp 0 false (by rw [sb_zero]; exact h1)
        obtain ⟨b, hb1, hb2, hb3⟩ := num_both s 0 (by omega) hz
        rw [sb_zero] at hc hb1 hb3
        cases qn : (s.toList == [110, 97, 110]) with
        | true =>
          have qi : (s.toList == [105, 110, 102]) = false := by rw [eq_of_beq qn]; rfl
          exact ⟨_, 0, fun w hw => ⟨rp_nan_p s _ w hz hc qn, dp_nan_d s s w h0' (beF h45) hz qi qn⟩⟩
        | false =>
          cases qi : (s.toList == [105, 110, 102]) with
          | true => exact ⟨_, 0, fun w hw => ⟨rp_inf_p s _ w hz hc qn qi, dp_inf_d s s w h0' (beF h45) hz qi⟩⟩
          | false =>
            cases b with
            | true =>
              obtain ⟨a, p, q, hn⟩ := hb3 rfl
              obtain ⟨F, hF, hP⟩ := pfl_any hf tv yv _ a p q hn
              exact ⟨F, 0, fun w hw => ⟨rp_num_p s _ F w hF hz hc qn qi hb1 (hP w hw), dp_num_d s s F w hF h0' (beF h45) hz qi qn hb2 (hP w hw)⟩⟩
            | false => exact ⟨0, 4, fun w hw => ⟨rp_bad_p s _ w hz hc qn qi hb1, dp_bad_d s s w h0' (beF h45) hz qi qn hb2⟩⟩
  · exact ⟨0, 2, fun w hw => ⟨rp_long s s w hz, dp_long s s w hz⟩⟩
end Go.Proofs.YtbhaigbgembcaaaGreatDoor
