/- strconv's atof64: its leaves. -/
import Derived.Test.YtbhaigbgembcaaaGreatDoorPGPiC
namespace Go.Proofs.YtbhaigbgembcaaaGreatDoor
open Go Go.ChangeShapes Go.WideShapes Go.RowKit
set_option linter.unusedVariables false
set_option linter.unusedSimpArgs false
theorem PTZ.up {hiT loT : Nat → Nat} {w : World} {b b' : Nat} (h : PTZ hiT loT w b) (hb : b ≤ b') : PTZ hiT loT w b' := ⟨Nat.lt_of_lt_of_le h.l hb, h.h⟩
theorem LC.up {w : World} {b b' : Nat} (h : LC w b) (hb : b ≤ b') : LC w b' := by
  obtain ⟨R, o, c, h1, h2, h3, h4, h5⟩ := h.ex
  exact ⟨R, o, c, Nat.lt_of_lt_of_le h1 hb, h2, h3, Nat.lt_of_lt_of_le h4 hb, h5⟩
theorem PWT.up {w : World} {b b' : Nat} (h : PWT w b) (hb : b ≤ b') : PWT w b' := by
  obtain ⟨R, o, c, h1, h2, h3, h4, h5⟩ := h.ex
  exact ⟨R, o, c, Nat.lt_of_lt_of_le h1 hb, h2, h3, Nat.lt_of_lt_of_le h4 hb, h5⟩
theorem FI.up {w : World} {F b b' : Nat} (h : FI w F b) (hb : b ≤ b') : FI w F b' := ⟨h.m, h.e, h.bs, Nat.lt_of_lt_of_le h.l hb⟩
theorem F10.up {T : Nat → Nat} {w : World} {b b' : Nat} (h : F10 T w b) (hb : b ≤ b') : F10 T w b' := by
  obtain ⟨R, o, c, h1, h2, h3, h4, h5⟩ := h.ex
  exact ⟨R, o, c, Nat.lt_of_lt_of_le h1 hb, h2, h3, Nat.lt_of_lt_of_le h4 hb, h5⟩
/-- strconv's tables in memory, below b. -/
structure TBL (hiT loT T : Nat → Nat) (w : World) (b : Nat) : Prop where
  p : PTZ hiT loT w b
  l : LC w b
  pw : PWT w b
  f : FI w 5 b
  t : F10 T w b
  o : w.cell? ⟨4, 0, none⟩ = some (.bool true)
  ol : 4 < b
theorem TBL.keep {hiT loT T : Nat → Nat} {w w' : World} {b : Nat} (h : TBL hiT loT T w b) (hb : Below b w w') : TBL hiT loT T w' b :=
  ⟨h.p.keep hb, h.l.keep hb, h.pw.keep hb, h.f.keep hb, h.t.keep hb, (hb.cell (p := ⟨_, _, none⟩) h.ol).trans h.o, h.ol⟩
theorem TBL.up {hiT loT T : Nat → Nat} {w : World} {b b' : Nat} (h : TBL hiT loT T w b) (hb : b ≤ b') : TBL hiT loT T w b' :=
  ⟨h.p.up hb, h.l.up hb, h.pw.up hb, h.f.up hb, h.t.up hb, h.o, Nat.lt_of_lt_of_le h.ol hb⟩
/-- What is known of the tables' numbers. -/
structure TBF (hiT loT T : Nat → Nat) : Prop where
  h : ∀ i, hiT i < 18446744073709551616
  l : ∀ i, loT i < 18446744073709551616
  t : ∀ k, k < 23 → 0 < T k ∧ T k < fIN
theorem fbX_le (x : DS × Int) : (fbX x false).1 ≤ fIN := by
  have hI : fIN = 9218868437227405312 := rfl
  have hW : ∀ r, Ieee.double.word false r = r := fun r => rfl
  unfold fbX
  by_cases h1 : 1024 ≤ x.2
  · rw [if_pos h1]; exact Nat.le_refl _
  · rw [if_neg h1]
    split
    · split
      · exact Nat.le_refl _
      · simp only [hW]; omega
    · split
      · simp only [hW]; omega
      · simp only [hW]; omega
theorem fba_le (s : DS) : (fba s false).1 ≤ fIN := by
  unfold fba
  split
  · exact Nat.zero_le _
  · split
    · exact Nat.le_refl _
    · split
      · exact Nat.zero_le _
      · unfold fb; exact fbX_le _
/-- What readFloat and special answer at a text. -/
structure RDs (s : ByteArray) (m : Nat) (E : Int) (tr : Bool) : Prop where
  sp : ∀ w, Calls Tryz.prog 58 #[.string s] w fun e w' => e = .returned (.tuple #[.float .f64 0, .int .i64 0, .bool false]) ∧ w = w'
  rd : ∀ w, Calls Tryz.prog 59 #[.string s] w fun e w' => e = .returned (.tuple #[.int .u64 ((m : Nat) : Int), .int .i64 E, .bool false, .bool tr, .bool false, .int .i64 ((s.size : Nat) : Int), .bool true]) ∧ w = w'
  m : m < 10000000000000000000
def AtP (s : ByteArray) (X : Nat) (w : World) : Prop := Calls Tryz.prog 46 #[.string s] w fun r w' => (∃ v, r = .returned (.tuple #[.float .f64 X, .int .i64 ((s.size : Nat) : Int), v]) ∧ ErrV v) ∧ Below w.heap.size w w'
set_option maxRecDepth 100000 in
set_option maxHeartbeats 2000000 in
theorem at_zero (s : ByteArray) (E : Int) (tr : Bool) (w : World) (hR : RDs s 0 E tr) (ho : w.cell? ⟨4, 0, none⟩ = some (.bool true)) : AtP s 0 w := by
  unfold AtP
  have HR := Lib.hid hR
  clear hR
  have ho0 : bits .or .u64 0 0 = 0 := by rfl
  have hfb : (callFunc 68 #[.int .u64 0]).run Tryz.prog w = .ok (.value (.float .f64 0)) w := run_sfrombits 0 w
  go_enter Tryz.func46, Tryz.ntmps46
  go_wp2_with (first
    | (go_at_call 58; (with_reducible refine (HR.out.sp _).mono ?_); rintro e w9 ⟨rfl, rfl⟩)
    | (go_at_call 59; (with_reducible refine (HR.out.rd _).mono ?_); rintro e w9 ⟨rfl, rfl⟩)
    | (go_at_call 67; (with_reducible refine (bool2u_any _ _).mono ?_); rintro e w9 ⟨rfl, rfl⟩)
    | fail)
  all_goals first
    | (exfalso; omega)
    | (go_ret3; exact ⟨⟨.nilIface, rfl, .inl rfl⟩, Below.refl _ _⟩)
set_option maxRecDepth 100000 in
set_option maxHeartbeats 2000000 in
theorem at_over (s : ByteArray) (m : Nat) (E : Int) (tr : Bool) (w : World) (hR : RDs s m E tr) (ho : w.cell? ⟨4, 0, none⟩ = some (.bool true)) (hm : m ≠ 0) (hE : 310 < E) : AtP s fIN w := by
  unfold AtP
  have HR := Lib.hid hR
  clear hR
  have hm1 : ¬ (m : Int) = 0 := by omega
  have ho0 : bits .or .u64 0 9218868437227405312 = 9218868437227405312 := by rfl
  have hfb : (callFunc 68 #[.int .u64 9218868437227405312]).run Tryz.prog w = .ok (.value (.float .f64 9218868437227405312)) w := run_sfrombits 9218868437227405312 w
  go_enter Tryz.func46, Tryz.ntmps46
  go_wp2_with (first
    | (go_at_call 58; (with_reducible refine (HR.out.sp _).mono ?_); rintro e w9 ⟨rfl, rfl⟩)
    | (go_at_call 59; (with_reducible refine (HR.out.rd _).mono ?_); rintro e w9 ⟨rfl, rfl⟩)
    | (go_at_call 67; (with_reducible refine (bool2u_any _ _).mono ?_); rintro e w9 ⟨rfl, rfl⟩)
    | fail)
  all_goals first
    | (exfalso; omega)
    | (go_ret3; exact ⟨⟨_, rfl, .inr rfl⟩, Below.refl _ _⟩)
set_option maxRecDepth 100000 in
set_option maxHeartbeats 2000000 in
theorem at_under (s : ByteArray) (m : Nat) (E : Int) (tr : Bool) (w : World) (hR : RDs s m E tr) (ho : w.cell? ⟨4, 0, none⟩ = some (.bool true)) (hm : m ≠ 0) (hE : E < -345) : AtP s 0 w := by
  unfold AtP
  have HR := Lib.hid hR
  clear hR
  have hm1 : ¬ (m : Int) = 0 := by omega
  have hE2 : ¬ 310 < E := by omega
  have ho0 : bits .or .u64 0 0 = 0 := by rfl
  have hfb : (callFunc 68 #[.int .u64 0]).run Tryz.prog w = .ok (.value (.float .f64 0)) w := run_sfrombits 0 w
  go_enter Tryz.func46, Tryz.ntmps46
  go_wp2_with (first
    | (go_at_call 58; (with_reducible refine (HR.out.sp _).mono ?_); rintro e w9 ⟨rfl, rfl⟩)
    | (go_at_call 59; (with_reducible refine (HR.out.rd _).mono ?_); rintro e w9 ⟨rfl, rfl⟩)
    | (go_at_call 67; (with_reducible refine (bool2u_any _ _).mono ?_); rintro e w9 ⟨rfl, rfl⟩)
    | fail)
  all_goals first
    | (exfalso; omega)
    | (go_ret3; exact ⟨⟨_, rfl, .inl rfl⟩, Below.refl _ _⟩)
set_option maxRecDepth 100000 in
set_option maxHeartbeats 2000000 in
theorem at_exact (s : ByteArray) (m : Nat) (E : Int) (x : Nat) (w : World) (hR : RDs s m E false) (ho : w.cell? ⟨4, 0, none⟩ = some (.bool true)) (hm : m ≠ 0) (hE : -345 ≤ E ∧ E ≤ 310) (hX : Calls Tryz.prog 69 #[.int .u64 (m : Int), .int .i64 E, .bool false] w fun r w' => r = .returned (.tuple #[.float .f64 x, .bool true]) ∧ w = w') : AtP s x w := by
  unfold AtP
  have HR := Lib.hid hR
  clear hR
  have hm1 : ¬ (m : Int) = 0 := by omega
  have hE2 : ¬ 310 < E := by omega
  have hE3 : ¬ E < -345 := by omega
  clear hE
  have HX := Lib.hid hX
  clear hX
  go_enter Tryz.func46, Tryz.ntmps46
  go_wp2_with (first
    | (go_at_call 58; (with_reducible refine (HR.out.sp _).mono ?_); rintro e w9 ⟨rfl, rfl⟩)
    | (go_at_call 59; (with_reducible refine (HR.out.rd _).mono ?_); rintro e w9 ⟨rfl, rfl⟩)
    | (go_at_call 67; (with_reducible refine (bool2u_any _ _).mono ?_); rintro e w9 ⟨rfl, rfl⟩)
    | (go_at_call 69; (with_reducible refine HX.out.mono ?_); rintro e w9 ⟨rfl, rfl⟩)
    | fail)
  all_goals first
    | (exfalso; omega)
    | (go_ret3; exact ⟨⟨_, rfl, .inl rfl⟩, Below.refl _ _⟩)
set_option maxRecDepth 100000 in
set_option maxHeartbeats 2000000 in
theorem at_pf (s : ByteArray) (m : Nat) (E : Int) (x y : Nat) (w : World) (hR : RDs s m E false) (ho : w.cell? ⟨4, 0, none⟩ = some (.bool true)) (hm : m ≠ 0) (hE : -345 ≤ E ∧ E ≤ 310) (hX : Calls Tryz.prog 69 #[.int .u64 (m : Int), .int .i64 E, .bool false] w fun r w' => r = .returned (.tuple #[.float .f64 x, .bool false]) ∧ w = w') (hP : Calls Tryz.prog 70 #[.int .u64 (m : Int), .int .i64 E, .int .u64 0] w fun r w' => (∃ v, r = .returned (.tuple #[.float .f64 y, v]) ∧ ErrV v) ∧ Below w.heap.size w w') : AtP s y w := by
  unfold AtP
  have HR := Lib.hid hR
  clear hR
  have hm1 : ¬ (m : Int) = 0 := by omega
  have hE2 : ¬ 310 < E := by omega
  have hE3 : ¬ E < -345 := by omega
  clear hE
  have HX := Lib.hid hX
  have HP := Lib.hid hP
  clear hX hP
  go_enter Tryz.func46, Tryz.ntmps46
  go_wp2_with (first
    | (go_at_call 58; (with_reducible refine (HR.out.sp _).mono ?_); rintro e w9 ⟨rfl, rfl⟩)
    | (go_at_call 59; (with_reducible refine (HR.out.rd _).mono ?_); rintro e w9 ⟨rfl, rfl⟩)
    | (go_at_call 67; (with_reducible refine (bool2u_any _ _).mono ?_); rintro e w9 ⟨rfl, rfl⟩)
    | (go_at_call 69; (with_reducible refine HX.out.mono ?_); rintro e w9 ⟨rfl, rfl⟩)
    | (go_at_call 70; (with_reducible refine HP.out.mono ?_); rintro e w4 ⟨⟨v4, rfl, hv4⟩, hb4⟩; have HB4 := Lib.hid hb4; have HV4 := Lib.hid hv4; clear hb4 hv4)
    | fail)
  all_goals first
    | (exfalso; omega)
    | (go_ret3; exact ⟨⟨_, rfl, HV4.out⟩, HB4.out⟩)
set_option maxRecDepth 100000 in
set_option maxHeartbeats 2000000 in
theorem at_eq (s : ByteArray) (m m1 : Nat) (E : Int) (y y1 : Nat) (w : World) (hR : RDs s m E true) (ho : w.cell? ⟨4, 0, none⟩ = some (.bool true)) (hm : m ≠ 0) (hE : -345 ≤ E ∧ E ≤ 310) (hP : Calls Tryz.prog 70 #[.int .u64 (m : Int), .int .i64 E, .int .u64 0] w fun r w' => (∃ v, r = .returned (.tuple #[.float .f64 y, v]) ∧ ErrV v) ∧ Below w.heap.size w w') (hP1 : ∀ W, Below w.heap.size w W → Calls Tryz.prog 70 #[.int .u64 (m1 : Int), .int .i64 E, .int .u64 0] W fun r w' => (∃ v, r = .returned (.tuple #[.float .f64 y1, v]) ∧ ErrV v) ∧ Below W.heap.size W w') (hm1 : m + 1 = m1) (hq : (FloatKind.f64.format.order y y1 == some .eq) = true) : AtP s y w := by
  unfold AtP
  have HR := Lib.hid hR
  clear hR
  have hm0 : ¬ (m : Int) = 0 := by omega
  have hE2 : ¬ 310 < E := by omega
  have hE3 : ¬ E < -345 := by omega
  clear hE
  have hmw : IntKind.u64.wrap ((m : Int) + 1) = (m1 : Int) := by have hmm := HR.out.m; rw [IntWalk.u64_in _ (by omega)]; omega
  have HP := Lib.hid hP
  have HP1 := Lib.hid hP1
  clear hP hP1 hm1
  go_enter Tryz.func46, Tryz.ntmps46
  go_wp2_with (first
    | (go_at_call 58; (with_reducible refine (HR.out.sp _).mono ?_); rintro e w9 ⟨rfl, rfl⟩)
    | (go_at_call 59; (with_reducible refine (HR.out.rd _).mono ?_); rintro e w9 ⟨rfl, rfl⟩)
    | (go_at_call 67; (with_reducible refine (bool2u_any _ _).mono ?_); rintro e w9 ⟨rfl, rfl⟩)
    | (go_at_call 70; (with_reducible refine HP.out.mono ?_); rintro e w4 ⟨⟨v4, rfl, hv4⟩, hb4⟩; have HB4 := Lib.hid hb4; have HV4 := Lib.hid hv4; clear hb4 hv4)
    | (go_at_call 70; (with_reducible refine (HP1.out _ HB4.out).mono ?_); rintro e w5 ⟨⟨v5, rfl, hv5⟩, hb5⟩; have HB5 := Lib.hid (HB4.out.trans (hb5.mono HB4.out.size)); clear hb5 hv5)
    | fail)
  all_goals first
    | (exfalso; omega)
    | (go_ret3; exact ⟨⟨_, rfl, HV4.out⟩, HB5.out⟩)
set_option maxRecDepth 100000 in
set_option maxHeartbeats 2000000 in
theorem at_slow (s : ByteArray) (a p q F : Nat) (ov : Bool) (hz : fba (sfZ s a p q) false = (F, ov)) (h : Nml s a p q) (hiT loT T : Nat → Nat) (m m1 : Nat) (E : Int) (y y1 : Nat) (w : World) (hR : RDs s m E true) (ho : w.cell? ⟨4, 0, none⟩ = some (.bool true)) (hT : TBL hiT loT T w w.heap.size) (hm : m ≠ 0) (hE : -345 ≤ E ∧ E ≤ 310) (hP : Calls Tryz.prog 70 #[.int .u64 (m : Int), .int .i64 E, .int .u64 0] w fun r w' => (∃ v, r = .returned (.tuple #[.float .f64 y, v]) ∧ ErrV v) ∧ Below w.heap.size w w') (hP1 : ∀ W, Below w.heap.size w W → Calls Tryz.prog 70 #[.int .u64 (m1 : Int), .int .i64 E, .int .u64 0] W fun r w' => (∃ v, r = .returned (.tuple #[.float .f64 y1, v]) ∧ ErrV v) ∧ Below W.heap.size W w') (hm1 : m + 1 = m1) (hq : (FloatKind.f64.format.order y y1 == some .eq) = false) : AtP s F w := by
  unfold AtP
  have HR := Lib.hid hR
  clear hR
  have hm0 : ¬ (m : Int) = 0 := by omega
  have hE2 : ¬ 310 < E := by omega
  have hE3 : ¬ E < -345 := by omega
  clear hE
  have hmw : IntKind.u64.wrap ((m : Int) + 1) = (m1 : Int) := by have hmm := HR.out.m; rw [IntWalk.u64_in _ (by omega)]; omega
  have HP := Lib.hid hP
  have HP1 := Lib.hid hP1
  clear hP hP1 hm1
  go_enter Tryz.func46, Tryz.ntmps46
  go_upto_region 28 with (first
    | (go_at_call 58; (with_reducible refine (HR.out.sp _).mono ?_); rintro e w9 ⟨rfl, rfl⟩)
    | (go_at_call 59; (with_reducible refine (HR.out.rd _).mono ?_); rintro e w9 ⟨rfl, rfl⟩)
    | (go_at_call 67; (with_reducible refine (bool2u_any _ _).mono ?_); rintro e w9 ⟨rfl, rfl⟩)
    | (go_at_call 70; (with_reducible refine HP.out.mono ?_); rintro e w4 ⟨⟨v4, rfl, hv4⟩, hb4⟩; have HB4 := Lib.hid hb4; have HV4 := Lib.hid hv4; clear hb4 hv4)
    | (go_at_call 70; (with_reducible refine (HP1.out _ HB4.out).mono ?_); rintro e w5 ⟨⟨v5, rfl, hv5⟩, hb5⟩; have HB5 := Lib.hid (HB4.out.trans (hb5.mono HB4.out.size)); clear hb5 hv5)
    | fail)
  go_upto_region 29 with fail
  generalize hw6 : w5.alloc _ = w6
  have HB6 := Lib.hid (show Below w.heap.size w w6 by rw [← hw6]; exact HB5.out.alloc HB5.out.size _)
  have HD := Lib.hid (show DM w6 w5.heap.size ⟨0, 0, 0, false⟩ false by rw [← hw6]; exact dm_new w5)
  have HS := Lib.hid (set_any w5.heap.size s a p q h w6 HD.out)
  have hsl : s.extract 0 s.size = s := by simp
  obtain ⟨b, hb⟩ : ∃ b, w5.heap.size = b := ⟨_, rfl⟩
  have hbw : w.heap.size ≤ b := by rw [← hb]; exact HB5.out.size
  rw [hb] at HS ⊢
  have HTT := Lib.hid hT
  have HN := Lib.hid (sfZ_nrm h)
  clear hT ho hw6 HD hb h
  have hz2 : ∀ W, DM W b (sfZ s a p q) false → TBL hiT loT T W b → Calls Tryz.prog 66 #[.pointer (some ⟨b, 0, none⟩), .pointer (some ⟨5, 0, none⟩)] W fun e w' => e = .returned (.tuple #[.int .u64 ((F : Nat) : Int), .bool ov]) ∧ Below b W w' := fun W hD hT => by
    have := fba_any b _ (sfZ s a p q) false W HN.out hD hT.l hT.pw hT.f
    rw [hz] at this
    exact this
  have HF := Lib.hid hz2
  clear hz hz2
  go_upto_region 31 with (first
    | (go_at_call 65; (with_reducible refine HS.out.mono ?_); rintro e w7 ⟨rfl, hd7, hb7⟩; have HD7 := Lib.hid hd7; have HB7 := Lib.hid (HB6.out.trans (hb7.mono hbw)); clear hd7 hb7)
    | fail)
  have HF7 := Lib.hid (HF.out w7 HD7.out ((HTT.out.keep HB7.out).up hbw))
  have hfb : ∀ W, (callFunc 68 #[.int .u64 (F : Int)]).run Tryz.prog W = .ok (.value (.float .f64 F)) W := fun W => run_sfrombits F W
  cases ov
  all_goals
    go_wp2_with (first
      | (go_at_call 66; (with_reducible refine HF7.out.mono ?_); rintro e w8 ⟨rfl, hb8⟩; have HB8 := Lib.hid (HB7.out.trans (hb8.mono hbw)); clear hb8)
      | fail)
    go_ret3
    first
      | exact ⟨⟨_, rfl, .inl rfl⟩, HB8.out⟩
      | exact ⟨⟨_, rfl, .inr rfl⟩, HB8.out⟩
theorem m_lt {s : ByteArray} {a p q : Nat} (h : Nml s a p q) : (qfN s p).m < 10000000000000000000 := by
  have hk := qf_ok h p (Nat.le_refl _)
  exact Nat.lt_of_lt_of_le hk.m (show 10 ^ (qfN s p).nm ≤ 10 ^ 19 from Nat.pow_le_pow_right (by decide) hk.nm)
/-- atof64 of a numeral: a float, no NaN, not below 0, always the same. -/
theorem atof_any {hiT loT T : Nat → Nat} (hf : TBF hiT loT T) (s : ByteArray) (a p q : Nat) (h : Nml s a p q) : ∃ F, F ≤ fIN ∧ ∀ w, TBL hiT loT T w w.heap.size → AtP s F w := by
  have hR : RDs s (qfN s p).m (expZ s p q) (qfN s p).tr := ⟨special_any s a p q h, read_any s a p q h, m_lt h⟩
  obtain ⟨m, hm⟩ : ∃ m, (qfN s p).m = m := ⟨_, rfl⟩
  obtain ⟨E, hE⟩ : ∃ E, expZ s p q = E := ⟨_, rfl⟩
  obtain ⟨tr, htr⟩ : ∃ tr, (qfN s p).tr = tr := ⟨_, rfl⟩
  rw [hm, hE, htr] at hR
  have hI : 0 ≤ fIN := Nat.zero_le _
  have hml := hR.m
  by_cases h0 : m = 0
  · subst h0
    exact ⟨0, hI, fun w hT => at_zero s E tr w hR hT.o⟩
  by_cases h1 : 310 < E
  · exact ⟨fIN, Nat.le_refl _, fun w hT => at_over s m E tr w hR hT.o h0 h1⟩
  by_cases h2 : E < -345
  · exact ⟨0, hI, fun w hT => at_under s m E tr w hR hT.o h0 h2⟩
  have hin : -345 ≤ E ∧ E ≤ 310 := ⟨by omega, by omega⟩
  obtain ⟨i, hi⟩ : ∃ i : Nat, (i : Int) - 348 = E := ⟨(E + 348).toNat, by omega⟩
  have hil : i < 696 := by omega
  have hP : ∀ n : Nat, n ≠ 0 → n < 18446744073709551616 → ∃ y, y ≤ fIN ∧ ∀ w, PTZ hiT loT w w.heap.size → Calls Tryz.prog 70 #[.int .u64 (n : Int), .int .i64 E, .int .u64 0] w fun r w' => (∃ v, r = .returned (.tuple #[.float .f64 y, v]) ∧ ErrV v) ∧ Below w.heap.size w w' := by
    intro n hn hnl
    refine ⟨pfF (hiT i) (loT i) n E, pfF_le _ _ n E hn hnl (hf.h i) ⟨by omega, by omega⟩, fun w hT => ?_⟩
    have := pf64_any hiT loT n i hf.h hf.l hn hnl hil w hT
    rw [hi] at this
    exact this
  obtain ⟨y, hy, hyP⟩ := hP m h0 (by omega)
  cases tr with
  | false =>
    obtain ⟨x, ok, hx1, hx2⟩ := exact_any T hf.t m E ⟨by omega, by omega⟩
    cases ok with
    | true => exact ⟨x, hx1 rfl, fun w hT => at_exact s m E x w hR hT.o h0 hin (hx2 w hT.t hT.f)⟩
    | false => exact ⟨y, hy, fun w hT => at_pf s m E x y w hR hT.o h0 hin (hx2 w hT.t hT.f) (hyP w hT.p)⟩
  | true =>
    obtain ⟨y1, hy1, hyP1⟩ := hP (m + 1) (by omega) (by omega)
    have hP1 : ∀ w, TBL hiT loT T w w.heap.size → ∀ W, Below w.heap.size w W → Calls Tryz.prog 70 #[.int .u64 ((m + 1 : Nat) : Int), .int .i64 E, .int .u64 0] W fun r w' => (∃ v, r = .returned (.tuple #[.float .f64 y1, v]) ∧ ErrV v) ∧ Below W.heap.size W w' :=
      fun w hT W hb => hyP1 W ((hT.p.keep hb).up hb.size)
    by_cases hq : (FloatKind.f64.format.order y y1 == some .eq) = true
    · exact ⟨y, hy, fun w hT => at_eq s m (m + 1) E y y1 w hR hT.o h0 hin (hyP w hT.p) (hP1 w hT) rfl hq⟩
    · refine ⟨(fba (sfZ s a p q) false).1, fba_le _, fun w hT => ?_⟩
      exact at_slow s a p q _ (fba (sfZ s a p q) false).2 rfl h hiT loT T m (m + 1) E y y1 w hR hT.o hT h0 hin (hyP w hT.p) (hP1 w hT) rfl (by simpa using hq)
end Go.Proofs.YtbhaigbgembcaaaGreatDoor
