/- strconv.ParseFloat at a numeral. strconv's atof64 at a numeral, whole. ParseFloat's tables in memory; ParseFloat of a numeral. -/
import Derived.Test.YtbhommcpgejbfaaGreatDoorPGPiC
import Derived.Test.YtbhommcpgejbfaaGreatDoorShelfC
import Derived.Deep.RegionHeld3
import Derived.Lib.IfaceEq
import Derived.Test.YtbhommcpgejbfaaGreatDoorPPgR
namespace Go.Proofs.YtbhommcpgejbfaaGreatDoor
section
open Go Go.ChangeShapes Go.WideShapes Go.RowKit
set_option linter.unusedVariables false
set_option linter.unusedSimpArgs false
set_option maxRecDepth 100000 in
theorem pfpre_any (s : ByteArray) (F : Nat) (w : World) (h : AtP s F w) :
    Calls Tryz.prog 62 #[.string s, .int .i64 64] w fun r w' => (∃ v, r = .returned (.tuple #[.float .f64 F, .int .i64 ((s.size : Nat) : Int), v]) ∧ ErrV v) ∧ Below w.heap.size w w' := by
  unfold AtP at h
  have H := Lib.hid h
  clear h
  go_enter Tryz.func62, Tryz.ntmps62
  go_wp2_with (first
    | (go_at_call 83; (with_reducible refine H.out.mono ?_); rintro e w1 ⟨⟨v1, rfl, hv1⟩, hb1⟩; have HV1 := Lib.hid hv1; have HB1 := Lib.hid hb1; clear hv1 hb1)
    | fail)
  go_ret3
  exact ⟨⟨_, rfl, HV1.out⟩, HB1.out⟩
set_option maxRecDepth 100000 in
theorem ipf_any (s : ByteArray) (F : Nat) (w : World) (h : AtP s F w) :
    Calls Tryz.prog 36 #[.string s, .int .i64 64] w fun r w' => (∃ v, r = .returned (.tuple #[.float .f64 F, v]) ∧ ErrV v) ∧ Below w.heap.size w w' := by
  have H := Lib.hid (pfpre_any s F w h)
  clear h
  go_enter Tryz.func36, Tryz.ntmps36
  go_wp2_with (first
    | (go_at_call 62; (with_reducible refine H.out.mono ?_); rintro e w1 ⟨⟨v1, rfl, hv1⟩, hb1⟩; have HV1 := Lib.hid hv1; have HB1 := Lib.hid hb1; clear hv1 hb1)
    | fail)
  go_ret2
  exact ⟨⟨_, rfl, HV1.out⟩, HB1.out⟩
set_option maxRecDepth 100000 in
theorem range_any (a s : ByteArray) (hs : s.size ≤ 1000) (tv : TypeId) (yv : Value) (w : World) (he : w.cell? ⟨2, 0, none⟩ = some (.iface tv yv)) :
    Calls Tryz.prog 64 #[.string a, .string s] w fun r w' => (∃ q, r = .returned (.pointer (some q))) ∧ Below w.heap.size w w' := by
  have hl := World.block_lt_of_cell? w _ he
  have HC := Lib.hid (fun W => Tryz.stringslite_Clone s W (by omega))
  go_enter Tryz.func64, Tryz.ntmps64
  go_upto_region 1 with fail
  go_region_held3 (fun w' => w'.cell? ⟨2, 0, none⟩ = some (.iface tv yv))
    (first | go_keep | exact (hb1.cell (p := ⟨_, _, none⟩) hl).trans he)
    ((go_at_call 84; refine (HC.out _).mono ?_; rintro e w1 ⟨rfl, hb1⟩))
  have HB := Lib.hid (show Below w.heap.size w w1 from ⟨hb1.os, hb1.tape, hb1.output, hb1.size, hb1.block⟩)
  clear hb1 HC
  go_wp2_with fail
  go_ret
  exact ⟨⟨_, rfl⟩, HB.out.alloc HB.out.size _⟩
set_option maxRecDepth 100000 in
theorem toErr_any (a s : ByteArray) (hs : s.size ≤ 1000) (x y : Int) (tv : TypeId) (yv : Value) (w : World) (he : w.cell? ⟨2, 0, none⟩ = some (.iface tv yv)) :
    Calls Tryz.prog 37 #[.string a, .string s, .int .i64 x, .int .i64 y, .iface 96 (.int .i64 1)] w fun r w' => (∃ v, r = .returned v) ∧ Below w.heap.size w w' := by
  have HR := Lib.hid (range_any a s hs tv yv w he)
  clear he
  have hcm : (Tryz.prog.info? 96).map (·.comparable) = some true := by kernel_rfl
  have q12 : (binOp .eql 41 (.iface 96 (.int .i64 1)) (.iface 96 (.int .i64 2))).run Tryz.prog w = .ok (.bool false) w := Lib.run_eql_iface_int w 1 2 Tryz.underlying41 hcm Tryz.underlying96
  have q11 : (binOp .eql 41 (.iface 96 (.int .i64 1)) (.iface 96 (.int .i64 1))).run Tryz.prog w = .ok (.bool true) w := Lib.run_eql_iface_int w 1 1 Tryz.underlying41 hcm Tryz.underlying96
  clear hcm
  go_enter Tryz.func37, Tryz.ntmps37
  go_wp2_with (first
    | (go_at_call 64; (with_reducible refine HR.out.mono ?_); rintro e w1 ⟨⟨q1, rfl⟩, hb1⟩; have HB1 := Lib.hid hb1; clear hb1)
    | fail)
  go_ret
  exact ⟨⟨_, rfl⟩, HB1.out⟩
set_option maxRecDepth 100000 in
/-- strconv.ParseFloat of a text that atof64 reads. -/
theorem pf_any (s : ByteArray) (F : Nat) (hs : s.size ≤ 1000) (tv : TypeId) (yv : Value) (w : World) (h : AtP s F w) (hl : 2 < w.heap.size) (he : w.cell? ⟨2, 0, none⟩ = some (.iface tv yv)) :
    Calls Tryz.prog 11 #[.string s, .int .i64 64] w fun r w' => (∃ v, r = .returned (.tuple #[.float .f64 F, v])) ∧ Below w.heap.size w w' := by
  have H := Lib.hid (ipf_any s F w h)
  have HE := Lib.hid (fun W (hb : Below w.heap.size w W) => toErr_any ⟨#[80, 97, 114, 115, 101, 70, 108, 111, 97, 116]⟩ s hs 0 64 tv yv W ((hb.cell (p := ⟨_, _, none⟩) hl).trans he))
  clear h he
  go_enter Tryz.func11, Tryz.ntmps11
  go_upto_region 2 with (first
    | (go_at_call 36; (with_reducible refine H.out.mono ?_); rintro e w1 ⟨⟨v1, rfl, hv1⟩, hb1⟩; have HV1 := Lib.hid hv1; have HB1 := Lib.hid hb1; clear hv1 hb1)
    | fail)
  rcases HV1.out with hv | hv
  all_goals
    subst hv
    go_wp2_with (first
      | (go_at_call 37; (with_reducible refine (HE.out _ HB1.out).mono ?_); rintro e w2 ⟨⟨q1, rfl⟩, hb2⟩; have HB2 := Lib.hid (HB1.out.trans (hb2.mono HB1.out.size)); clear hb2)
      | fail)
    go_ret2
    first
      | exact ⟨⟨_, rfl⟩, HB2.out⟩
      | exact ⟨⟨_, rfl⟩, HB1.out⟩
end
section
open Go Go.ChangeShapes Go.WideShapes Go.RowKit
set_option linter.unusedVariables false
set_option linter.unusedSimpArgs false
/-- atof64 of a numeral: a float, no NaN, not below 0, always the same. -/
theorem atof_any {hiT loT T : Nat → Nat} (hf : TBF hiT loT T) (s : ByteArray) (a p q : Nat) (h : Nml s a p q) : ∃ F, F ≤ fIN ∧ ∀ w, TBL hiT loT T w w.heap.size → AtP s F w := by
  have hR : RDs s (qfN s p).m (expZ s p q) (qfN s p).tr := ⟨special_any s a p q h, rdf_any s a p q h, m_lt h⟩
  obtain ⟨m, hm⟩ : ∃ m, (qfN s p).m = m := ⟨_, rfl⟩
  obtain ⟨E, hE⟩ : ∃ E, expZ s p q = E := ⟨_, rfl⟩
  obtain ⟨tr, htr⟩ : ∃ tr, (qfN s p).tr = tr := ⟨_, rfl⟩
  rw [hm, hE, htr] at hR
  have hI : 0 ≤ fIN := Nat.zero_le _
  have hml := hR.m
  by_cases h0 : m = 0
  · subst h0
    exact ⟨0, hI, fun w hT => at_zero s E tr w hR hT.o⟩
  by_cases h1 : 310 < E
  · exact ⟨fIN, Nat.le_refl _, fun w hT => at_over s m E tr w hR hT.o h0 h1⟩
  by_cases h2 : E < -345
  · exact ⟨0, hI, fun w hT => at_under s m E tr w hR hT.o h0 h2⟩
  have hin : -345 ≤ E ∧ E ≤ 310 := ⟨by omega, by omega⟩
  obtain ⟨i, hi⟩ : ∃ i : Nat, (i : Int) - 348 = E := ⟨(E + 348).toNat, by omega⟩
  have hil : i < 696 := by omega
  have hP : ∀ n : Nat, n ≠ 0 → n < 18446744073709551616 → ∃ y, y ≤ fIN ∧ ∀ w, PTZ hiT loT w w.heap.size → Calls Tryz.prog 116 #[.int .u64 (n : Int), .int .i64 E, .int .u64 0] w fun r w' => (∃ v, r = .returned (.tuple #[.float .f64 y, v]) ∧ ErrV v) ∧ Below w.heap.size w w' := by
    intro n hn hnl
    refine ⟨pfF (hiT i) (loT i) n E, pfF_le _ _ n E hn hnl (hf.h i) ⟨by omega, by omega⟩, fun w hT => ?_⟩
    have := pf64_any hiT loT n i hf.h hf.l hn hnl hil w hT
    rw [hi] at this
    exact this
  obtain ⟨y, hy, hyP⟩ := hP m h0 (by omega)
  cases tr with
  | false =>
    obtain ⟨x, ok, hx1, hx2⟩ := exact_any T hf.t m E ⟨by omega, by omega⟩
    cases ok with
    | true => exact ⟨x, hx1 rfl, fun w hT => at_exact s m E x w hR hT.o h0 hin (hx2 w hT.t hT.f)⟩
    | false => exact ⟨y, hy, fun w hT => at_pf s m E x y w hR hT.o h0 hin (hx2 w hT.t hT.f) (hyP w hT.p)⟩
  | true =>
    obtain ⟨y1, hy1, hyP1⟩ := hP (m + 1) (by omega) (by omega)
    have hP1 : ∀ w, TBL hiT loT T w w.heap.size → ∀ W, Below w.heap.size w W → Calls Tryz.prog 116 #[.int .u64 ((m + 1 : Nat) : Int), .int .i64 E, .int .u64 0] W fun r w' => (∃ v, r = .returned (.tuple #[.float .f64 y1, v]) ∧ ErrV v) ∧ Below W.heap.size W w' :=
      fun w hT W hb => hyP1 W ((hT.p.keep hb).up hb.size)
    by_cases hq : (FloatKind.f64.format.order y y1 == some .eq) = true
    · exact ⟨y, hy, fun w hT => at_eq s m (m + 1) E y y1 w hR hT.o h0 hin (hyP w hT.p) (hP1 w hT) rfl hq⟩
    · refine ⟨(fba (sfZ s a p q) false).1, fba_le _, fun w hT => ?_⟩
      exact at_slow s a p q _ (fba (sfZ s a p q) false).2 rfl h hiT loT T m (m + 1) E y y1 w hR hT.o hT h0 hin (hyP w hT.p) (hP1 w hT) rfl (by simpa using hq)
end
section
open Go Go.ChangeShapes Go.WideShapes Go.RowKit Go.PlainAid
set_option linter.unusedVariables false
set_option linter.unusedSimpArgs false
theorem sz_list (t : ByteArray) : t.size = t.data.toList.length := by rw [Array.length_toList]; rfl
theorem bt_at (t : ByteArray) {i : Nat} (h : i < t.size) : bt t i = ((t.data.toList[i]'(by rw [← sz_list]; exact h)).toNat : Int) := by
  unfold bt
  rw [dif_pos h]
  rfl
theorem nn_le {F : Nat} (h : F ≤ fIN) : nanB F = false ∧ F < 18446744073709551616 ∧ flipB F = F + fSG ∧ nanB (F + fSG) = false ∧ F + fSG < 18446744073709551616 := by
  have e1 : fSG = 9223372036854775808 := rfl
  have e2 : fIN = 9218868437227405312 := rfl
  refine ⟨?_, by omega, ?_, ?_, by omega⟩
  · unfold nanB; rw [decide_eq_false_iff_not, e1]; omega
  · unfold flipB; rw [if_pos (by omega)]
  · unfold nanB; rw [decide_eq_false_iff_not, e1]; omega
/-- The tables, and strconv's error for what is out of range, in memory. -/
structure PFT (hiT loT T : Nat → Nat) (tv : TypeId) (yv : Value) (w : World) (b : Nat) : Prop where
  t : TBL hiT loT T w b
  e : w.cell? ⟨2, 0, none⟩ = some (.iface tv yv)
  el : 2 < b
theorem PFT.keep {hiT loT T : Nat → Nat} {tv : TypeId} {yv : Value} {w w' : World} {b : Nat} (h : PFT hiT loT T tv yv w b) (hb : Below b w w') : PFT hiT loT T tv yv w' b :=
  ⟨h.t.keep hb, (hb.cell (p := ⟨_, _, none⟩) h.el).trans h.e, h.el⟩
theorem PFT.up {hiT loT T : Nat → Nat} {tv : TypeId} {yv : Value} {w : World} {b b' : Nat} (h : PFT hiT loT T tv yv w b) (hb : b ≤ b') : PFT hiT loT T tv yv w b' :=
  ⟨h.t.up hb, h.e, Nat.lt_of_lt_of_le h.el hb⟩
/-- ParseFloat of a numeral. -/
theorem pfl_any {hiT loT T : Nat → Nat} (hf : TBF hiT loT T) (tv : TypeId) (yv : Value) (s : ByteArray) (a p q : Nat) (h : Nml s a p q) : ∃ F, F ≤ fIN ∧ ∀ w, PFT hiT loT T tv yv w w.heap.size →
    Calls Tryz.prog 11 #[.string s, .int .i64 64] w fun r w' => (∃ v, r = .returned (.tuple #[.float .f64 F, v])) ∧ Below w.heap.size w w' := by
  obtain ⟨F, h1, h2⟩ := atof_any hf s a p q h
  exact ⟨F, h1, fun w hw => pf_any s F h.sz tv yv w (h2 w hw.t) hw.el hw.e⟩
end
end Go.Proofs.YtbhommcpgejbfaaGreatDoor
