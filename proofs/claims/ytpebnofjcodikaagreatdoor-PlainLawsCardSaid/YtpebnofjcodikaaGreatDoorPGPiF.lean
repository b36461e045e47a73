/- strconv.ParseFloat at a numeral. strconv's atof64 at a numeral, whole. ParseFloat's tables in memory; ParseFloat of a numeral. Numerals behind a minus sign, as strconv reads them, plainly; special. strconv's decimal: set at a minus sign and a numeral. strconv.readFloat at a minus sign and a numeral. strconv's decimal: set at a minus sign and a numeral, walked. strconv's pack64 and parseFloat64 with the sign bit. strconv's atof64exact, with a minus sign. strconv's atof64 at a minus sign and a numeral. -/
import Derived.Test.YtpebnofjcodikaaGreatDoorPGPiC
import Derived.Test.YtpebnofjcodikaaGreatDoorShelfC
import Derived.Deep.RegionHeld3
import Derived.Lib.IfaceEq
import Derived.Test.YtpebnofjcodikaaGreatDoorPGPfZ
import Derived.Deep.CutBlock
import Derived.Handy
import Derived.Test.YtpebnofjcodikaaGreatDoorPGPgB
import Derived.StillTailTactics
import Derived.Test.YtpebnofjcodikaaGreatDoorPGRlT
namespace Go.Proofs.YtpebnofjcodikaaGreatDoor
section
open Go Go.ChangeShapes Go.WideShapes Go.RowKit
set_option linter.unusedVariables false
set_option linter.unusedSimpArgs false
set_option maxRecDepth 100000 in
theorem pfpre_any (s : ByteArray) (F : Nat) (w : World) (h : AtP s F w) :
    Calls Tryz.prog 164 #[.string s, .int .i64 64] w fun r w' => (∃ v, r = .returned (.tuple #[.float .f64 F, .int .i64 ((s.size : Nat) : Int), v]) ∧ ErrV v) ∧ Below w.heap.size w w' := by
  unfold AtP at h
  have H := Lib.hid h
  clear h
  go_enter Tryz.func164, Tryz.ntmps164
  go_wp2_with (first
    | (go_at_call 195; (with_reducible refine H.out.mono ?_); rintro e w1 ⟨⟨v1, rfl, hv1⟩, hb1⟩; have HV1 := Lib.hid hv1; have HB1 := Lib.hid hb1; clear hv1 hb1)
    | fail)
  go_ret3
  exact ⟨⟨_, rfl, HV1.out⟩, HB1.out⟩
set_option maxRecDepth 100000 in
theorem ipf_any (s : ByteArray) (F : Nat) (w : World) (h : AtP s F w) :
    Calls Tryz.prog 141 #[.string s, .int .i64 64] w fun r w' => (∃ v, r = .returned (.tuple #[.float .f64 F, v]) ∧ ErrV v) ∧ Below w.heap.size w w' := by
  have H := Lib.hid (pfpre_any s F w h)
  clear h
  go_enter Tryz.func141, Tryz.ntmps141
  go_wp2_with (first
    | (go_at_call 164; (with_reducible refine H.out.mono ?_); rintro e w1 ⟨⟨v1, rfl, hv1⟩, hb1⟩; have HV1 := Lib.hid hv1; have HB1 := Lib.hid hb1; clear hv1 hb1)
    | fail)
  go_ret2
  exact ⟨⟨_, rfl, HV1.out⟩, HB1.out⟩
set_option maxRecDepth 100000 in
theorem range_any (a s : ByteArray) (hs : s.size ≤ 1000) (tv : TypeId) (yv : Value) (w : World) (he : w.cell? ⟨2, 0, none⟩ = some (.iface tv yv)) :
    Calls Tryz.prog 131 #[.string a, .string s] w fun r w' => (∃ q, r = .returned (.pointer (some q))) ∧ Below w.heap.size w w' := by
  have hl := World.block_lt_of_cell? w _ he
  have HC := Lib.hid (fun W => Tryz.stringslite_Clone s W (by omega))
  go_enter Tryz.func131, Tryz.ntmps131
  go_upto_region 1 with fail
  go_region_held3 (fun w' => w'.cell? ⟨2, 0, none⟩ = some (.iface tv yv))
    (first | go_keep | exact (hb1.cell (p := ⟨_, _, none⟩) hl).trans he)
    ((go_at_call 152; refine (HC.out _).mono ?_; rintro e w1 ⟨rfl, hb1⟩))
  have HB := Lib.hid (show Below w.heap.size w w1 from ⟨hb1.os, hb1.tape, hb1.output, hb1.size, hb1.block⟩)
  clear hb1 HC
  go_wp2_with fail
  go_ret
  exact ⟨⟨_, rfl⟩, HB.out.alloc HB.out.size _⟩
set_option maxRecDepth 100000 in
theorem toErr_any (a s : ByteArray) (hs : s.size ≤ 1000) (x y : Int) (tv : TypeId) (yv : Value) (w : World) (he : w.cell? ⟨2, 0, none⟩ = some (.iface tv yv)) :
    Calls Tryz.prog 107 #[.string a, .string s, .int .i64 x, .int .i64 y, .iface 153 (.int .i64 1)] w fun r w' => (∃ v, r = .returned v) ∧ Below w.heap.size w w' := by
  have HR := Lib.hid (range_any a s hs tv yv w he)
  clear he
  have hcm : (Tryz.prog.info? 153).map (·.comparable) = some true := by kernel_rfl
  have q12 : (binOp .eql 64 (.iface 153 (.int .i64 1)) (.iface 153 (.int .i64 2))).run Tryz.prog w = .ok (.bool false) w := Lib.run_eql_iface_int w 1 2 Tryz.underlying64 hcm Tryz.underlying153
  have q11 : (binOp .eql 64 (.iface 153 (.int .i64 1)) (.iface 153 (.int .i64 1))).run Tryz.prog w = .ok (.bool true) w := Lib.run_eql_iface_int w 1 1 Tryz.underlying64 hcm Tryz.underlying153
  clear hcm
  go_enter Tryz.func107, Tryz.ntmps107
  go_wp2_with (first
    | (go_at_call 131; (with_reducible refine HR.out.mono ?_); rintro e w1 ⟨⟨q1, rfl⟩, hb1⟩; have HB1 := Lib.hid hb1; clear hb1)
    | fail)
  go_ret
  exact ⟨⟨_, rfl⟩, HB1.out⟩
set_option maxRecDepth 100000 in
/-- strconv.ParseFloat of a text that atof64 reads. -/
theorem pf_any (s : ByteArray) (F : Nat) (hs : s.size ≤ 1000) (tv : TypeId) (yv : Value) (w : World) (h : AtP s F w) (hl : 2 < w.heap.size) (he : w.cell? ⟨2, 0, none⟩ = some (.iface tv yv)) :
    Calls Tryz.prog 115 #[.string s, .int .i64 64] w fun r w' => (∃ v, r = .returned (.tuple #[.float .f64 F, v])) ∧ Below w.heap.size w w' := by
  have H := Lib.hid (ipf_any s F w h)
  have HE := Lib.hid (fun W (hb : Below w.heap.size w W) => toErr_any ⟨#[80, 97, 114, 115, 101, 70, 108, 111, 97, 116]⟩ s hs 0 64 tv yv W ((hb.cell (p := ⟨_, _, none⟩) hl).trans he))
  clear h he
  go_enter Tryz.func115, Tryz.ntmps115
  go_upto_region 2 with (first
    | (go_at_call 141; (with_reducible refine H.out.mono ?_); rintro e w1 ⟨⟨v1, rfl, hv1⟩, hb1⟩; have HV1 := Lib.hid hv1; have HB1 := Lib.hid hb1; clear hv1 hb1)
    | fail)
  rcases HV1.out with hv | hv
  all_goals
    subst hv
    go_wp2_with (first
      | (go_at_call 107; (with_reducible refine (HE.out _ HB1.out).mono ?_); rintro e w2 ⟨⟨q1, rfl⟩, hb2⟩; have HB2 := Lib.hid (HB1.out.trans (hb2.mono HB1.out.size)); clear hb2)
      | fail)
    go_ret2
    first
      | exact ⟨⟨_, rfl⟩, HB2.out⟩
      | exact ⟨⟨_, rfl⟩, HB1.out⟩
end
section
open Go Go.ChangeShapes Go.WideShapes Go.RowKit
set_option linter.unusedVariables false
set_option linter.unusedSimpArgs false
/-- atof64 of a numeral: a float, no NaN, not below 0, always the same. -/
theorem atof_any {hiT loT T : Nat → Nat} (hf : TBF hiT loT T) (s : ByteArray) (a p q : Nat) (h : Nml s a p q) : ∃ F, F ≤ fIN ∧ ∀ w, TBL hiT loT T w w.heap.size → AtP s F w := by
  have hR : RDs s (qfN s p).m (expZ s p q) (qfN s p).tr := ⟨special_any s a p q h, rdf_any s a p q h, m_lt h⟩
  obtain ⟨m, hm⟩ : ∃ m, (qfN s p).m = m := ⟨_, rfl⟩
  obtain ⟨E, hE⟩ : ∃ E, expZ s p q = E := ⟨_, rfl⟩
  obtain ⟨tr, htr⟩ : ∃ tr, (qfN s p).tr = tr := ⟨_, rfl⟩
  rw [hm, hE, htr] at hR
  have hI : 0 ≤ fIN := Nat.zero_le _
  have hml := hR.m
  by_cases h0 : m = 0
  · subst h0
    exact ⟨0, hI, fun w hT => at_zero s E tr w hR hT.o⟩
  by_cases h1 : 310 < E
  · exact ⟨fIN, Nat.le_refl _, fun w hT => at_over s m E tr w hR hT.o h0 h1⟩
  by_cases h2 : E < -345
  · exact ⟨0, hI, fun w hT => at_under s m E tr w hR hT.o h0 h2⟩
  have hin : -345 ≤ E ∧ E ≤ 310 := ⟨by omega, by omega⟩
  obtain ⟨i, hi⟩ : ∃ i : Nat, (i : Int) - 348 = E := ⟨(E + 348).toNat, by omega⟩
  have hil : i < 696 := by omega
  have hP : ∀ n : Nat, n ≠ 0 → n < 18446744073709551616 → ∃ y, y ≤ fIN ∧ ∀ w, PTZ hiT loT w w.heap.size → Calls Tryz.prog 235 #[.int .u64 (n : Int), .int .i64 E, .int .u64 0] w fun r w' => (∃ v, r = .returned (.tuple #[.float .f64 y, v]) ∧ ErrV v) ∧ Below w.heap.size w w' := by
    intro n hn hnl
    refine ⟨pfF (hiT i) (loT i) n E, pfF_le _ _ n E hn hnl (hf.h i) ⟨by omega, by omega⟩, fun w hT => ?_⟩
    have := pf64_any hiT loT n i hf.h hf.l hn hnl hil w hT
    rw [hi] at this
    exact this
  obtain ⟨y, hy, hyP⟩ := hP m h0 (by omega)
  cases tr with
  | false =>
    obtain ⟨x, ok, hx1, hx2⟩ := exact_any T hf.t m E ⟨by omega, by omega⟩
    cases ok with
    | true => exact ⟨x, hx1 rfl, fun w hT => at_exact s m E x w hR hT.o h0 hin (hx2 w hT.t hT.f)⟩
    | false => exact ⟨y, hy, fun w hT => at_pf s m E x y w hR hT.o h0 hin (hx2 w hT.t hT.f) (hyP w hT.p)⟩
  | true =>
    obtain ⟨y1, hy1, hyP1⟩ := hP (m + 1) (by omega) (by omega)
    have hP1 : ∀ w, TBL hiT loT T w w.heap.size → ∀ W, Below w.heap.size w W → Calls Tryz.prog 235 #[.int .u64 ((m + 1 : Nat) : Int), .int .i64 E, .int .u64 0] W fun r w' => (∃ v, r = .returned (.tuple #[.float .f64 y1, v]) ∧ ErrV v) ∧ Below W.heap.size W w' :=
      fun w hT W hb => hyP1 W ((hT.p.keep hb).up hb.size)
    by_cases hq : (FloatKind.f64.format.order y y1 == some .eq) = true
    · exact ⟨y, hy, fun w hT => at_eq s m (m + 1) E y y1 w hR hT.o h0 hin (hyP w hT.p) (hP1 w hT) rfl hq⟩
    · refine ⟨(fba (sfZ s a p q) false).1, fba_le _, fun w hT => ?_⟩
      exact at_slow s a p q _ (fba (sfZ s a p q) false).2 rfl h hiT loT T m (m + 1) E y y1 w hR hT.o hT h0 hin (hyP w hT.p) (hP1 w hT) rfl (by simpa using hq)
end
section
open Go Go.ChangeShapes Go.WideShapes Go.RowKit Go.PlainAid
set_option linter.unusedVariables false
set_option linter.unusedSimpArgs false
theorem sz_list (t : ByteArray) : t.size = t.data.toList.length := by rw [Array.length_toList]; rfl
theorem bt_at (t : ByteArray) {i : Nat} (h : i < t.size) : bt t i = ((t.data.toList[i]'(by rw [← sz_list]; exact h)).toNat : Int) := by
  unfold bt
  rw [dif_pos h]
  rfl
theorem nn_le {F : Nat} (h : F ≤ fIN) : nanB F = false ∧ F < 18446744073709551616 ∧ flipB F = F + fSG ∧ nanB (F + fSG) = false ∧ F + fSG < 18446744073709551616 := by
  have e1 : fSG = 9223372036854775808 := rfl
  have e2 : fIN = 9218868437227405312 := rfl
  refine ⟨?_, by omega, ?_, ?_, by omega⟩
  · unfold nanB; rw [decide_eq_false_iff_not, e1]; omega
  · unfold flipB; rw [if_pos (by omega)]
  · unfold nanB; rw [decide_eq_false_iff_not, e1]; omega
/-- The tables, and strconv's error for what is out of range, in memory. -/
structure PFT (hiT loT T : Nat → Nat) (tv : TypeId) (yv : Value) (w : World) (b : Nat) : Prop where
  t : TBL hiT loT T w b
  e : w.cell? ⟨2, 0, none⟩ = some (.iface tv yv)
  el : 2 < b
theorem PFT.keep {hiT loT T : Nat → Nat} {tv : TypeId} {yv : Value} {w w' : World} {b : Nat} (h : PFT hiT loT T tv yv w b) (hb : Below b w w') : PFT hiT loT T tv yv w' b :=
  ⟨h.t.keep hb, (hb.cell (p := ⟨_, _, none⟩) h.el).trans h.e, h.el⟩
theorem PFT.up {hiT loT T : Nat → Nat} {tv : TypeId} {yv : Value} {w : World} {b b' : Nat} (h : PFT hiT loT T tv yv w b) (hb : b ≤ b') : PFT hiT loT T tv yv w b' :=
  ⟨h.t.up hb, h.e, Nat.lt_of_lt_of_le h.el hb⟩
/-- ParseFloat of a numeral. -/
theorem pfl_any {hiT loT T : Nat → Nat} (hf : TBF hiT loT T) (tv : TypeId) (yv : Value) (s : ByteArray) (a p q : Nat) (h : Nml s a p q) : ∃ F, F ≤ fIN ∧ ∀ w, PFT hiT loT T tv yv w w.heap.size →
    Calls Tryz.prog 115 #[.string s, .int .i64 64] w fun r w' => (∃ v, r = .returned (.tuple #[.float .f64 F, v])) ∧ Below w.heap.size w w' := by
  obtain ⟨F, h1, h2⟩ := atof_any hf s a p q h
  exact ⟨F, h1, fun w hw => pf_any s F h.sz tv yv w (h2 w hw.t) hw.el hw.e⟩
end
section
open Go Go.ChangeShapes Go.WideShapes Go.RowKit Go.PlainAid
set_option linter.unusedVariables false
set_option linter.unusedSimpArgs false
/-- A minus sign and a numeral: places as in Nml. -/
structure Nm1 (s : ByteArray) (a p q : Nat) : Prop where
  sg : bt s 0 = 45
  a1 : 2 ≤ a
  ap : a ≤ p
  pz : p ≤ s.size
  sz : s.size ≤ 1000
  d1 : ∀ i, 1 ≤ i → i < a → 48 ≤ bt s i ∧ bt s i ≤ 57
  pt : a < p → bt s a = 46 ∧ a + 1 < p
  d2 : ∀ i, a < i → i < p → 48 ≤ bt s i ∧ bt s i ≤ 57
  ex : p < s.size → bt s p = 101 ∧ q < s.size ∧ ((q = p + 1 ∧ bt s (p + 1) ≠ 43 ∧ bt s (p + 1) ≠ 45) ∨ (q = p + 2 ∧ (bt s (p + 1) = 43 ∨ bt s (p + 1) = 45)))
  d3 : ∀ i, p < s.size → q ≤ i → i < s.size → 48 ≤ bt s i ∧ bt s i ≤ 57
/-- The sign changes nothing. -/
def qfT (c : Int) (x : QF) : QF := if c = 45 then x else qfS c x
def qfM (s : ByteArray) : Nat → QF
  | 0 => ⟨0, 0, 0, 0, false, false⟩
  | i + 1 => qfT (bt s i) (qfM s i)
theorem qfT_ne {c : Int} (x : QF) (h : c ≠ 45) : qfT c x = qfS c x := by unfold qfT; rw [if_neg h]
theorem qfM_one {s : ByteArray} {a p q : Nat} (h : Nm1 s a p q) : qfM s 1 = ⟨0, 0, 0, 0, false, false⟩ := by
  show qfT (bt s 0) ⟨0, 0, 0, 0, false, false⟩ = _
  unfold qfT; rw [if_pos h.sg]
theorem Nm1.byte {s : ByteArray} {a p q : Nat} (h : Nm1 s a p q) {i : Nat} (h1 : 1 ≤ i) (hi : i < p) : bt s i = 46 ∨ (48 ≤ bt s i ∧ bt s i ≤ 57) := by
  by_cases h2 : i < a
  · exact .inr (h.d1 i h1 h2)
  · by_cases h3 : i = a
    · subst h3; exact .inl (h.pt hi).1
    · exact .inr (h.d2 i (by omega) hi)
theorem qm_step {s : ByteArray} {a p q : Nat} (h : Nm1 s a p q) {i : Nat} (h1 : 1 ≤ i) (hi : i < p) : qfM s (i + 1) = qfS (bt s i) (qfM s i) :=
  qfT_ne _ (by rcases h.byte h1 hi with h2 | h2 <;> omega)
theorem qm_ok {s : ByteArray} {a p q : Nat} (h : Nm1 s a p q) : ∀ i, i ≤ p → QOk (qfM s i) i := by
  intro i
  induction i with
  | zero => intro _; exact QOk.start s
  | succ i ih =>
    intro hi
    by_cases h0 : i = 0
    · subst h0
      rw [show (0 : Nat) + 1 = 1 by rfl, qfM_one h]
      exact ⟨(show 0 ≤ 1 by decide), (show 0 ≤ 19 by decide), Nat.le_refl _, (show 0 < 10 ^ 0 by decide), (show -((1 : Nat) : Int) ≤ 0 ∧ (0 : Int) ≤ ((1 : Nat) : Int) by decide)⟩
    · rw [qm_step h (by omega) (by omega)]
      exact (ih (by omega)).step (h.byte (by omega) (by omega))
theorem qm_dot {s : ByteArray} {a p q : Nat} (h : Nm1 s a p q) : ∀ i, 1 ≤ i → i ≤ p → (qfM s i).dot = decide (a < i) := by
  intro i
  induction i with
  | zero => intro h1; omega
  | succ i ih =>
    intro _ hi
    by_cases h0 : i = 0
    · subst h0
      rw [show (0 : Nat) + 1 = 1 by rfl, qfM_one h]
      exact (decide_eq_false (by have := h.a1; omega)).symm
    · have h1 : 1 ≤ i := by omega
      rw [qm_step h h1 (by omega)]
      unfold qfS
      by_cases c1 : bt s i = 46
      · rw [if_pos c1]
        have hia : i = a := by
          by_cases h1' : i < a
          · have := h.d1 i h1 h1'; omega
          · by_cases h2 : i = a
            · exact h2
            · have := h.d2 i (by omega) (by omega); omega
        simp only
        rw [eq_comm, decide_eq_true_eq]; omega
      · rw [if_neg c1]
        have hia : i ≠ a := by
          intro hc; subst hc; exact c1 (h.pt (by omega)).1
        have e2 : decide (a < i + 1) = decide (a < i) := by rw [decide_eq_decide]; omega
        rw [e2, ← ih h1 (by omega)]
        by_cases c2 : bt s i = 48 ∧ (qfM s i).nd = 0
        · rw [if_pos c2]
        · rw [if_neg c2]
          by_cases c3 : (qfM s i).nm < 19
          · rw [if_pos c3]
          · rw [if_neg c3]
def dpM (s : ByteArray) (p q : Nat) : Int := (if (qfM s p).dot = true then (qfM s p).dp else ((qfM s p).nd : Int)) + exZ s p q
def expM (s : ByteArray) (p q : Nat) : Int := if (qfM s p).m = 0 then 0 else dpM s p q - ((qfM s p).nm : Int)
set_option maxRecDepth 100000 in
theorem cpl_no (t : ByteArray) (c : Int) (h : 0 < t.size) (hb0 : ((t[0]'h).toNat : Int) = c) (hc : 48 ≤ c ∧ c ≤ 57) (w : World) :
    Calls Tryz.prog 240 #[.string t, .string ⟨#[105, 110, 102, 105, 110, 105, 116, 121]⟩] w fun e w' => e = .returned (.int .i64 0) ∧ w = w' := by
  obtain ⟨h1, h2⟩ := hc
  have h65 : ¬ (65 : Int) ≤ c := by omega
  have hp0 : (((⟨#[105, 110, 102, 105, 110, 105, 116, 121]⟩ : ByteArray)[0]'(by decide)).toNat : Int) = 105 := by rfl
  have h105 : (c == 105) = false := beq_eq_false_iff_ne.2 (by omega)
  have h106 : (c != 105) = true := bne_iff_ne.2 (by omega)
  obtain ⟨M, hM⟩ : ∃ M : Int, min 8 (t.size : Int) = M := ⟨_, rfl⟩
  have hM0 : (0 : Int) < M := by omega
  go_enter Tryz.func240, Tryz.ntmps240
  go_wp2_with fail
  go_loopw [6] (fun s6 wr => s6 = .int .i64 0 ∧ wr = w) (fun s6 wr => 0)
  case atStart => exact ⟨rfl, rfl⟩
  case round =>
    obtain ⟨rfl, rfl⟩ := hrel
    go_wp2_with fail
    go_ret
    exact ⟨rfl, rfl⟩
set_option maxRecDepth 100000 in
theorem special_m (s : ByteArray) (a p q : Nat) (h : Nm1 s a p q) (w : World) :
    Calls Tryz.prog 223 #[.string s] w fun e w' => e = .returned (.tuple #[.float .f64 0, .int .i64 0, .bool false]) ∧ w = w' := by
  have hb := get_bt s
  have h0 := h.d1 1 (by omega) (by have := h.a1; omega)
  have hz1 : 1 < s.size := by have := h.a1; have := h.ap; have := h.pz; omega
  have hz : 0 < s.size := by omega
  have hzI : ¬ ((s.size : Nat) : Int) = 0 := by omega
  have hz2 : (s.size == 0) = false := beq_eq_false_iff_ne.2 (by omega)
  have hb0 : ((s[0]'hz).toNat : Int) = 45 := by rw [hb 0 hz]; exact h.sg
  have hzJ : (1 : Int) ≤ ((s.size : Nat) : Int) := by omega
  obtain ⟨t, ht⟩ : ∃ t, s.extract 1 s.size = t := ⟨_, rfl⟩
  have hts : t.size = s.size - 1 := by rw [← ht]; simp
  have hbt : ∀ (hh : 0 < t.size), ((t[0]'hh).toNat : Int) = bt s 1 := by
    intro hh
    have e : t[0]'hh = s[1]'hz1 := by subst ht; simp [ByteArray.getElem_extract]
    rw [e]; exact hb 1 hz1
  have HP := Lib.hid (fun W => cpl_no t (bt s 1) (by omega) (hbt _) h0 W)
  clear hbt h0 hb h hts
  go_enter Tryz.func223, Tryz.ntmps223
  go_wp2_with (first
    | (go_at_call 240; (with_reducible refine (HP.out _).mono ?_); rintro e w9 ⟨rfl, rfl⟩)
    | fail)
  go_ret3
  exact ⟨rfl, rfl⟩
end
section
open Go Go.ChangeShapes Go.WideShapes Go.RowKit Go.PlainAid
set_option linter.unusedVariables false
set_option linter.unusedSimpArgs false
def sfT (c : Int) (x : DS) : DS := if c = 45 then x else sfS c x
def sfM (s : ByteArray) : Nat → DS
  | 0 => ⟨0, 0, 0, false⟩
  | i + 1 => sfT (bt s i) (sfM s i)
theorem sfM_one {s : ByteArray} {a p q : Nat} (h : Nm1 s a p q) : sfM s 1 = ⟨0, 0, 0, false⟩ := by
  show sfT (bt s 0) ⟨0, 0, 0, false⟩ = _
  unfold sfT; rw [if_pos h.sg]
theorem sm_step {s : ByteArray} {a p q : Nat} (h : Nm1 s a p q) {i : Nat} (h1 : 1 ≤ i) (hi : i < p) : sfM s (i + 1) = sfS (bt s i) (sfM s i) := by
  show sfT (bt s i) (sfM s i) = _
  unfold sfT; rw [if_neg (by rcases h.byte h1 hi with h2 | h2 <;> omega)]
theorem sm_ok {s : ByteArray} {a p q : Nat} (h : Nm1 s a p q) : ∀ i, i ≤ p → SOk (sfM s i) i := by
  intro i
  induction i with
  | zero => intro _; exact SOk.start s
  | succ i ih =>
    intro hi
    by_cases h0 : i = 0
    · subst h0
      rw [show (0 : Nat) + 1 = 1 by rfl, sfM_one h]
      exact ⟨(show 0 ≤ 800 by decide), (show 0 ≤ 1 by decide), (show 0 < 10 ^ 0 by decide), fun h => absurd h (show ¬ 1 ≤ 0 by decide), (show -((1 : Nat) : Int) ≤ 0 ∧ (0 : Int) ≤ ((1 : Nat) : Int) by decide)⟩
    · rw [sm_step h (by omega) (by omega)]
      exact (ih (by omega)).step (h.byte (by omega) (by omega))
/-- The decimal of a numeral. -/
def smZ (s : ByteArray) (a p q : Nat) : DS := { sfM s p with dp := (if a < p then (sfM s p).dp else ((sfM s p).n : Int)) + exZ s p q }
theorem smZ_nrm {s : ByteArray} {a p q : Nat} (h : Nm1 s a p q) : (smZ s a p q).n = 0 ∨ Nrm (smZ s a p q) := by
  have hk := sm_ok h p (Nat.le_refl _)
  by_cases h0 : (sfM s p).n = 0
  · exact .inl h0
  · exact .inr ⟨(show 1 ≤ (sfM s p).n by omega), hk.n8, hk.hi, hk.lo (by omega)⟩
end
section
open Go Go.ChangeShapes Go.WideShapes Go.RowKit Go.PlainAid
set_option linter.unusedVariables false
set_option linter.unusedSimpArgs false
theorem Nm1.low {s : ByteArray} {a p q : Nat} (h : Nm1 s a p q) {i : Nat} (hi1 : 1 ≤ i) (hi : i ≤ p) (hz : i < s.size) : bt s i = 46 ∨ bt s i = 101 ∨ (48 ≤ bt s i ∧ bt s i ≤ 57) := by
  by_cases h1 : i = p
  · subst h1; exact .inr (.inl (h.ex hz).1)
  · rcases h.byte (i := i) hi1 (by omega) with h2 | h2
    · exact .inl h2
    · exact .inr (.inr h2)
set_option maxRecDepth 100000 in
set_option maxHeartbeats 4000000 in
theorem read_m (s : ByteArray) (a p q : Nat) (h : Nm1 s a p q) (w : World) :
    Calls Tryz.prog 224 #[.string s] w fun e w' => e = .returned (.tuple #[.int .u64 (((qfM s p).m : Nat) : Int), .int .i64 (expM s p q), .bool true, .bool (qfM s p).tr, .bool false, .int .i64 ((s.size : Nat) : Int), .bool true]) ∧ w = w' := by
  obtain ⟨EZ, hEZ⟩ : ∃ EZ, expM s p q = EZ := ⟨_, rfl⟩
  rw [hEZ]
  have HEZ0 := Lib.hid hEZ
  clear hEZ
  have hb := get_bt s
  have HN := Lib.hid h
  have hsz := h.sz
  have hpz := h.pz
  have hap := h.ap
  have ha1 := h.a1
  have hszI : ((s.size : Nat) : Int) ≤ 1000 := by omega
  have h0 := h.d1 1 (by omega) (by omega)
  have hz0 : 0 < s.size := by omega
  have hz : 1 < s.size := by omega
  have hzN : ¬ s.size = 0 := by omega
  have hzB : (s.size == 0) = false := beq_eq_false_iff_ne.2 hzN
  obtain ⟨c0, hc0⟩ : ∃ c0, bt s 1 = c0 := ⟨_, rfl⟩
  rw [hc0] at h0
  have hbm : ((s[0]'hz0).toNat : Int) = 45 := by rw [hb 0 hz0]; exact h.sg
  have hbz : ((s[1]'hz).toNat : Int) = c0 := by rw [hb 1 hz]; exact hc0
  have HQ1 := Lib.hid (qfM_one h)
  have HB := Lib.hid hb
  have HC0 := Lib.hid hc0
  clear h hb hc0
  go_enter Tryz.func224, Tryz.ntmps224
  go_wp2_with fail
  go_step3
  go_upto_region 12 with fail
  clear hbm
  go_cut [54] from 25 to 54 (fun b wx => b = .bool false ∧ w = wx)
  case first =>
    by_cases h2 : 3 < s.size
    · have h2I : (3 : Int) < ((s.size : Nat) : Int) := by omega
      by_cases h48 : c0 = 48
      · have hl := HN.out.low (i := 2) (by omega) (by omega) (by omega)
        obtain ⟨c1, hc1⟩ : ∃ c1, bt s 2 = c1 := ⟨_, rfl⟩
        have hb1 : ((s[2]'(by omega)).toNat : Int) = c1 := by rw [HB.out 2 (by omega)]; exact hc1
        rw [hc1] at hl
        have HL := Lib.hid (lower_any c1 hl)
        have n1 : (c1 == 120) = false := beq_eq_false_iff_ne.2 (by omega)
        clear hl hc1
        go_wp2_with (first
          | (go_at_call 128; (with_reducible refine (HL.out _).mono ?_); rintro e w9 ⟨rfl, rfl⟩)
          | fail)
        go_meet
        exact ⟨rfl, rfl⟩
      · go_wp2_with fail
        go_meet
        exact ⟨rfl, rfl⟩
    · have h2I : ¬ (3 : Int) < ((s.size : Nat) : Int) := by omega
      go_wp2_with fail
      go_meet
      exact ⟨rfl, rfl⟩
  case rest =>
    obtain ⟨rfl, rfl⟩ := hcut
    clear hbz
    go_wp2_with fail
    go_step3
    go_upto_block 1 with fail
    go_cut [2, 5, 7, 9, 13, 14, 15, 16, 17, 18] from 57 to 138 (fun s2 s5 s7 s9 s13 s14 s15 s16 s17 s18 wx => s2 = .int .u64 (((qfM s p).m : Nat) : Int) ∧ s5 = .bool (qfM s p).tr ∧ s7 = .int .i64 (p : Int) ∧ s9 = .bool false ∧ s13 = .bool (qfM s p).dot ∧ s14 = .bool true ∧ s15 = .int .i64 (((qfM s p).nd : Nat) : Int) ∧ s16 = .int .i64 (((qfM s p).nm : Nat) : Int) ∧ s17 = .int .i64 (qfM s p).dp ∧ w = wx)
    case first =>
      go_wp2_with fail
      go_loopw [2, 5, 7, 9, 13, 14, 15, 16, 17] (fun s2 s5 s7 s9 s13 s14 s15 s16 s17 wr => ∃ i : Nat, s2 = .int .u64 (((qfM s i).m : Nat) : Int) ∧ s5 = .bool (qfM s i).tr ∧ s7 = .int .i64 (i : Int) ∧ s9 = .bool false ∧ s13 = .bool (qfM s i).dot ∧ s14 = .bool (decide (1 < i)) ∧ s15 = .int .i64 (((qfM s i).nd : Nat) : Int) ∧ s16 = .int .i64 (((qfM s i).nm : Nat) : Int) ∧ s17 = .int .i64 (qfM s i).dp ∧ (1 ≤ i ∧ i ≤ p) ∧ w = wr) (fun s2 s5 s7 s9 s13 s14 s15 s16 s17 wr => (1000 - RowKit.intOf s7).toNat)
      case atStart => exact ⟨1, by rw [HQ1.out]; rfl, by rw [HQ1.out], rfl, rfl, by rw [HQ1.out], rfl, by rw [HQ1.out]; rfl, by rw [HQ1.out]; rfl, by rw [HQ1.out], ⟨by omega, by omega⟩, rfl⟩
      case round =>
        obtain ⟨i, rfl, rfl, rfl, rfl, rfl, rfl, rfl, rfl, rfl, hip, rfl⟩ := hrel
        have hq := qm_ok HN.out i hip.2
        have hdot := qm_dot HN.out i hip.1 hip.2
        by_cases hlt : i < p
        · obtain ⟨hi1, hip2⟩ := hip
          have hby := HN.out.byte hi1 hlt
          have hst : qfM s (i + 1) = qfS (bt s i) (qfM s i) := qm_step HN.out hi1 hlt
          obtain ⟨x, hx⟩ : ∃ x, qfM s i = x := ⟨_, rfl⟩
          obtain ⟨c, hc⟩ : ∃ c, bt s i = c := ⟨_, rfl⟩
          have hbi : ((s[i]'(by omega)).toNat : Int) = c := by rw [HB.out i (by omega)]; exact hc
          rw [hx] at hq hdot hst ⊢
          rw [hc] at hby hst
          obtain ⟨m, nd, nm, dp, dot, tr⟩ := x
          obtain ⟨q1, q2, q3, q4, q5⟩ := hq
          simp only at q1 q2 q3 q4 q5 hdot ⊢
          obtain ⟨q5, q6⟩ := q5
          have hizI : (i : Int) < ((s.size : Nat) : Int) := by omega
          have hiz : i < s.size := by omega
          have HST := Lib.hid hst
          have HX := Lib.hid hx
          have HCC := Lib.hid hc
          have hmc : 46 ≤ c ∧ c ≤ 57 := by omega
          obtain ⟨hm1, hm2⟩ := hmc
          have z1 : (c == 95) = false := beq_eq_false_iff_ne.2 (by omega)
          clear hst hx hc
          by_cases c46 : c = 46
          · have hdf : dot = false := by
              rw [hdot]
              have hcc := HCC.out
              by_cases h1 : i < a
              · have := HN.out.d1 i hi1 h1; omega
              · by_cases h2 : i = a
                · exact decide_eq_false (by omega)
                · have := HN.out.d2 i (by omega) hlt; omega
            have hia : 1 < i := by
              by_cases h1 : i < a
              · have := HN.out.d1 i hi1 h1; have := HCC.out; omega
              · omega
            have hiaB : decide (1 < i) = true := decide_eq_true hia
            have hE := Lib.hid (show qfM s (i + 1) = ⟨m, nd, nm, (nd : Int), true, tr⟩ by rw [HST.out]; unfold qfS; rw [if_pos c46])
            subst hdf
            subst c46
            clear hdot hby q4
            go_wp2_with fail
            exact ⟨⟨i + 1, by rw [hE.out], by rw [hE.out], by congr 1, rfl, by rw [hE.out], by rw [hiaB, show decide (1 < i + 1) = true from decide_eq_true (by omega)], by rw [hE.out], by rw [hE.out], by rw [hE.out], by omega, trivial⟩, by simp only [RowKit.intOf]; omega⟩
          · obtain ⟨d, hd⟩ : ∃ d : Nat, c = 48 + (d : Int) := ⟨(c - 48).toNat, by omega⟩
            have hd9 : d ≤ 9 := by omega
            have h46 : (c == 46) = false := beq_eq_false_iff_ne.2 c46
            have h48 : (48 : Int) ≤ c := by omega
            by_cases c48 : c = 48 ∧ nd = 0
            · obtain ⟨c48a, c48b⟩ := c48
              have hE := Lib.hid (show qfM s (i + 1) = ⟨m, nd, nm, dp - 1, dot, tr⟩ by rw [HST.out]; unfold qfS; rw [if_neg c46, if_pos ⟨c48a, c48b⟩])
              have H1 := Lib.hid (show IntKind.i64.wrap (dp - 1) = dp - 1 from IntWalk.i64_in _ (by omega))
              subst c48a
              subst c48b
              clear hdot hby q4 c46 hd h46
              go_upto_region 35 with fail
              have h1 := H1.out
              go_wp2_with fail
              exact ⟨⟨i + 1, by rw [hE.out], by rw [hE.out], by congr 1, rfl, by rw [hE.out], by rw [show decide (1 < i + 1) = true from decide_eq_true (by omega)], by rw [hE.out] <;> rfl, by rw [hE.out], by rw [hE.out], by omega, trivial⟩, by simp only [RowKit.intOf]; omega⟩
            · have hndc : (c ≠ 48) ∨ (c = 48 ∧ nd ≠ 0) := by omega
              by_cases c19 : nm < 19
              · have hE := Lib.hid (show qfM s (i + 1) = ⟨m * 10 + d, nd + 1, nm + 1, dp, dot, tr⟩ by rw [HST.out]; unfold qfS; rw [if_neg c46, if_neg c48, if_pos c19, show (c - 48).toNat = d by omega])
                have hmb : m < 1000000000000000000 := Nat.lt_of_lt_of_le q4 (Nat.le_trans (Nat.pow_le_pow_right (by decide) (show nm ≤ 18 by omega)) (by decide))
                obtain ⟨m10, hm10⟩ : ∃ m10, m * 10 = m10 := ⟨_, rfl⟩
                have H1 := Lib.hid (show IntKind.u64.wrap ((m : Int) * 10) = (m10 : Int) by rw [IntWalk.u64_in _ (by omega)]; omega)
                have H2 := Lib.hid (show IntKind.u8.wrap (c - 48) = (d : Int) by rw [IntWalk.u8_in _ (by omega)]; omega)
                have H3 := Lib.hid (show IntKind.u64.wrap ((m10 : Int) + (d : Int)) = ((m * 10 + d : Nat) : Int) by rw [IntWalk.u64_in _ (by omega)]; omega)
                have H3b := Lib.hid (show c = 48 → IntKind.u64.wrap (m10 : Int) = ((m * 10 + d : Nat) : Int) by intro hc; rw [IntWalk.u64_in _ (by omega)]; omega)
                have hd9I : (d : Int) ≤ 9 := by omega
                have c19I : (nm : Int) < 19 := by omega
                have hndI : (nd : Int) ≤ 1000 := by omega
                clear hdot hby q4 c46 hd c48 c19 hm10 hmb
                rcases hndc with h48n | ⟨h48n, hnd0⟩
                · have z2 : (c == 48) = false := beq_eq_false_iff_ne.2 h48n
                  go_upto_region 38 with fail
                  have h1 := H1.out
                  have h2 := H2.out
                  have h3 := H3.out
                  go_wp2_with fail
                  exact ⟨⟨i + 1, by rw [hE.out] <;> simp, by rw [hE.out], by congr 1, rfl, by rw [hE.out], by rw [show decide (1 < i + 1) = true from decide_eq_true (by omega)], by rw [hE.out] <;> rfl, by rw [hE.out] <;> rfl, by rw [hE.out], by omega, trivial⟩, by simp only [RowKit.intOf]; omega⟩
                · have z2 : ((nd : Int) == 0) = false := by simp; omega
                  subst h48n
                  go_upto_region 38 with fail
                  have h1 := H1.out
                  have h2 := H2.out
                  have h3 := H3b.out rfl
                  go_wp2_with fail
                  exact ⟨⟨i + 1, by rw [hE.out] <;> simp, by rw [hE.out], by congr 1, rfl, by rw [hE.out], by rw [show decide (1 < i + 1) = true from decide_eq_true (by omega)], by rw [hE.out] <;> rfl, by rw [hE.out] <;> rfl, by rw [hE.out], by omega, trivial⟩, by simp only [RowKit.intOf]; omega⟩
              · have hE := Lib.hid (show qfM s (i + 1) = ⟨m, nd + 1, nm, dp, dot, tr || decide (c ≠ 48)⟩ by rw [HST.out]; unfold qfS; rw [if_neg c46, if_neg c48, if_neg c19])
                have c19I : ¬ (nm : Int) < 19 := by omega
                have hndI : (nd : Int) ≤ 1000 := by omega
                clear hdot hby q4 c46 hd c48 c19
                rcases hndc with h48n | ⟨h48n, hnd0⟩
                · have z2 : (c == 48) = false := beq_eq_false_iff_ne.2 h48n
                  have HT := Lib.hid (show (tr || decide (c ≠ 48)) = true by rw [decide_eq_true h48n, Bool.or_true])
                  go_wp2_with fail
                  exact ⟨⟨i + 1, by rw [hE.out], by rw [hE.out, HT.out], by congr 1, rfl, by rw [hE.out], by rw [show decide (1 < i + 1) = true from decide_eq_true (by omega)], by rw [hE.out] <;> rfl, by rw [hE.out], by rw [hE.out], by omega, trivial⟩, by simp only [RowKit.intOf]; omega⟩
                · have z2 : ((nd : Int) == 0) = false := by simp; omega
                  have HT := Lib.hid (show (tr || decide (c ≠ 48)) = tr by rw [h48n]; simp)
                  subst h48n
                  go_wp2_with fail
                  exact ⟨⟨i + 1, by rw [hE.out], by rw [hE.out, HT.out], by congr 1, rfl, by rw [hE.out], by rw [show decide (1 < i + 1) = true from decide_eq_true (by omega)], by rw [hE.out] <;> rfl, by rw [hE.out], by rw [hE.out], by omega, trivial⟩, by simp only [RowKit.intOf]; omega⟩
        · obtain rfl : i = p := by omega
          have hi0 : decide (1 < i) = true := decide_eq_true (by omega)
          rw [hi0]
          obtain ⟨x, hx⟩ : ∃ x, qfM s i = x := ⟨_, rfl⟩
          rw [hx]
          have HX := Lib.hid hx
          clear hq hdot hlt hi0 hx
          by_cases hz : i < s.size
          · have h101 := (HN.out.ex hz).1
            have hizI : (i : Int) < ((s.size : Nat) : Int) := by omega
            have hbi : ((s[i]'hz).toNat : Int) = 101 := by rw [HB.out i hz]; exact h101
            clear h101
            go_wp2_with fail
            go_meet
            exact ⟨by rw [HX.out], by rw [HX.out], rfl, rfl, by rw [HX.out], rfl, by rw [HX.out], by rw [HX.out], by rw [HX.out], rfl⟩
          · have hizI : ¬ (i : Int) < ((s.size : Nat) : Int) := by omega
            go_wp2_with fail
            go_meet
            exact ⟨by rw [HX.out], by rw [HX.out], rfl, rfl, by rw [HX.out], rfl, by rw [HX.out], by rw [HX.out], by rw [HX.out], rfl⟩
    case rest =>
      obtain ⟨rfl, rfl, rfl, rfl, rfl, rfl, rfl, rfl, rfl, rfl⟩ := hcut
      have hq := qm_ok HN.out p (Nat.le_refl _)
      obtain ⟨x, hx⟩ : ∃ x, qfM s p = x := ⟨_, rfl⟩
      have HEZ := Lib.hid (show expM s p q = if x.m = 0 then 0 else ((if x.dot = true then x.dp else ((x.nd : Nat) : Int)) + exZ s p q - ((x.nm : Nat) : Int)) by unfold expM dpM; rw [hx])
      have HX := Lib.hid hx
      rw [hx] at hq ⊢
      rw [HEZ0.out] at HEZ
      obtain ⟨m, nd, nm, dp, dot, tr⟩ := x
      obtain ⟨q1, q2, q3, q4, q5, q6⟩ := hq
      simp only at q1 q2 q3 q4 q5 q6 HEZ ⊢
      obtain ⟨D, hD⟩ : ∃ D : Int, (if dot = true then dp else ((nd : Nat) : Int)) = D := ⟨_, rfl⟩
      rw [hD] at HEZ
      have hDb : -1000 ≤ D ∧ D ≤ 1000 := by rw [← hD]; split <;> omega
      obtain ⟨hD1, hD2⟩ := hDb
      have HDD := Lib.hid hD
      have hnmI : (nm : Int) ≤ 19 := by omega
      clear hx hD q4
      go_upto_if 142 with fail
      go_cut [17] from 141 to 143 (fun s17 wx => s17 = .int .i64 D ∧ w = wx)
      case first =>
        cases dot with
        | true =>
          have hd : dp = D := by simpa using HDD.out
          subst hd
          go_wp2_with fail
          go_meet
          exact ⟨rfl, rfl⟩
        | false =>
          have hd := Lib.hid (show ((nd : Nat) : Int) = D by simpa using HDD.out)
          go_wp2_with fail
          go_meet
          exact ⟨by rw [← hd.out], rfl⟩
      case rest =>
        obtain ⟨rfl, rfl⟩ := hcut
        go_upto_region 57 with fail
        go_cut [161] from 150 to 161 (fun s161 wx => s161 = .bool (decide (p < s.size)) ∧ w = wx)
        case first =>
          by_cases hz : p < s.size
          · have e1 := (HN.out.ex hz).1
            have hizI : (p : Int) < ((s.size : Nat) : Int) := by omega
            have hbi : ((s[p]'hz).toNat : Int) = 101 := by rw [HB.out p hz]; exact e1
            have HL := Lib.hid (lower_any 101 (by omega))
            have HT := Lib.hid (decide_eq_true hz)
            clear e1
            go_wp2_with (first
              | (go_at_call 128; (with_reducible refine (HL.out _).mono ?_); rintro e w9 ⟨rfl, rfl⟩)
              | fail)
            go_meet
            exact ⟨by rw [HT.out], rfl⟩
          · have hizI : ¬ (p : Int) < ((s.size : Nat) : Int) := by omega
            have HT := Lib.hid (decide_eq_false hz)
            go_wp2_with fail
            go_meet
            exact ⟨by rw [HT.out], rfl⟩
        case rest =>
         obtain ⟨rfl, rfl⟩ := hcut
         go_upto_if 161 with fail
         go_cut [7, 9, 17, 19, 20] from 161 to 239 (fun s7 s9 s17 s19 s20 wx => s7 = .int .i64 ((s.size : Nat) : Int) ∧ s9 = .bool false ∧ s17 = .int .i64 (D + exZ s p q) ∧ w = wx)
         case first =>
          by_cases hz : p < s.size
          · have hzB2 : decide (p < s.size) = true := decide_eq_true hz
            have h101 := HN.out.ex hz
            obtain ⟨e1, e2, e3⟩ := h101
            have hizI : (p : Int) < ((s.size : Nat) : Int) := by omega
            obtain ⟨c1, hc1⟩ : ∃ c1, bt s (p + 1) = c1 := ⟨_, rfl⟩
            have hp1 : p + 1 < s.size := by omega
            have hp1I : ¬ ((s.size : Nat) : Int) ≤ (p : Int) + 1 := by omega
            have hb1 : ((s[p + 1]'hp1).toNat : Int) = c1 := by rw [HB.out (p + 1) hp1]; exact hc1
            obtain ⟨sg, hsg⟩ : ∃ sg : Int, sg = if c1 = 45 then -1 else 1 := ⟨_, rfl⟩
            have hXZ : exZ s p q = ((exN s q (s.size - q) : Nat) : Int) * sg := by
              unfold exZ; rw [if_pos hz, hc1, hsg]
              by_cases h45 : c1 = 45
              · rw [if_pos h45, if_pos h45]; omega
              · rw [if_neg h45, if_neg h45]; omega
            have hsg2 : sg = 1 ∨ sg = -1 := by rw [hsg]; split <;> omega
            rw [hc1] at e3
            have HSG := Lib.hid hsg
            have HE3 := Lib.hid e3
            have HXZ := Lib.hid hXZ
            have hqz : q < s.size := e2
            have hpq : p < q := by omega
            have hqI : (q : Int) < ((s.size : Nat) : Int) := by omega
            have hex := Lib.hid (ex_lt (s := s) (q := q) (s.size - q) (fun i hi => HN.out.d3 (q + i) hz (by omega) (by omega)))
            have HD3 := Lib.hid (fun i (h1 : q ≤ i) (h2 : i < s.size) => HN.out.d3 i hz h1 h2)
            clear hc1 e3 e1 e2 hsg hXZ
            go_upto_block 4 with fail
            clear hzB2
            go_cut [7, 19] from 161 to 178 (fun s7 s19 wx => s7 = .int .i64 (q : Int) ∧ s19 = .int .i64 sg ∧ w = wx)
            case first =>
              rcases HE3.out with ⟨hq, h43, h45⟩ | ⟨hq, h43 | h45⟩
              · have z1 : (c1 == 43) = false := beq_eq_false_iff_ne.2 h43
                have z2 : (c1 == 45) = false := beq_eq_false_iff_ne.2 h45
                have hs1 := Lib.hid (show sg = 1 by rw [HSG.out, if_neg h45])
                have hq2 := Lib.hid (show (p : Int) + 1 = (q : Int) by omega)
                clear hq h43 h45
                go_wp2_with fail
                go_meet
                exact ⟨by rw [← hq2.out], by rw [hs1.out], rfl⟩
              · have hs1 := Lib.hid (show sg = 1 by rw [HSG.out, if_neg (by omega)])
                have hq2 := Lib.hid (show (p : Int) + 1 + 1 = (q : Int) by omega)
                subst h43
                clear hq
                go_wp2_with fail
                go_meet
                exact ⟨by rw [← hq2.out], by rw [hs1.out], rfl⟩
              · have hs1 := Lib.hid (show sg = -1 by rw [HSG.out, if_pos h45])
                have hq2 := Lib.hid (show (p : Int) + 1 + 1 = (q : Int) by omega)
                subst h45
                clear hq
                go_wp2_with fail
                go_meet
                exact ⟨by rw [← hq2.out], by rw [hs1.out], rfl⟩
            case rest =>
              obtain ⟨rfl, rfl, rfl⟩ := hcut
              obtain ⟨c2, hc2⟩ : ∃ c2, bt s q = c2 := ⟨_, rfl⟩
              have hd2 := HD3.out q (Nat.le_refl _) hqz
              rw [hc2] at hd2
              have hb2 : ((s[q]'hqz).toNat : Int) = c2 := by rw [HB.out q hqz]; exact hc2
              have z1 : decide (c2 < 48) = false := decide_eq_false (by omega)
              have z2 : decide (57 < c2) = false := decide_eq_false (by omega)
              clear hc2 hd2 hb1
              go_upto_region 68 with fail
              clear z1 z2 hb2
              go_wp2_with fail
              go_loopw [7, 9, 20] (fun s7 s9 s20 wr => ∃ k : Nat, s7 = .int .i64 ((q + k : Nat) : Int) ∧ s9 = .bool false ∧ s20 = .int .i64 ((exN s q k : Nat) : Int) ∧ q + k ≤ s.size ∧ w = wr) (fun s7 s9 s20 wr => (1001 - RowKit.intOf s7).toNat)
              case atStart => exact ⟨0, by simp, rfl, rfl, by omega, rfl⟩
              case round =>
                obtain ⟨k, rfl, rfl, rfl, hk, rfl⟩ := hrel
                obtain ⟨Q, hQ⟩ : ∃ Q, q + k = Q := ⟨_, rfl⟩
                have HQ := Lib.hid hQ
                have hel := ex_lt (s := s) (q := q) k (fun i hi => HD3.out (q + i) (by omega) (by omega))
                have hst : exN s q (k + 1) = if exN s q k < 10000 then exN s q k * 10 + (bt s (q + k) - 48).toNat else exN s q k := rfl
                rw [hQ] at hk hst ⊢
                obtain ⟨e, he⟩ : ∃ e, exN s q k = e := ⟨_, rfl⟩
                rw [he] at hel hst ⊢
                by_cases hlt : Q < s.size
                · have hltI : (Q : Int) < ((s.size : Nat) : Int) := by omega
                  have hd := HD3.out Q (by omega) hlt
                  obtain ⟨c, hc⟩ : ∃ c, bt s Q = c := ⟨_, rfl⟩
                  rw [hc] at hd hst
                  have hbi : ((s[Q]'hlt).toNat : Int) = c := by rw [HB.out Q hlt]; exact hc
                  have z1 : decide (48 ≤ c) = true := decide_eq_true (by omega)
                  have z2 : decide (c ≤ 57) = true := decide_eq_true (by omega)
                  have z3 : (c == 95) = false := beq_eq_false_iff_ne.2 (by omega)
                  have HK := Lib.hid (show q + (k + 1) = Q + 1 by omega)
                  have hs0 : (0 : Int) ≤ (e : Int) := by omega
                  by_cases h4 : e < 10000
                  · have h4I : (e : Int) < 10000 := by omega
                    rw [if_pos h4] at hst
                    obtain ⟨E2, hE2⟩ : ∃ E2, e * 10 + (c - 48).toNat = E2 := ⟨_, rfl⟩
                    rw [hE2] at hst
                    have HST := Lib.hid hst
                    have H1 := Lib.hid (show IntKind.i64.wrap ((e : Int) * 10 + c - 48) = (E2 : Int) by rw [IntWalk.i64_in _ (by omega)]; omega)
                    obtain ⟨hd1, hd2⟩ := hd
                    clear hE2
                    clear hst hel hQ he hc h4
                    go_upto_region 74 with fail
                    have h1 := H1.out
                    go_wp2_with fail
                    exact ⟨⟨k + 1, by rw [HK.out]; congr 1, rfl, by rw [HST.out], by have := HQ.out; omega, trivial⟩, by have := HQ.out; simp only [RowKit.intOf]; omega⟩
                  · have h4I : ¬ (e : Int) < 10000 := by omega
                    rw [if_neg h4] at hst
                    have HST := Lib.hid hst
                    clear hst hel hQ he hc h4
                    go_wp2_with fail
                    exact ⟨⟨k + 1, by rw [HK.out]; congr 1, rfl, by rw [HST.out], by have := HQ.out; omega, trivial⟩, by have := HQ.out; simp only [RowKit.intOf]; omega⟩
                · have hltI : ¬ (Q : Int) < ((s.size : Nat) : Int) := by omega
                  have HXE := Lib.hid (show exZ s p q = (e : Int) * sg by rw [HXZ.out, show s.size - q = k by omega, he])
                  have hQz := Lib.hid (show (Q : Int) = ((s.size : Nat) : Int) by omega)
                  obtain ⟨X, hX⟩ : ∃ X, (e : Int) * sg = X := ⟨_, rfl⟩
                  have hXb : -100000 ≤ X ∧ X ≤ 100000 := by rw [← hX]; rcases hsg2 with h | h <;> rw [h] <;> omega
                  have H1 := Lib.hid (show IntKind.i64.wrap ((e : Int) * sg) = X by rw [hX]; exact IntWalk.i64_in _ (by omega))
                  have H2 := Lib.hid (show IntKind.i64.wrap (D + X) = D + exZ s p q by rw [IntWalk.i64_in _ (by omega), HXE.out, hX])
                  clear hst hel hQ he hX hsg2 hXb
                  go_upto_region 75 with fail
                  have h1 := H1.out
                  have h2 := H2.out
                  go_wp2_with fail
                  go_meet
                  exact ⟨by rw [hQz.out], rfl, rfl, rfl⟩
          · have hizI : ¬ (p : Int) < ((s.size : Nat) : Int) := by omega
            have hpz2 := Lib.hid (show (p : Int) = ((s.size : Nat) : Int) by omega)
            have hXZ := Lib.hid (show D + exZ s p q = D by unfold exZ; rw [if_neg hz, Int.add_zero])
            have hzB2 : decide (p < s.size) = false := decide_eq_false hz
            clear hz
            go_wp2_with fail
            go_meet
            exact ⟨by rw [hpz2.out], rfl, by rw [hXZ.out], rfl⟩
         case rest =>
          obtain ⟨rfl, rfl, rfl, rfl⟩ := hcut
          obtain ⟨Z, hZ⟩ : ∃ Z : Int, D + exZ s p q = Z := ⟨_, rfl⟩
          rw [hZ] at HEZ ⊢
          by_cases hm0 : m = 0
          · have hE := Lib.hid (show EZ = 0 by rw [HEZ.out, if_pos hm0])
            have hmB : ((m : Int) == 0) = true := by simp; omega
            have HM0 := Lib.hid hm0
            clear hZ hm0
            go_wp2_with fail
            rw [Exit.noGoto_ret]
            refine bodyPost_ret (by simp [results, Tryz.results224, go_sem]; try rfl) rfl ?_
            exact ⟨by rw [hE.out, HX.out], rfl⟩
          · have hE := Lib.hid (show EZ = Z - ((nm : Nat) : Int) by rw [HEZ.out, if_neg hm0])
            have hmB : ((m : Int) == 0) = false := by simp; omega
            have hZb : -200000 ≤ Z ∧ Z ≤ 200000 := by
              have hzz : -100000 ≤ exZ s p q ∧ exZ s p q ≤ 100000 := by
                unfold exZ
                by_cases hz : p < s.size
                · have := ex_lt (s := s) (q := q) (s.size - q) (fun i hi => HN.out.d3 (q + i) hz (by omega) (by omega))
                  rw [if_pos hz]; split <;> omega
                · rw [if_neg hz]; omega
              omega
            obtain ⟨hZ1, hZ2⟩ := hZb
            have H1 := Lib.hid (show IntKind.i64.wrap (Z - (nm : Int)) = EZ by rw [IntWalk.i64_in _ (by omega), hE.out])
            clear hZ hm0
            go_upto_region 78 with fail
            have h1 := H1.out
            go_wp2_with fail
            rw [Exit.noGoto_ret]
            refine bodyPost_ret (by simp [results, Tryz.results224, go_sem]; try rfl) rfl ?_
            exact ⟨by rw [HX.out], rfl⟩
end
section
open Go Go.ChangeShapes Go.WideShapes Go.RowKit Go.PlainAid
set_option linter.unusedVariables false
set_option linter.unusedSimpArgs false
set_option maxRecDepth 100000 in
set_option maxHeartbeats 4000000 in
theorem set_m (b : Nat) (s : ByteArray) (a p q : Nat) (h : Nm1 s a p q) (w : World) (hM : DM w b ⟨0, 0, 0, false⟩ false) :
    Calls Tryz.prog 230 #[.pointer (some ⟨b, 0, none⟩), .string s] w fun e w' => e = .returned (.bool true) ∧ DM w' b (smZ s a p q) true ∧ Below b w w' := by
  have hb := get_bt s
  have HN := Lib.hid h
  have hsz := h.sz
  have hpz := h.pz
  have hap := h.ap
  have ha1 := h.a1
  have hszI : ((s.size : Nat) : Int) ≤ 1000 := by omega
  have h0 := h.d1 1 (by omega) (by omega)
  have hz : 0 < s.size := by omega
  have hzN : ¬ s.size = 0 := by omega
  have hzB : (s.size == 0) = false := beq_eq_false_iff_ne.2 hzN
  obtain ⟨c0, hc0⟩ : ∃ c0, bt s 0 = c0 := ⟨_, rfl⟩
  have hbz : ((s[0]'hz).toNat : Int) = c0 := by rw [hb 0 hz]; exact hc0
  have hc45 : c0 = 45 := by rw [← hc0]; exact h.sg
  have n1 : (c0 == 43) = false := beq_eq_false_iff_ne.2 (by omega)
  have n2 : (c0 == 45) = true := beq_iff_eq.2 hc45
  clear hc45
  have HB := Lib.hid hb
  have HC0 := Lib.hid hc0
  obtain ⟨g, hD, hg⟩ := hM.ex
  have cg := hD.cg
  have ct := hD.ct
  have fg := hD.f 802 (by omega)
  have ft := hD.f 803 (by omega)
  obtain ⟨W1, hW1⟩ : ∃ W1, ((w.setCell ⟨b, 802, none⟩ (.bool false)).setCell ⟨b, 803, none⟩ (.bool false)).setCell ⟨b, 802, none⟩ (.bool true) = W1 := ⟨_, rfl⟩
  have HW1 := Lib.hid hW1
  have HS1 := Lib.hid (sfM_one h)
  have HD := Lib.hid hD
  have HG := Lib.hid hg
  clear h hb hc0 hM hD hg hW1
  go_enter Tryz.func230, Tryz.ntmps230
  go_upto_block 1 with fail
  have HM1 := Lib.hid (show DM W1 b (sfM s 1) true by rw [← HW1.out, HS1.out]; exact ⟨g, (((HD.out.setG false).setT false).setG true), HG.out⟩)
  have HX1 := Lib.hid (show Below b w W1 by rw [← HW1.out]; exact (((Below.refl b w).setCell (p := ⟨b, 802, none⟩) (Nat.le_refl _) _).setCell (p := ⟨b, 803, none⟩) (Nat.le_refl _) _).setCell (p := ⟨b, 802, none⟩) (Nat.le_refl _) _)
  rw [HW1.out]
  clear cg ct fg ft HW1 HD HG
  go_cut [5, 6, 7] from 34 to 116 (fun s5 s6 s7 wx => s5 = .int .i64 (p : Int) ∧ s6 = .bool (decide (a < p)) ∧ s7 = .bool true ∧ DM wx b (sfM s p) true ∧ Below b w wx)
  case first =>
    go_wp2_with fail
    go_loopw [5, 6, 7] (fun s5 s6 s7 wr => ∃ i : Nat, s5 = .int .i64 (i : Int) ∧ s6 = .bool (decide (a < i)) ∧ s7 = .bool (decide (1 < i)) ∧ DM wr b (sfM s i) true ∧ Below b w wr ∧ (1 ≤ i ∧ i ≤ p)) (fun s5 s6 s7 wr => (1001 - RowKit.intOf s5).toNat)
    case atStart => exact ⟨1, rfl, by rw [decide_eq_false (show ¬ a < 1 by omega)], rfl, HM1.out, HX1.out, ⟨by omega, by omega⟩⟩
    case round =>
      obtain ⟨i, rfl, rfl, rfl, hMi, hXi, hip⟩ := hrel
      clear HM1 HX1
      have hq := sm_ok HN.out i hip.2
      have HXi := Lib.hid hXi
      clear hXi
      by_cases hlt : i < p
      · obtain ⟨hi1, hip2⟩ := hip
        have hby := HN.out.byte hi1 hlt
        have hst : sfM s (i + 1) = sfS (bt s i) (sfM s i) := sm_step HN.out hi1 hlt
        obtain ⟨x, hx⟩ : ∃ x, sfM s i = x := ⟨_, rfl⟩
        obtain ⟨c, hc⟩ : ∃ c, bt s i = c := ⟨_, rfl⟩
        have hbi : ((s[i]'(by omega)).toNat : Int) = c := by rw [HB.out i (by omega)]; exact hc
        rw [hx] at hq hst hMi
        rw [hc] at hby hst
        obtain ⟨V, n, dp, tr⟩ := x
        obtain ⟨q1, q2, q3, q4, q5⟩ := hq
        simp only at q1 q2 q3 q4 q5
        obtain ⟨q5, q6⟩ := q5
        obtain ⟨gi, hDi, hgi⟩ := hMi.ex
        simp only at hDi hgi
        have cn := hDi.cn
        have cd := hDi.cd
        have hizI : (i : Int) < ((s.size : Nat) : Int) := by omega
        have hiz : i < s.size := by omega
        have HST := Lib.hid hst
        have HCC := Lib.hid hc
        have HMi := Lib.hid hMi
        have hmc : 46 ≤ c ∧ c ≤ 57 := by omega
        obtain ⟨hm1, hm2⟩ := hmc
        have z1 : (c == 95) = false := beq_eq_false_iff_ne.2 (by omega)
        clear hst hx hc hMi hgi
        by_cases c46 : c = 46
        · have hia : i = a := by
            have hcc := HCC.out
            by_cases h1 : i < a
            · have := HN.out.d1 i hi1 h1; omega
            · by_cases h2 : i = a
              · exact h2
              · have := HN.out.d2 i (by omega) hlt; omega
          have hdf : decide (a < i) = false := decide_eq_false (by omega)
          have hi0 : decide (1 < i) = true := decide_eq_true (by omega)
          have hE := Lib.hid (show sfM s (i + 1) = ⟨V, n, (n : Int), tr⟩ by rw [HST.out]; unfold sfS; rw [if_pos c46])
          have f1 := hDi.f 801 (by omega)
          have HDT := Lib.hid (show decide (a < i + 1) = true from decide_eq_true (by omega))
          have HD2 := Lib.hid (HMi.out.setP (n : Int))
          have HX2 := Lib.hid (HXi.out.setCell (p := ⟨b, 801, none⟩) (Nat.le_refl _) (.int .i64 (n : Int)))
          subst c46
          rw [hdf, hi0]
          clear hby hia q4 hDi hdf hi0
          go_wp2_with fail
          exact ⟨⟨i + 1, by congr 1, by rw [HDT.out], by simp; omega, by rw [hE.out]; exact HD2.out, HX2.out, by omega⟩, by simp only [RowKit.intOf]; omega⟩
        · obtain ⟨d, hd⟩ : ∃ d : Nat, c = 48 + (d : Int) := ⟨(c - 48).toNat, by omega⟩
          have hd9 : d ≤ 9 := by omega
          have h46 : (c == 46) = false := beq_eq_false_iff_ne.2 c46
          have h48 : (48 : Int) ≤ c := by omega
          have hia : i ≠ a := by
            intro hc; subst hc; have := (HN.out.pt hlt).1; have := HCC.out; omega
          have HDT := Lib.hid (show decide (a < i + 1) = decide (a < i) by rw [decide_eq_decide]; omega)
          obtain ⟨dt, hdt⟩ : ∃ dt, decide (a < i) = dt := ⟨_, rfl⟩
          rw [hdt] at HDT ⊢
          by_cases c48 : c = 48 ∧ n = 0
          · obtain ⟨c48a, c48b⟩ := c48
            have hE := Lib.hid (show sfM s (i + 1) = ⟨V, n, dp - 1, tr⟩ by rw [HST.out]; unfold sfS; rw [if_neg c46, if_pos ⟨c48a, c48b⟩])
            have H1 := Lib.hid (show IntKind.i64.wrap (dp - 1) = dp - 1 from IntWalk.i64_in _ (by omega))
            have f1 := hDi.f 801 (by omega)
            have HD2 := Lib.hid (HMi.out.setP (dp - 1))
            have HX2 := Lib.hid (HXi.out.setCell (p := ⟨b, 801, none⟩) (Nat.le_refl _) (.int .i64 (dp - 1)))
            subst c48a
            subst c48b
            clear hby q4 c46 hd h46 hia hdt hDi
            go_upto_region 23 with fail
            have h1 := H1.out
            go_wp2_with fail
            exact ⟨⟨i + 1, by congr 1, by rw [HDT.out], by simp; omega, by rw [hE.out]; exact HD2.out, HX2.out, by omega⟩, by simp only [RowKit.intOf]; omega⟩
          · have hndc : (c ≠ 48) ∨ (c = 48 ∧ n ≠ 0) := by omega
            by_cases c8 : n < 800
            · have hE := Lib.hid (show sfM s (i + 1) = ⟨V * 10 + d, n + 1, dp, tr⟩ by rw [HST.out]; unfold sfS; rw [if_neg c46, if_neg c48, if_pos c8, show (c - 48).toNat = d by omega])
              have f1 := hDi.f n (by omega)
              have f8 := hDi.f 800 (by omega)
              have cx := hDi.c n c8
              have c8I : (n : Int) < 800 := by omega
              have HD2 := Lib.hid (fun Q => (HMi.out.drew Q).put (d := d) c8 hd9)
              rw [show ((48 + d : Nat) : Int) = c by omega] at HD2
              have HX2 := Lib.hid (fun Q => ((HXi.out.trans (below_drewN (Below.refl _ _) Q)).setCell (p := ⟨b, n, none⟩) (Nat.le_refl _) (.int .u8 c)).setCell (p := ⟨b, 800, none⟩) (Nat.le_refl _) (.int .i64 ((n + 1 : Nat) : Int)))
              have hnI : (n : Int) ≤ 1000 := by omega
              have hc0' : (0 : Int) ≤ c := by omega
              have HDi := Lib.hid hDi
              clear hby q4 c46 hd c48 hia hdt hDi c8
              rcases hndc with h48n | ⟨h48n, hnd0⟩
              · have z2 : (c == 48) = false := beq_eq_false_iff_ne.2 h48n
                go_wp2_with fail
                go_still_tail 11, (by kernel_rfl)
                change wpList _ _ _ _ _ (wr.drewN 1)
                obtain ⟨W2, hW2⟩ : ∃ W2, wr.drewN 1 = W2 := ⟨_, rfl⟩
                have kD := HDi.out.drew 1
                have kM := HD2.out 1
                have kX := HX2.out 1
                rw [hW2] at kD kM kX ⊢
                have cn2 := kD.cn
                have cx2 := kD.c n (by omega)
                have f12 := kD.f n (by omega)
                have f82 := kD.f 800 (by omega)
                have HKM := Lib.hid kM
                have HKX := Lib.hid kX
                have hnz : ¬ n = 800 := by omega
                clear kD kM kX hW2 cn cx f1 f8 cd
                go_wp2_with fail
                exact ⟨⟨i + 1, by congr 1, by rw [HDT.out], by simp; omega, by rw [hE.out]; exact HKM.out, HKX.out, by omega⟩, by simp only [RowKit.intOf]; omega⟩
              · have z2 : ((n : Int) == 0) = false := by simp; omega
                subst h48n
                go_wp2_with fail
                go_still_tail 11, (by kernel_rfl)
                change wpList _ _ _ _ _ (wr.drewN 1)
                obtain ⟨W2, hW2⟩ : ∃ W2, wr.drewN 1 = W2 := ⟨_, rfl⟩
                have kD := HDi.out.drew 1
                have kM := HD2.out 1
                have kX := HX2.out 1
                rw [hW2] at kD kM kX ⊢
                have cn2 := kD.cn
                have cx2 := kD.c n (by omega)
                have f12 := kD.f n (by omega)
                have f82 := kD.f 800 (by omega)
                have HKM := Lib.hid kM
                have HKX := Lib.hid kX
                have hnz : ¬ n = 800 := by omega
                clear kD kM kX hW2 cn cx f1 f8 cd
                go_wp2_with fail
                exact ⟨⟨i + 1, by congr 1, by rw [HDT.out], by simp; omega, by rw [hE.out]; exact HKM.out, HKX.out, by omega⟩, by simp only [RowKit.intOf]; omega⟩
            · have hE := Lib.hid (show sfM s (i + 1) = ⟨V, n, dp, tr || decide (c ≠ 48)⟩ by rw [HST.out]; unfold sfS; rw [if_neg c46, if_neg c48, if_neg c8])
              have c8I : ¬ (n : Int) < 800 := by omega
              have f1 := hDi.f 803 (by omega)
              have ct := hDi.ct
              clear hby q4 c46 hd c48 hia hdt hDi
              rcases hndc with h48n | ⟨h48n, hnd0⟩
              · have z2 : (c == 48) = false := beq_eq_false_iff_ne.2 h48n
                have HT := Lib.hid (show (tr || decide (c ≠ 48)) = true by rw [decide_eq_true h48n, Bool.or_true])
                have HD2 := Lib.hid (HMi.out.setT true)
                have HX2 := Lib.hid (HXi.out.setCell (p := ⟨b, 803, none⟩) (Nat.le_refl _) (.bool true))
                go_wp2_with fail
                exact ⟨⟨i + 1, by congr 1, by rw [HDT.out], by simp; omega, by rw [hE.out, HT.out]; exact HD2.out, HX2.out, by omega⟩, by simp only [RowKit.intOf]; omega⟩
              · have z2 : ((n : Int) == 0) = false := by simp; omega
                have HT := Lib.hid (show (tr || decide (c ≠ 48)) = tr by rw [h48n]; simp)
                subst h48n
                go_wp2_with fail
                exact ⟨⟨i + 1, by congr 1, by rw [HDT.out], by simp; omega, by rw [hE.out, HT.out]; exact HMi.out, HXi.out, by omega⟩, by simp only [RowKit.intOf]; omega⟩
      · obtain rfl : i = p := by omega
        have hi0 : decide (1 < i) = true := decide_eq_true (by omega)
        rw [hi0]
        have HMi := Lib.hid hMi
        clear hq hlt hi0 hMi
        by_cases hz : i < s.size
        · have h101 := (HN.out.ex hz).1
          have hizI : (i : Int) < ((s.size : Nat) : Int) := by omega
          have hbi : ((s[i]'hz).toNat : Int) = 101 := by rw [HB.out i hz]; exact h101
          clear h101
          go_wp2_with fail
          go_meet
          exact ⟨rfl, rfl, rfl, HMi.out, HXi.out⟩
        · have hizI : ¬ (i : Int) < ((s.size : Nat) : Int) := by omega
          go_wp2_with fail
          go_meet
          exact ⟨rfl, rfl, rfl, HMi.out, HXi.out⟩
  case rest =>
    obtain ⟨rfl, rfl, rfl, hMp, hXp⟩ := hcut
    have hq := sm_ok HN.out p (Nat.le_refl _)
    obtain ⟨x, hx⟩ : ∃ x, sfM s p = x := ⟨_, rfl⟩
    have HZZ := Lib.hid (show smZ s a p q = { x with dp := (if a < p then x.dp else (x.n : Int)) + exZ s p q } by unfold smZ; rw [hx])
    have HX := Lib.hid hx
    rw [hx] at hq hMp
    obtain ⟨V, n, dp, tr⟩ := x
    obtain ⟨q1, q2, q3, q4, q5, q6⟩ := hq
    simp only at q1 q2 q3 q4 q5 q6 HZZ
    obtain ⟨D, hD⟩ : ∃ D : Int, (if a < p then dp else ((n : Nat) : Int)) = D := ⟨_, rfl⟩
    rw [hD] at HZZ
    have hDb : -1000 ≤ D ∧ D ≤ 1000 := by rw [← hD]; split <;> omega
    obtain ⟨hD1, hD2⟩ := hDb
    have HDD := Lib.hid hD
    obtain ⟨gi, hDi, _⟩ := hMp.ex
    simp only at hDi
    have cn := hDi.cn
    have cd := hDi.cd
    have f1 := hDi.f 801 (by omega)
    have HMp := Lib.hid hMp
    have HXp := Lib.hid hXp
    obtain ⟨dt, hdt⟩ : ∃ dt, decide (a < p) = dt := ⟨_, rfl⟩
    rw [hdt]
    have HDT := Lib.hid hdt
    clear hx hD q4 hMp hXp hDi hdt HM1 HX1
    go_upto_if 118 with fail
    go_upto_if 120 with fail
    go_cut [119] from 119 to 133 (fun s119 wx => DM wx b ⟨V, n, D, tr⟩ true ∧ Below b w wx)
    case first =>
      cases dt with
      | true =>
        have hap2 : a < p := by simpa using HDT.out
        have hd := Lib.hid (show dp = D by have := HDD.out; rw [if_pos hap2] at this; exact this)
        clear hap2
        go_wp2_with fail
        go_meet
        exact ⟨by rw [← hd.out]; exact HMp.out, HXp.out⟩
      | false =>
        have hap2 : ¬ a < p := by simpa using HDT.out
        have hd := Lib.hid (show (n : Int) = D by have := HDD.out; rw [if_neg hap2] at this; exact this)
        have HD2 := Lib.hid (HMp.out.setP (n : Int))
        have HX2 := Lib.hid (HXp.out.setCell (p := ⟨b, 801, none⟩) (Nat.le_refl _) (.int .i64 (n : Int)))
        clear hap2
        go_wp2_with fail
        go_meet
        exact ⟨by rw [← hd.out]; exact HD2.out, HX2.out⟩
    case rest =>
      obtain ⟨hM5, hX5⟩ := hcut
      have HM5 := Lib.hid hM5
      have HX5 := Lib.hid hX5
      clear hM5 hX5 cn cd f1 HMp HXp
      go_upto_region 32 with fail
      go_cut [138] from 128 to 138 (fun s138 wx => s138 = .bool (decide (p < s.size)) ∧ wc = wx)
      case first =>
        by_cases hz : p < s.size
        · have e1 := (HN.out.ex hz).1
          have hizI : (p : Int) < ((s.size : Nat) : Int) := by omega
          have hbi : ((s[p]'hz).toNat : Int) = 101 := by rw [HB.out p hz]; exact e1
          have HL := Lib.hid (lower_any 101 (by omega))
          have HT := Lib.hid (decide_eq_true hz)
          clear e1
          go_wp2_with (first
            | (go_at_call 128; (with_reducible refine (HL.out _).mono ?_); rintro e w9 ⟨rfl, rfl⟩)
            | fail)
          go_meet
          exact ⟨by rw [HT.out], rfl⟩
        · have hizI : ¬ (p : Int) < ((s.size : Nat) : Int) := by omega
          have HT := Lib.hid (decide_eq_false hz)
          go_wp2_with fail
          go_meet
          exact ⟨by rw [HT.out], rfl⟩
      case rest =>
       obtain ⟨rfl, rfl⟩ := hcut
       go_upto_if 138 with fail
       go_cut [5, 8, 9] from 138 to 209 (fun s5 s8 s9 wx => s5 = .int .i64 ((s.size : Nat) : Int) ∧ DM wx b (smZ s a p q) true ∧ Below b w wx)
       case first =>
        by_cases hz : p < s.size
        · have hzB2 : decide (p < s.size) = true := decide_eq_true hz
          have h101 := HN.out.ex hz
          obtain ⟨e1, e2, e3⟩ := h101
          have hizI : (p : Int) < ((s.size : Nat) : Int) := by omega
          obtain ⟨c1, hc1⟩ : ∃ c1, bt s (p + 1) = c1 := ⟨_, rfl⟩
          have hp1 : p + 1 < s.size := by omega
          have hp1I : ¬ ((s.size : Nat) : Int) ≤ (p : Int) + 1 := by omega
          have hb1 : ((s[p + 1]'hp1).toNat : Int) = c1 := by rw [HB.out (p + 1) hp1]; exact hc1
          obtain ⟨sg, hsg⟩ : ∃ sg : Int, sg = if c1 = 45 then -1 else 1 := ⟨_, rfl⟩
          have hXZ : exZ s p q = ((exN s q (s.size - q) : Nat) : Int) * sg := by
            unfold exZ; rw [if_pos hz, hc1, hsg]
            by_cases h45 : c1 = 45
            · rw [if_pos h45, if_pos h45]; omega
            · rw [if_neg h45, if_neg h45]; omega
          have hsg2 : sg = 1 ∨ sg = -1 := by rw [hsg]; split <;> omega
          rw [hc1] at e3
          have HSG := Lib.hid hsg
          have HE3 := Lib.hid e3
          have HXZ := Lib.hid hXZ
          have hqz : q < s.size := e2
          have hpq : p < q := by omega
          have hqI : (q : Int) < ((s.size : Nat) : Int) := by omega
          have hex := Lib.hid (ex_lt (s := s) (q := q) (s.size - q) (fun i hi => HN.out.d3 (q + i) hz (by omega) (by omega)))
          have HD3 := Lib.hid (fun i (h1 : q ≤ i) (h2 : i < s.size) => HN.out.d3 i hz h1 h2)
          clear hc1 e3 e1 e2 hsg hXZ
          go_upto_block 4 with fail
          clear hzB2
          go_cut [5, 8] from 138 to 155 (fun s5 s8 wx => s5 = .int .i64 (q : Int) ∧ s8 = .int .i64 sg ∧ wc = wx)
          case first =>
            rcases HE3.out with ⟨hq, h43, h45⟩ | ⟨hq, h43 | h45⟩
            · have z1 : (c1 == 43) = false := beq_eq_false_iff_ne.2 h43
              have z2 : (c1 == 45) = false := beq_eq_false_iff_ne.2 h45
              have hs1 := Lib.hid (show sg = 1 by rw [HSG.out, if_neg h45])
              have hq2 := Lib.hid (show (p : Int) + 1 = (q : Int) by omega)
              clear hq h43 h45
              go_wp2_with fail
              go_meet
              exact ⟨by rw [← hq2.out], by rw [hs1.out], rfl⟩
            · have hs1 := Lib.hid (show sg = 1 by rw [HSG.out, if_neg (by omega)])
              have hq2 := Lib.hid (show (p : Int) + 1 + 1 = (q : Int) by omega)
              subst h43
              clear hq
              go_wp2_with fail
              go_meet
              exact ⟨by rw [← hq2.out], by rw [hs1.out], rfl⟩
            · have hs1 := Lib.hid (show sg = -1 by rw [HSG.out, if_pos h45])
              have hq2 := Lib.hid (show (p : Int) + 1 + 1 = (q : Int) by omega)
              subst h45
              clear hq
              go_wp2_with fail
              go_meet
              exact ⟨by rw [← hq2.out], by rw [hs1.out], rfl⟩
          case rest =>
            obtain ⟨rfl, rfl, rfl⟩ := hcut
            obtain ⟨c2, hc2⟩ : ∃ c2, bt s q = c2 := ⟨_, rfl⟩
            have hd2 := HD3.out q (Nat.le_refl _) hqz
            rw [hc2] at hd2
            have hb2 : ((s[q]'hqz).toNat : Int) = c2 := by rw [HB.out q hqz]; exact hc2
            have z1 : decide (c2 < 48) = false := decide_eq_false (by omega)
            have z2 : decide (57 < c2) = false := decide_eq_false (by omega)
            clear hc2 hd2 hb1
            go_upto_region 43 with fail
            clear z1 z2 hb2
            go_wp2_with fail
            go_loopw [5, 9] (fun s5 s9 wr => ∃ k : Nat, s5 = .int .i64 ((q + k : Nat) : Int) ∧ s9 = .int .i64 ((exN s q k : Nat) : Int) ∧ q + k ≤ s.size ∧ wc = wr) (fun s5 s9 wr => (1001 - RowKit.intOf s5).toNat)
            case atStart => exact ⟨0, by simp, rfl, by omega, rfl⟩
            case round =>
              obtain ⟨k, rfl, rfl, hk, rfl⟩ := hrel
              obtain ⟨Q, hQ⟩ : ∃ Q, q + k = Q := ⟨_, rfl⟩
              have HQ := Lib.hid hQ
              have hel := ex_lt (s := s) (q := q) k (fun i hi => HD3.out (q + i) (by omega) (by omega))
              have hst : exN s q (k + 1) = if exN s q k < 10000 then exN s q k * 10 + (bt s (q + k) - 48).toNat else exN s q k := rfl
              rw [hQ] at hk hst ⊢
              obtain ⟨e, he⟩ : ∃ e, exN s q k = e := ⟨_, rfl⟩
              rw [he] at hel hst ⊢
              by_cases hlt : Q < s.size
              · have hltI : (Q : Int) < ((s.size : Nat) : Int) := by omega
                have hd := HD3.out Q (by omega) hlt
                obtain ⟨c, hc⟩ : ∃ c, bt s Q = c := ⟨_, rfl⟩
                rw [hc] at hd hst
                have hbi : ((s[Q]'hlt).toNat : Int) = c := by rw [HB.out Q hlt]; exact hc
                have z1 : decide (48 ≤ c) = true := decide_eq_true (by omega)
                have z2 : decide (c ≤ 57) = true := decide_eq_true (by omega)
                have z3 : (c == 95) = false := beq_eq_false_iff_ne.2 (by omega)
                have HK := Lib.hid (show q + (k + 1) = Q + 1 by omega)
                have hs0 : (0 : Int) ≤ (e : Int) := by omega
                by_cases h4 : e < 10000
                · have h4I : (e : Int) < 10000 := by omega
                  rw [if_pos h4] at hst
                  obtain ⟨E2, hE2⟩ : ∃ E2, e * 10 + (c - 48).toNat = E2 := ⟨_, rfl⟩
                  rw [hE2] at hst
                  have HST := Lib.hid hst
                  have H1 := Lib.hid (show IntKind.i64.wrap ((e : Int) * 10 + c - 48) = (E2 : Int) by rw [IntWalk.i64_in _ (by omega)]; omega)
                  obtain ⟨hd1, hd2⟩ := hd
                  clear hE2
                  clear hst hel hQ he hc h4
                  go_upto_region 48 with fail
                  have h1 := H1.out
                  go_wp2_with fail
                  exact ⟨⟨k + 1, by rw [HK.out]; congr 1, by rw [HST.out], by have := HQ.out; omega, trivial⟩, by have := HQ.out; simp only [RowKit.intOf]; omega⟩
                · have h4I : ¬ (e : Int) < 10000 := by omega
                  rw [if_neg h4] at hst
                  have HST := Lib.hid hst
                  clear hst hel hQ he hc h4
                  go_wp2_with fail
                  exact ⟨⟨k + 1, by rw [HK.out]; congr 1, by rw [HST.out], by have := HQ.out; omega, trivial⟩, by have := HQ.out; simp only [RowKit.intOf]; omega⟩
              · have hltI : ¬ (Q : Int) < ((s.size : Nat) : Int) := by omega
                have HXE := Lib.hid (show exZ s p q = (e : Int) * sg by rw [HXZ.out, show s.size - q = k by omega, he])
                have hQz := Lib.hid (show (Q : Int) = ((s.size : Nat) : Int) by omega)
                obtain ⟨X, hX⟩ : ∃ X, (e : Int) * sg = X := ⟨_, rfl⟩
                have hXb : -100000 ≤ X ∧ X ≤ 100000 := by rw [← hX]; rcases hsg2 with h | h <;> rw [h] <;> omega
                have H1 := Lib.hid (show IntKind.i64.wrap ((e : Int) * sg) = X by rw [hX]; exact IntWalk.i64_in _ (by omega))
                have H2 := Lib.hid (show IntKind.i64.wrap (D + X) = D + exZ s p q by rw [IntWalk.i64_in _ (by omega), HXE.out, hX])
                clear hst hel hQ he hX hsg2 hXb
                go_upto_region 49 with fail
                obtain ⟨ZZ, hZZ⟩ : ∃ ZZ : Int, D + exZ s p q = ZZ := ⟨_, rfl⟩
                have HZ3 := HZZ
                rw [hZZ] at H2 HZ3
                obtain ⟨g5, hD5, _⟩ := HM5.out.ex
                have cd := hD5.cd
                have f1 := hD5.f 801 (by omega)
                simp only at cd
                have HD2 := Lib.hid (HM5.out.setP ZZ)
                have HX2 := Lib.hid (HX5.out.setCell (p := ⟨b, 801, none⟩) (Nat.le_refl _) (.int .i64 ZZ))
                clear hD5 hZZ
                have h1 := H1.out
                have h2 := H2.out
                go_wp2_with fail
                go_meet
                exact ⟨by rw [hQz.out], by rw [HZ3.out]; exact HD2.out, HX2.out⟩
        · have hizI : ¬ (p : Int) < ((s.size : Nat) : Int) := by omega
          have hpz2 := Lib.hid (show (p : Int) = ((s.size : Nat) : Int) by omega)
          have hXZ := Lib.hid (show smZ s a p q = ⟨V, n, D, tr⟩ by rw [HZZ.out]; unfold exZ; rw [if_neg hz, Int.add_zero])
          have hzB2 : decide (p < s.size) = false := decide_eq_false hz
          clear hz
          go_wp2_with fail
          go_meet
          exact ⟨by rw [hpz2.out], by rw [hXZ.out]; exact HM5.out, HX5.out⟩
       case rest =>
        obtain ⟨rfl, hM6, hX6⟩ := hcut
        have HM6 := Lib.hid hM6
        have HX6 := Lib.hid hX6
        clear hM6 hX6
        go_wp2_with fail
        go_ret
        exact ⟨rfl, HM6.out, HX6.out⟩
end
section
open Go Go.ChangeShapes Go.WideShapes Go.RowKit
set_option linter.unusedVariables false
set_option linter.unusedSimpArgs false
theorem or_nat_top {x : Nat} (h : x < 9223372036854775808) : 9223372036854775808 ||| x = 9223372036854775808 + x := by
  have := Nat.two_pow_add_eq_or_of_lt (i := 63) (b := x) h 1
  simpa using this.symm
theorem or_topn {x : Nat} (h : x < 9223372036854775808) : bits .or .u64 9223372036854775808 (x : Int) = ((9223372036854775808 + x : Nat) : Int) := by
  have hh := u64_or_nat 9223372036854775808 x (by omega) (by omega)
  rw [or_nat_top h] at hh
  exact hh
theorem top_div (m : Nat) : (9223372036854775808 + m) / 4503599627370496 % 2 = m / 4503599627370496 % 2 := by omega
theorem and_63_top {m : Nat} (h : m < 9223372036854775808) : bits .and .u64 ((9223372036854775808 + m : Nat) : Int) 9223372036854775808 = 9223372036854775808 := by
  have hh := u64_and_nat (9223372036854775808 + m) 9223372036854775808 (by omega) (by omega)
  refine hh.trans ?_
  have e1 : ((9223372036854775808 + m) &&& 9223372036854775808) % 2 ^ 63 = 0 := by rw [Nat.and_mod_two_pow]; simp
  have e2 : ((9223372036854775808 + m) &&& 9223372036854775808) / 2 ^ 63 = ((9223372036854775808 + m) / 2 ^ 63) &&& 1 := by rw [Nat.and_div_two_pow]
  rw [show (9223372036854775808 + m) / 2 ^ 63 = 1 by omega] at e2
  have e3 : (1 : Nat) &&& 1 = 1 := by decide
  rw [e3] at e2
  rw [show (9223372036854775808 + m) &&& 9223372036854775808 = 9223372036854775808 by omega]
  rfl
theorem andNot_top2 {f : Nat} (hf : f < 4503599627370496) : bits .andNot .u64 ((9223372036854775808 + (4503599627370496 + f) : Nat) : Int) 4503599627370496 = ((9223372036854775808 + f : Nat) : Int) := by
  have h := u64_andNot_nat (9223372036854775808 + (4503599627370496 + f)) 4503599627370496 (by omega) (by omega)
  refine h.trans (congrArg _ ?_)
  have e2 : ((9223372036854775808 + (4503599627370496 + f)) &&& (18446744073709551615 - 4503599627370496)) % 2 ^ 52 = f := by
    rw [Nat.and_mod_two_pow, show ((18446744073709551615 - 4503599627370496) % 2 ^ 52 : Nat) = 2 ^ 52 - 1 from rfl, Nat.and_two_pow_sub_one_eq_mod, Nat.mod_mod]
    omega
  have e3 : ((9223372036854775808 + (4503599627370496 + f)) &&& (18446744073709551615 - 4503599627370496)) / 2 ^ 52 = 2048 := by
    rw [Nat.and_div_two_pow, show ((18446744073709551615 - 4503599627370496) / 2 ^ 52 : Nat) = 4094 from rfl, show (9223372036854775808 + (4503599627370496 + f)) / 2 ^ 52 = 2049 by omega]
    rfl
  omega
theorem or_exp2 {f E : Nat} (hf : f < 4503599627370496) (h2 : E < 2047) : bits .or .u64 ((9223372036854775808 + f : Nat) : Int) ((E : Int) * 4503599627370496) = ((9223372036854775808 + (E * 4503599627370496 + f) : Nat) : Int) := by
  rw [show ((E : Int) * 4503599627370496) = ((E * 4503599627370496 : Nat) : Int) by rw [Int.natCast_mul]; rfl]
  have hh := u64_or_nat (9223372036854775808 + f) (E * 4503599627370496) (by omega) (by omega)
  refine hh.trans (congrArg _ ?_)
  have e1 : ((9223372036854775808 + f) ||| (E * 4503599627370496)) % 2 ^ 52 = f := by
    rw [Nat.or_mod_two_pow, show (9223372036854775808 + f) % 2 ^ 52 = f by omega, show (E * 4503599627370496) % 2 ^ 52 = 0 by omega]; simp
  have e2 : ((9223372036854775808 + f) ||| (E * 4503599627370496)) / 2 ^ 52 = 2048 + E := by
    rw [Nat.or_div_two_pow, show (9223372036854775808 + f) / 2 ^ 52 = 2048 by omega, show (E * 4503599627370496) / 2 ^ 52 = E by omega]
    have := Nat.two_pow_add_eq_or_of_lt (i := 11) (b := E) (show E < 2 ^ 11 by omega) 1
    simpa using this.symm
  omega
theorem pack_m (m : Nat) (e : Int) (hm : m ≤ 9007199254740992) (he : -1074 ≤ e) (w : World) :
    Calls Tryz.prog 245 #[.int .u64 ((9223372036854775808 + m : Nat) : Int), .int .i64 e] w fun r w' => (∃ v, r = .returned (.tuple #[.float .f64 (9223372036854775808 + pkF m e), v]) ∧ ErrV v) ∧ w = w' := by
  have hq := and_u52 (9223372036854775808 + m) (by omega)
  rw [top_div] at hq
  by_cases h0 : m / 4503599627370496 % 2 = 0
  · rw [if_pos h0] at hq
    have hF : pkF m e = m := by unfold pkF; rw [if_pos h0]
    rw [hF]
    have hf := run_sfrombits (9223372036854775808 + m) w
    generalize 9223372036854775808 + m = M at hq hf ⊢
    clear h0 hF
    go_enter Tryz.func245, Tryz.ntmps245
    go_wp2_with fail
    go_ret2
    exact ⟨⟨_, rfl, .inl rfl⟩, rfl⟩
  · rw [if_neg h0] at hq
    by_cases h1 : 972 ≤ e
    · have hF : pkF m e = fIN := by unfold pkF; rw [if_neg h0, if_pos h1]
      rw [hF]
      have ha := and_63_top (m := m) (by omega)
      have ho : bits .or .u64 9223372036854775808 9218868437227405312 = 18442240474082181120 := by rfl
      have hf : (callFunc 233 #[.int .u64 18442240474082181120]).run Tryz.prog w = .ok (.value (.float .f64 18442240474082181120)) w := run_sfrombits 18442240474082181120 w
      generalize 9223372036854775808 + m = M at hq ha ⊢
      clear h0 hF
      go_enter Tryz.func245, Tryz.ntmps245
      go_wp2_with fail
      go_ret2
      exact ⟨⟨_, rfl, .inr rfl⟩, rfl⟩
    · obtain ⟨f, hf⟩ : ∃ f, m % 4503599627370496 = f := ⟨_, rfl⟩
      obtain ⟨E, hE⟩ : ∃ E, (e + 1075).toNat = E := ⟨_, rfl⟩
      have hF : pkF m e = E * 4503599627370496 + f := by unfold pkF; rw [if_neg h0, if_neg h1, hf, hE]
      rw [hF]
      have hm2 : m = 4503599627370496 + f := by omega
      have ha := andNot_top2 (f := f) (by omega)
      rw [← hm2] at ha
      have ho := or_exp2 (f := f) (E := E) (by omega) (by omega)
      have hx : IntKind.i64.wrap (1075 + e) = (E : Int) := by rw [IntWalk.i64_in _ (by omega)]; omega
      have hr := run_sfrombits (9223372036854775808 + (E * 4503599627370496 + f)) w
      have hEI : (E : Int) ≤ 2046 := by omega
      have hEI1 : (1 : Int) ≤ (E : Int) := by omega
      generalize 9223372036854775808 + m = M at hq ha ⊢
      generalize 9223372036854775808 + (E * 4503599627370496 + f) = Z at ho hr ⊢
      generalize 9223372036854775808 + f = Y at ha ho ⊢
      clear h0 hF hm2 hf hE
      go_enter Tryz.func245, Tryz.ntmps245
      go_wp2_with fail
      go_ret2
      exact ⟨⟨_, rfl, .inl rfl⟩, rfl⟩
set_option maxRecDepth 100000 in
set_option maxHeartbeats 2000000 in
theorem pf64_m (hiT loT : Nat → Nat) (d i : Nat) (hh : ∀ i, hiT i < 18446744073709551616) (hl : ∀ i, loT i < 18446744073709551616) (hd0 : d ≠ 0) (hd : d < 18446744073709551616) (hi : i < 696) (w : World) (hT : PTZ hiT loT w w.heap.size) :
    Calls Tryz.prog 235 #[.int .u64 (d : Int), .int .i64 ((i : Int) - 348), .int .u64 9223372036854775808] w fun r w' => (∃ v, r = .returned (.tuple #[.float .f64 (9223372036854775808 + pfF (hiT i) (loT i) d ((i : Int) - 348)), v]) ∧ ErrV v) ∧ Below w.heap.size w w' := by
  obtain ⟨l1, l2, l3⟩ := len_facts hd0 hd
  obtain ⟨s1, s2, s3, s4⟩ := pfS_facts (Lib.bitLen d) ((i : Int) - 348) ⟨l1, l2⟩ ⟨by omega, by omega⟩
  have HLen := Lib.hid (Tryz.bits_Len64 (d : Int) w (by omega) (by omega))
  have HL2 := Lib.hid (l2p_any ((i : Int) - 348) ⟨by omega, by omega⟩ w)
  obtain ⟨p, hp⟩ : ∃ p : Int, (i : Int) - 348 = p := ⟨_, rfl⟩
  rw [hp] at s1 s2 s3 s4 HL2 ⊢
  rw [Int.toNat_natCast] at HLen
  have hpb : -348 ≤ p ∧ p ≤ 347 := by omega
  obtain ⟨b, hb⟩ : ∃ b, Lib.bitLen d = b := ⟨_, rfl⟩
  have HF := Lib.hid (show pfF (hiT i) (loT i) d p = if 64 ≤ pfS b p then 0 else pkF (pfM (usZ (d * 2 ^ (64 - b)) (hiT i) (loT i) (pfS b p).toNat)) (-(pfE b p - (pfT (usZ (d * 2 ^ (64 - b)) (hiT i) (loT i) (pfS b p).toNat) : Nat))) by unfold pfF; rw [hb])
  obtain ⟨F, hF⟩ : ∃ F, pfF (hiT i) (loT i) d p = F := ⟨_, rfl⟩
  rw [hF] at HF ⊢
  rw [hb] at l1 l2 l3 s1 s2 s3 s4 HLen
  obtain ⟨LP, hLP⟩ : ∃ LP, p * 108853 / 32768 = LP := ⟨_, rfl⟩
  have hLPb : -1200 ≤ LP ∧ LP ≤ 1200 := by omega
  rw [hLP] at HL2
  have eE : pfE b p = min 1074 (53 - (b : Int) - LP) := by unfold pfE; rw [hLP]
  have eS : pfS b p = -(pfE b p - (64 - (b : Int)) + LP + 3) := by unfold pfS; rw [hLP]
  have w1 : IntKind.i64.wrap (53 - (b : Int)) = 53 - (b : Int) := IntWalk.i64_in _ (by omega)
  have w2 : IntKind.i64.wrap (53 - (b : Int) - LP) = 53 - (b : Int) - LP := IntWalk.i64_in _ (by omega)
  have w3 : IntKind.i64.wrap (64 - (b : Int)) = 64 - (b : Int) := IntWalk.i64_in _ (by omega)
  have w4 : IntKind.i64.wrap (pfE b p - (64 - (b : Int))) = pfE b p - (64 - (b : Int)) := IntWalk.i64_in _ (by omega)
  clear hb hF hLP
  go_enter Tryz.func235, Tryz.ntmps235
  go_upto_region 4 with (first
    | (go_at_call 176; (with_reducible refine HLen.out.mono ?_); rintro e w9 ⟨rfl, rfl⟩)
    | (go_at_call 207; (with_reducible refine HL2.out.mono ?_); rintro e w9 ⟨rfl, rfl⟩)
    | fail)
  rw [← eE]
  obtain ⟨EE, hEE⟩ : ∃ EE, pfE b p = EE := ⟨_, rfl⟩
  obtain ⟨SS, hSS⟩ : ∃ SS, pfS b p = SS := ⟨_, rfl⟩
  rw [hEE, hSS] at eS
  rw [hEE] at w4 s3 s4 ⊢
  rw [hSS] at s1 s2
  have HF2 := Lib.hid (show F = if 64 ≤ SS then 0 else pkF (pfM (usZ (d * 2 ^ (64 - b)) (hiT i) (loT i) SS.toNat)) (-(EE - (pfT (usZ (d * 2 ^ (64 - b)) (hiT i) (loT i) SS.toNat) : Nat))) by rw [← hSS, ← hEE]; exact HF.out)
  have hPre := prescale_any hiT loT w9.heap.size i (EE - (64 - (b : Int))) LP hi ⟨by omega, by omega⟩ ⟨by omega, by omega⟩ (w9.alloc (.cells #[.int .u64 0, .int .u64 0, .int .i64 0] 224)) ⟨⟨0, 0, 0, by simp, by simp, by simp⟩, fun i _ => by simp⟩ (hT.keep ((Below.refl _ _).alloc (Nat.le_refl _) _))
  rw [hp, ← eS] at hPre
  have HPre := Lib.hid hPre
  have HT := Lib.hid hT
  clear hPre hT HF eE eS
  go_upto_region 6 with (first
    | (go_at_call 206; (with_reducible refine HPre.out.mono ?_); rintro e w2 ⟨rfl, hw2⟩)
    | fail)
  generalize hw3 : w9.alloc _ = wx
  have HB := Lib.hid (show Below w9.heap.size w9 wx by rw [← hw3]; exact (Below.refl _ _).alloc (Nat.le_refl _) _)
  have c0 : wx.cell? ⟨w9.heap.size, 0, none⟩ = some (.int .u64 (hiT i : Int)) := by rw [← hw3]; simp
  have c1 : wx.cell? ⟨w9.heap.size, 1, none⟩ = some (.int .u64 (loT i : Int)) := by rw [← hw3]; simp
  have c2 : wx.cell? ⟨w9.heap.size, 2, none⟩ = some (.int .i64 SS) := by rw [← hw3]; simp
  clear hw3 HPre HT HL2 HLen
  by_cases h64 : 64 ≤ SS
  · have HR := Lib.hid (show F = 0 by rw [HF2.out, if_pos h64])
    have hfb : (callFunc 233 #[.int .u64 9223372036854775808]).run Tryz.prog wx = .ok (.value (.float .f64 9223372036854775808)) wx := run_sfrombits 9223372036854775808 wx
    have ho : bits .or .u64 9223372036854775808 0 = 9223372036854775808 := by rfl
    clear HF2 c0 c1
    go_wp2_with fail
    go_ret2
    exact ⟨⟨.nilIface, by rw [HR.out]; rfl, .inl rfl⟩, HB.out⟩
  · obtain ⟨S, hS⟩ : ∃ S : Nat, SS = (S : Int) := ⟨SS.toNat, by omega⟩
    subst hS
    rw [Int.toNat_natCast] at HF2
    obtain ⟨x, hx⟩ : ∃ x, d * 2 ^ (64 - b) = x := ⟨_, rfl⟩
    rw [hx] at HF2 l3
    obtain ⟨K, hK⟩ : ∃ K : Nat, 64 - b = K := ⟨_, rfl⟩
    rw [hK] at hx
    have w3' : IntKind.i64.wrap (64 - (b : Int)) = (K : Int) := by rw [w3]; omega
    have hsh : IntKind.u64.wrap ((d : Int) * 2 ^ K) = (x : Int) := by
      rw [show (d : Int) * 2 ^ K = (x : Int) by rw [← hx]; push_cast; rfl]
      exact IntWalk.u64_in _ (by omega)
    have HU := Lib.hid (us_any x w9.heap.size (hiT i) (loT i) S l3 (hh i) (hl i) (by omega) wx ⟨c0, c1, c2⟩)
    have hul := usZ_lt x (hiT i) (loT i) S l3 (hh i) (by omega)
    obtain ⟨u, hu⟩ : ∃ u, usZ x (hiT i) (loT i) S = u := ⟨_, rfl⟩
    rw [hu] at HU hul HF2
    have HR := Lib.hid (show F = pkF (pfM u) (-(EE - (pfT u : Nat))) by rw [HF2.out, if_neg h64])
    have hKl : (K : Int) < 64 := by omega
    clear HF2 hu hx w3 c0 c1
    go_upto_region 9 with (first
      | (go_at_call 208; (with_reducible refine HU.out.mono ?_); rintro e w4 ⟨rfl, q, rfl⟩)
      | fail)
    clear HU
    have HB2 := Lib.hid (show Below w9.heap.size w9 (wx.drewN q) from below_drewN HB.out q)
    generalize wx.drewN q = wy at HB2 ⊢
    clear c2 HB
    have ha := and_one u (by omega)
    have hml := pfM_le u hul
    have hvl := (pfV_lt u hul).1
    by_cases hg : 36028797018963966 ≤ u
    · have hge : ((36028797018963966 : Int) ≤ (u : Int)) := by omega
      have ht : pfT u = 1 := by unfold pfT; rw [if_pos hg]
      have hv : pfV u = u / 2 ^ 1 ||| u % 2 := by unfold pfV; rw [ht]
      have ho : bits .or .u64 ((u : Int) / 2) ((u : Int) % 2) = ((pfV u : Nat) : Int) := by
        have := u64_or_nat (u / 2 ^ 1) (u % 2) (by omega) (by omega)
        rw [cast_shr] at this
        rw [hv]; simpa using this
      have hor : bits .or .u64 9223372036854775808 ((pfM u : Nat) : Int) = ((9223372036854775808 + pfM u : Nat) : Int) := or_topn (by omega)
      rw [ht] at HR
      obtain ⟨v, hvv⟩ : ∃ v, pfV u = v := ⟨_, rfl⟩
      have hRn := fun W => round_any v (by omega) W
      have epm : (v + 1 + v / 4 % 2) / 4 = pfM u := by unfold pfM; rw [hvv]
      rw [epm] at hRn
      rw [hvv] at ho
      obtain ⟨m, hm⟩ : ∃ m, pfM u = m := ⟨_, rfl⟩
      rw [hm] at hml HR hor hRn epm
      obtain ⟨M1, hM1⟩ : ∃ M1, 9223372036854775808 + m = M1 := ⟨_, rfl⟩
      rw [hM1] at hor
      have hs1 : IntKind.i64.wrap (EE - 1) = EE - 1 := IntWalk.i64_in _ (by omega)
      have hs2 : IntKind.i64.wrap (-(EE - 1)) = -(EE - 1) := IntWalk.i64_in _ (by omega)
      have HRn := Lib.hid hRn
      have hpk := fun W => pack_m m (-(EE - 1)) hml (by omega) W
      rw [hM1] at hpk
      have HPk := Lib.hid hpk
      clear hpk hM1
      have HR2 := Lib.hid (show F = pkF m (-(EE - 1)) from HR.out)
      clear epm HR hRn hm hvv hv ht hg hml hul
      go_upto_region 10 with (first
        | (go_at_call 213; (with_reducible refine (unmin53 _).mono ?_); rintro e w9 ⟨rfl, rfl⟩)
        | (go_at_call 177; (with_reducible refine (bool2i_any _ _).mono ?_); rintro e w9 ⟨rfl, rfl⟩)
        | fail)
      go_wp2_with (first
        | (go_at_call 212; (with_reducible refine (HRn.out _).mono ?_); rintro e w9 ⟨rfl, rfl⟩)
        | (go_at_call 245; (with_reducible refine (HPk.out _).mono ?_); rintro e w9 ⟨⟨v9, rfl, hv9⟩, rfl⟩)
        | fail)
      all_goals first
        | (exfalso; omega)
        | (go_ret2; exact ⟨⟨_, by rw [HR2.out]; rfl, hv9⟩, HB2.out⟩)
    · have hge : ((u : Int) < 36028797018963966) := by omega
      have ht : pfT u = 0 := by unfold pfT; rw [if_neg hg]
      have hv : pfV u = u / 2 ^ 0 ||| u % 2 := by unfold pfV; rw [ht]
      have ho : bits .or .u64 (u : Int) ((u : Int) % 2) = ((pfV u : Nat) : Int) := by
        have := u64_or_nat (u / 2 ^ 0) (u % 2) (by omega) (by omega)
        rw [cast_shr] at this
        rw [hv]; simpa using this
      have hor : bits .or .u64 9223372036854775808 ((pfM u : Nat) : Int) = ((9223372036854775808 + pfM u : Nat) : Int) := or_topn (by omega)
      rw [ht] at HR
      obtain ⟨v, hvv⟩ : ∃ v, pfV u = v := ⟨_, rfl⟩
      have hRn := fun W => round_any v (by omega) W
      have epm : (v + 1 + v / 4 % 2) / 4 = pfM u := by unfold pfM; rw [hvv]
      rw [epm] at hRn
      rw [hvv] at ho
      obtain ⟨m, hm⟩ : ∃ m, pfM u = m := ⟨_, rfl⟩
      rw [hm] at hml HR hor hRn epm
      obtain ⟨M1, hM1⟩ : ∃ M1, 9223372036854775808 + m = M1 := ⟨_, rfl⟩
      rw [hM1] at hor
      have hs1 : IntKind.i64.wrap EE = EE := IntWalk.i64_in _ (by omega)
      have hs2 : IntKind.i64.wrap (-EE) = -EE := IntWalk.i64_in _ (by omega)
      obtain ⟨NE, hNE⟩ : ∃ NE : Int, -EE = NE := ⟨_, rfl⟩
      have hs3 : IntKind.i64.wrap (-EE) = NE := hs2.trans hNE
      have HRn := Lib.hid hRn
      have hpk := fun W => pack_m m NE hml (by omega) W
      rw [hM1] at hpk
      have HPk := Lib.hid hpk
      clear hpk hM1
      have HR2 := Lib.hid (show F = pkF m NE by rw [← hNE]; have := HR.out; simpa using this)
      clear hs2 hNE
      clear epm HR hRn hm hvv hv ht hg hml hul
      go_upto_region 10 with (first
        | (go_at_call 213; (with_reducible refine (unmin53 _).mono ?_); rintro e w9 ⟨rfl, rfl⟩)
        | (go_at_call 177; (with_reducible refine (bool2i_any _ _).mono ?_); rintro e w9 ⟨rfl, rfl⟩)
        | fail)
      go_upto_region 12 with fail
      clear hs1 ho ha hge
      go_wp2_with (first
        | (go_at_call 212; (with_reducible refine (HRn.out _).mono ?_); rintro e w9 ⟨rfl, rfl⟩)
        | (go_at_call 245; (with_reducible refine (HPk.out _).mono ?_); rintro e w9 ⟨⟨v9, rfl, hv9⟩, rfl⟩)
        | fail)
      all_goals first
        | (exfalso; omega)
        | (go_ret2; exact ⟨⟨_, by rw [HR2.out]; rfl, hv9⟩, HB2.out⟩)
end
section
open Go Go.ChangeShapes Go.WideShapes Go.RowKit Ieee
set_option linter.unusedVariables false
set_option linter.unusedSimpArgs false
/-- A pattern with the sign bit, no NaN's. -/
def FMn (z : Nat) : Prop := ∃ r, r ≤ fIN ∧ z = fSG + r
theorem near_mn (m : Nat) (p : Int) : FMn (double.nearest true m p) := by
  unfold Format.nearest
  by_cases h : m = 0
  · rw [if_pos h]; exact ⟨0, Nat.zero_le _, rfl⟩
  · rw [if_neg h]
    simp only
    rw [in_d]
    have : ∀ x : Nat, FMn (double.word true (min x fIN)) := fun x => ⟨min x fIN, Nat.min_le_right x fIN, rfl⟩
    exact this _
theorem mn_facts {r : Nat} (h : r ≤ fIN) : negB (fSG + r) = true ∧ (fSG + r) % fSG = r ∧ nanB (fSG + r) = false ∧ fSG + r < 18446744073709551616 := by
  have e1 : fSG = 9223372036854775808 := rfl
  have e2 : fIN = 9218868437227405312 := rfl
  have h2 : (fSG + r) % fSG = r := by rw [e1]; omega
  refine ⟨?_, h2, ?_, by omega⟩
  · unfold negB; rw [e1]; simp; omega
  · unfold nanB; rw [h2]; exact decide_eq_false (by omega)
theorem neg_read {r : Nat} (h : r < fIN) : ∃ m p, double.read (fSG + r) = .number true m p := by
  obtain ⟨h1, h2, h3, h4⟩ := mn_facts (Nat.le_of_lt h)
  rcases read_nn h3 with ⟨h5, _⟩ | ⟨_, m, p, h6, _⟩
  · unfold infB at h5; rw [h2] at h5; simp at h5; omega
  · rw [h1] at h6; exact ⟨m, p, h6⟩
theorem mul_mn {r y : Nat} (hx : r < fIN) (hy : y < fIN) : ∃ z, double.mul (fSG + r) y = some z ∧ FMn z := by
  obtain ⟨m, p, h1⟩ := neg_read hx
  obtain ⟨n, q, h2, _⟩ := pos_read hy
  unfold Format.mul
  rw [h1, h2]
  exact ⟨_, rfl, near_mn _ _⟩
theorem div_mn {r y : Nat} (hx : r < fIN) (hy : y < fIN) (h0 : 0 < y) : ∃ z, double.div (fSG + r) y = some z ∧ FMn z := by
  obtain ⟨m, p, h1⟩ := neg_read hx
  obtain ⟨n, q, h2, h3⟩ := pos_read hy
  unfold Format.div
  rw [h1, h2]
  unfold Datum.quotient
  simp only [if_neg (h3 h0)]
  exact ⟨_, rfl, near_mn _ _⟩
theorem gt_mn {r : Nat} (h : r ≤ fIN) : (FloatKind.f64.format.order (fSG + r) 4831355200913801216 == some .gt) = false ∧ (FloatKind.f64.format.order (fSG + r) 14054727237768577024 == some .lt) = decide (4831355200913801216 < r) := by
  obtain ⟨h1, h2, h3, h4⟩ := mn_facts h
  have p1 : placeZ (fSG + r) = -(r : Int) := by unfold placeZ; rw [h1, h2, if_pos rfl]
  have p2 : placeZ 14054727237768577024 = -4831355200913801216 := by decide +kernel
  have p3 : placeZ 4831355200913801216 = 4831355200913801216 := by decide +kernel
  constructor
  · rw [fmt_double, gt_d h3 (by decide +kernel), p1, p3]; exact decide_eq_false (by omega)
  · rw [fmt_double, lt_d h3 (by decide +kernel), p1, p2, decide_eq_decide]; omega
set_option maxRecDepth 100000 in
set_option maxHeartbeats 2000000 in
theorem exm_big (m : Nat) (e : Int) (hm : ¬ m < 4503599627370496) (w : World) (hF : FI w 11 w.heap.size) :
    Calls Tryz.prog 234 #[.int .u64 (m : Int), .int .i64 e, .bool true] w fun r w' => r = .returned (.tuple #[.float .f64 0, .bool false]) ∧ w = w' := by
  have c0 := hF.m
  clear hF
  have hw : ¬ (m : Int) / 4503599627370496 = 0 := by omega
  clear hm
  go_enter Tryz.func234, Tryz.ntmps234
  go_wp2_with fail
  all_goals first
    | (exfalso; omega)
    | (go_ret2; exact ⟨rfl, rfl⟩)
    | (go_ret; exact ⟨rfl, rfl⟩)
set_option maxRecDepth 100000 in
set_option maxHeartbeats 2000000 in
theorem exm_zero (m : Nat) (X : Nat) (hm : m < 4503599627370496) (w : World) (hng : (Op.unary UnOp.neg (.float .f64 (floatOfInt .f64 (m : Int)))).run Tryz.prog w = .ok (.float .f64 X) w) (hF : FI w 11 w.heap.size) :
    Calls Tryz.prog 234 #[.int .u64 (m : Int), .int .i64 0, .bool true] w fun r w' => r = .returned (.tuple #[.float .f64 X, .bool true]) ∧ w = w' := by
  have c0 := hF.m
  clear hF
  have hw : (m : Int) / 4503599627370496 = 0 := by omega
  clear hm
  go_enter Tryz.func234, Tryz.ntmps234
  go_wp2_with fail
  all_goals first
    | (exfalso; omega)
    | (go_ret2; exact ⟨rfl, rfl⟩)
    | (go_ret; exact ⟨rfl, rfl⟩)
set_option maxRecDepth 100000 in
set_option maxHeartbeats 2000000 in
theorem exm_far (m : Nat) (X : Nat) (hm : m < 4503599627370496) (e : Int) (he : e < -22 ∨ 37 < e) (he2 : -1000 ≤ e ∧ e ≤ 1000) (w : World) (hng : (Op.unary UnOp.neg (.float .f64 (floatOfInt .f64 (m : Int)))).run Tryz.prog w = .ok (.float .f64 X) w) (hF : FI w 11 w.heap.size) :
    Calls Tryz.prog 234 #[.int .u64 (m : Int), .int .i64 e, .bool true] w fun r w' => r = .returned (.tuple #[.float .f64 X, .bool false]) ∧ w = w' := by
  have c0 := hF.m
  clear hF
  have hw : (m : Int) / 4503599627370496 = 0 := by omega
  clear hm
  obtain ⟨e1, e2⟩ := he2
  have e3 : ¬ e = 0 := by omega
  go_enter Tryz.func234, Tryz.ntmps234
  go_wp2_with fail
  all_goals first
    | (exfalso; omega)
    | (go_ret2; exact ⟨rfl, rfl⟩)
    | (go_ret; exact ⟨rfl, rfl⟩)
set_option maxRecDepth 100000 in
set_option maxHeartbeats 2000000 in
theorem exm_c0 (m : Nat) (X : Nat) (hm : m < 4503599627370496) (k : Nat) (hk : 0 < k ∧ k ≤ 22) (hg : (FloatKind.f64.format.order X 4831355200913801216 == some .gt) = false) (hl : (FloatKind.f64.format.order X 14054727237768577024 == some .lt) = true) (w : World) (hng : (Op.unary UnOp.neg (.float .f64 (floatOfInt .f64 (m : Int)))).run Tryz.prog w = .ok (.float .f64 X) w) (hF : FI w 11 w.heap.size) :
    Calls Tryz.prog 234 #[.int .u64 (m : Int), .int .i64 ((k : Nat) : Int), .bool true] w fun r w' => r = .returned (.tuple #[.float .f64 X, .bool false]) ∧ w = w' := by
  have c0 := hF.m
  clear hF
  have hw : (m : Int) / 4503599627370496 = 0 := by omega
  clear hm
  have k1 : (0 : Int) < (k : Int) := by omega
  have k2 : (k : Int) ≤ 22 := by omega
  have k3 : ¬ (k : Int) = 0 := by omega
  clear hk
  go_enter Tryz.func234, Tryz.ntmps234
  go_wp2_with fail
  all_goals first
    | (exfalso; omega)
    | (go_ret2; exact ⟨rfl, rfl⟩)
    | (go_ret; exact ⟨rfl, rfl⟩)
set_option maxRecDepth 100000 in
set_option maxHeartbeats 2000000 in
theorem exm_c1 (m : Nat) (X : Nat) (hm : m < 4503599627370496) (k : Nat) (hk : 0 < k ∧ k ≤ 22) (T : Nat → Nat) (z z2 : Nat) (hg : (FloatKind.f64.format.order X 4831355200913801216 == some .gt) = false) (hl : (FloatKind.f64.format.order X 14054727237768577024 == some .lt) = false) (hz : Ieee.double.mul X (T k) = some z) (w : World) (hng : (Op.unary UnOp.neg (.float .f64 (floatOfInt .f64 (m : Int)))).run Tryz.prog w = .ok (.float .f64 X) w) (hT : F10 T w w.heap.size) (hF : FI w 11 w.heap.size) :
    Calls Tryz.prog 234 #[.int .u64 (m : Int), .int .i64 ((k : Nat) : Int), .bool true] w fun r w' => r = .returned (.tuple #[.float .f64 z, .bool true]) ∧ w = w' := by
  have c0 := hF.m
  clear hF
  have hw : (m : Int) / 4503599627370496 = 0 := by omega
  clear hm
  obtain ⟨R, o, c, h1, h2, h3, h4, h5⟩ := hT.ex
  clear hT
  have k1 : (0 : Int) < (k : Int) := by omega
  have k2 : (k : Int) ≤ 22 := by omega
  have k3 : ¬ (k : Int) = 0 := by omega
  have ck := h5 k (by omega)
  have hq : (binOp .mul 88 (.float .f64 X) (.float .f64 (T k))).run Tryz.prog w = .ok (.float .f64 z) w := run_float_arith w .mul 88 .f64 _ _ _ hz
  clear hk
  go_enter Tryz.func234, Tryz.ntmps234
  go_wp2_with fail
  all_goals first
    | (exfalso; omega)
    | (go_ret2; exact ⟨rfl, rfl⟩)
    | (go_ret; exact ⟨rfl, rfl⟩)
set_option maxRecDepth 100000 in
set_option maxHeartbeats 2000000 in
theorem exm_d0 (m : Nat) (X : Nat) (hm : m < 4503599627370496) (k : Nat) (hk : 22 < k ∧ k ≤ 37) (T : Nat → Nat) (z z2 : Nat) (hg : (FloatKind.f64.format.order z 4831355200913801216 == some .gt) = false) (hl : (FloatKind.f64.format.order z 14054727237768577024 == some .lt) = true) (hz : Ieee.double.mul X (T (k - 22)) = some z) (w : World) (hng : (Op.unary UnOp.neg (.float .f64 (floatOfInt .f64 (m : Int)))).run Tryz.prog w = .ok (.float .f64 X) w) (hT : F10 T w w.heap.size) (hF : FI w 11 w.heap.size) :
    Calls Tryz.prog 234 #[.int .u64 (m : Int), .int .i64 ((k : Nat) : Int), .bool true] w fun r w' => r = .returned (.tuple #[.float .f64 z, .bool false]) ∧ w = w' := by
  have c0 := hF.m
  clear hF
  have hw : (m : Int) / 4503599627370496 = 0 := by omega
  clear hm
  obtain ⟨R, o, c, h1, h2, h3, h4, h5⟩ := hT.ex
  clear hT
  obtain ⟨j, hj⟩ : ∃ j, k = 22 + j := ⟨k - 22, by omega⟩
  subst hj
  have k1 : (0 : Int) < ((22 + j : Nat) : Int) := by omega
  have k2 : ((22 + j : Nat) : Int) ≤ 37 := by omega
  have k3 : ¬ ((22 + j : Nat) : Int) = 0 := by omega
  have k4 : (22 : Int) < ((22 + j : Nat) : Int) := by omega
  have hsb : IntKind.i64.wrap (((22 + j : Nat) : Int) - 22) = (j : Int) := by rw [IntWalk.i64_in _ (by omega)]; omega
  have ck := h5 j (by omega)
  rw [show 22 + j - 22 = j by omega] at hz
  have hq : (binOp .mul 88 (.float .f64 X) (.float .f64 (T j))).run Tryz.prog w = .ok (.float .f64 z) w := run_float_arith w .mul 88 .f64 _ _ _ hz
  obtain ⟨kk, hkk⟩ : ∃ kk : Int, ((22 + j : Nat) : Int) = kk := ⟨_, rfl⟩
  rw [hkk] at k1 k2 k3 k4 hsb ⊢
  clear hk
  go_enter Tryz.func234, Tryz.ntmps234
  go_wp2_with fail
  all_goals first
    | (exfalso; omega)
    | (go_ret2; exact ⟨rfl, rfl⟩)
    | (go_ret; exact ⟨rfl, rfl⟩)
set_option maxRecDepth 100000 in
set_option maxHeartbeats 2000000 in
theorem exm_d1 (m : Nat) (X : Nat) (hm : m < 4503599627370496) (k : Nat) (hk : 22 < k ∧ k ≤ 37) (T : Nat → Nat) (z z2 : Nat) (hg : (FloatKind.f64.format.order z 4831355200913801216 == some .gt) = false) (hl : (FloatKind.f64.format.order z 14054727237768577024 == some .lt) = false) (hz : Ieee.double.mul X (T (k - 22)) = some z) (hz2 : Ieee.double.mul z (T 22) = some z2) (w : World) (hng : (Op.unary UnOp.neg (.float .f64 (floatOfInt .f64 (m : Int)))).run Tryz.prog w = .ok (.float .f64 X) w) (hT : F10 T w w.heap.size) (hF : FI w 11 w.heap.size) :
    Calls Tryz.prog 234 #[.int .u64 (m : Int), .int .i64 ((k : Nat) : Int), .bool true] w fun r w' => r = .returned (.tuple #[.float .f64 z2, .bool true]) ∧ w = w' := by
  have c0 := hF.m
  clear hF
  have hw : (m : Int) / 4503599627370496 = 0 := by omega
  clear hm
  obtain ⟨R, o, c, h1, h2, h3, h4, h5⟩ := hT.ex
  clear hT
  obtain ⟨j, hj⟩ : ∃ j, k = 22 + j := ⟨k - 22, by omega⟩
  subst hj
  have k1 : (0 : Int) < ((22 + j : Nat) : Int) := by omega
  have k2 : ((22 + j : Nat) : Int) ≤ 37 := by omega
  have k3 : ¬ ((22 + j : Nat) : Int) = 0 := by omega
  have k4 : (22 : Int) < ((22 + j : Nat) : Int) := by omega
  have hsb : IntKind.i64.wrap (((22 + j : Nat) : Int) - 22) = (j : Int) := by rw [IntWalk.i64_in _ (by omega)]; omega
  have ck := h5 j (by omega)
  rw [show 22 + j - 22 = j by omega] at hz
  have hq : (binOp .mul 88 (.float .f64 X) (.float .f64 (T j))).run Tryz.prog w = .ok (.float .f64 z) w := run_float_arith w .mul 88 .f64 _ _ _ hz
  have hq2 : (binOp .mul 88 (.float .f64 z) (.float .f64 (T 22))).run Tryz.prog w = .ok (.float .f64 z2) w := run_float_arith w .mul 88 .f64 _ _ _ hz2
  have ck2 := h5 22 (by omega)
  obtain ⟨kk, hkk⟩ : ∃ kk : Int, ((22 + j : Nat) : Int) = kk := ⟨_, rfl⟩
  rw [hkk] at k1 k2 k3 k4 hsb ⊢
  clear hk
  go_enter Tryz.func234, Tryz.ntmps234
  go_wp2_with fail
  all_goals first
    | (exfalso; omega)
    | (go_ret2; exact ⟨rfl, rfl⟩)
    | (go_ret; exact ⟨rfl, rfl⟩)
set_option maxRecDepth 100000 in
set_option maxHeartbeats 2000000 in
theorem exm_e1 (m : Nat) (X : Nat) (hm : m < 4503599627370496) (k : Nat) (hk : 0 < k ∧ k ≤ 22) (T : Nat → Nat) (z z2 : Nat) (hz : Ieee.double.div X (T k) = some z) (w : World) (hng : (Op.unary UnOp.neg (.float .f64 (floatOfInt .f64 (m : Int)))).run Tryz.prog w = .ok (.float .f64 X) w) (hT : F10 T w w.heap.size) (hF : FI w 11 w.heap.size) :
    Calls Tryz.prog 234 #[.int .u64 (m : Int), .int .i64 (-((k : Nat) : Int)), .bool true] w fun r w' => r = .returned (.tuple #[.float .f64 z, .bool true]) ∧ w = w' := by
  have c0 := hF.m
  clear hF
  have hw : (m : Int) / 4503599627370496 = 0 := by omega
  clear hm
  obtain ⟨R, o, c, h1, h2, h3, h4, h5⟩ := hT.ex
  clear hT
  have k1 : -(k : Int) < (0 : Int) := by omega
  have k2 : (-22 : Int) ≤ -(k : Int) := by omega
  have k3 : ¬ -(k : Int) = 0 := by omega
  have k4 : ¬ (0 : Int) < -(k : Int) := by omega
  have hsb : IntKind.i64.wrap (-(-(k : Int))) = (k : Int) := by rw [IntWalk.i64_in _ (by omega)]; omega
  have ck := h5 k (by omega)
  have hq : (binOp .quo 88 (.float .f64 X) (.float .f64 (T k))).run Tryz.prog w = .ok (.float .f64 z) w := run_float_arith w .quo 88 .f64 _ _ _ hz
  obtain ⟨kk, hkk⟩ : ∃ kk : Int, -(k : Int) = kk := ⟨_, rfl⟩
  rw [hkk] at k1 k2 k3 k4 hsb ⊢
  clear hk
  go_enter Tryz.func234, Tryz.ntmps234
  go_wp2_with fail
  all_goals first
    | (exfalso; omega)
    | (go_ret2; exact ⟨rfl, rfl⟩)
    | (go_ret; exact ⟨rfl, rfl⟩)
theorem exact_m (T : Nat → Nat) (hT : ∀ k, k < 23 → 0 < T k ∧ T k < fIN) (m : Nat) (e : Int) (he : -1000 ≤ e ∧ e ≤ 1000) :
    ∃ x ok, (ok = true → FMn x) ∧ ∀ w : World, F10 T w w.heap.size → FI w 11 w.heap.size →
      Calls Tryz.prog 234 #[.int .u64 (m : Int), .int .i64 e, .bool true] w fun r w' => r = .returned (.tuple #[.float .f64 x, .bool ok]) ∧ w = w' := by
  by_cases hm : m < 4503599627370496
  · have hf := foi_lt m hm
    have hI : fIN = 9218868437227405312 := rfl
    obtain ⟨r0, hr0⟩ : ∃ r0, floatOfInt .f64 (m : Int) = r0 := ⟨_, rfl⟩
    rw [hr0] at hf
    have hng : ∀ w, (Op.unary UnOp.neg (.float .f64 (floatOfInt .f64 (m : Int)))).run Tryz.prog w = .ok (.float .f64 (fSG + r0)) w := fun w => by
      rw [hr0, run_neg r0 (pos_facts hf).2.2.2 (pos_facts hf).2.2.1 w]
      unfold flipB
      rw [if_pos (show r0 < fSG by have e1 : fSG = 9223372036854775808 := rfl; omega), Nat.add_comm]
    obtain ⟨g1, g2⟩ := gt_mn (Nat.le_of_lt hf)
    by_cases h0 : e = 0
    · subst h0
      exact ⟨_, _, fun _ => ⟨r0, Nat.le_of_lt hf, rfl⟩, fun w h10 hF => exm_zero m _ hm w (hng w) hF⟩
    by_cases h1 : e < -22 ∨ 37 < e
    · exact ⟨_, false, by simp, fun w h10 hF => exm_far m _ hm e h1 he w (hng w) hF⟩
    by_cases h2 : e < 0
    · obtain ⟨k, rfl⟩ : ∃ k : Nat, e = -((k : Nat) : Int) := ⟨e.natAbs, by omega⟩
      obtain ⟨t0, t1⟩ := hT k (by omega)
      obtain ⟨z, hz, hz2⟩ := div_mn hf t1 t0
      exact ⟨z, true, fun _ => hz2, fun w h10 hF => exm_e1 m _ hm k (by omega) T z 0 hz w (hng w) h10 hF⟩
    obtain ⟨k, rfl⟩ : ∃ k : Nat, e = ((k : Nat) : Int) := ⟨e.toNat, by omega⟩
    by_cases h3 : k ≤ 22
    · obtain ⟨t0, t1⟩ := hT k (by omega)
      by_cases h4 : 4831355200913801216 < r0
      · exact ⟨_, false, by simp, fun w h10 hF => exm_c0 m _ hm k (by omega) g1 (by rw [g2]; exact decide_eq_true h4) w (hng w) hF⟩
      · obtain ⟨z, hz, hz2⟩ := mul_mn hf t1
        exact ⟨z, true, fun _ => hz2, fun w h10 hF => exm_c1 m _ hm k (by omega) T z 0 g1 (by rw [g2]; exact decide_eq_false h4) hz w (hng w) h10 hF⟩
    · obtain ⟨t0, t1⟩ := hT (k - 22) (by omega)
      obtain ⟨z, hz, hz2⟩ := mul_mn hf t1
      obtain ⟨rz, hrz, rfl⟩ := hz2
      obtain ⟨k1, k2⟩ := gt_mn hrz
      by_cases h4 : 4831355200913801216 < rz
      · exact ⟨_, false, by simp, fun w h10 hF => exm_d0 m _ hm k (by omega) T _ 0 k1 (by rw [k2]; exact decide_eq_true h4) hz w (hng w) h10 hF⟩
      · obtain ⟨u0, u1⟩ := hT 22 (by omega)
        obtain ⟨z2, hy, hy2⟩ := mul_mn (show rz < fIN by omega) u1
        exact ⟨z2, true, fun _ => hy2, fun w h10 hF => exm_d1 m _ hm k (by omega) T _ z2 k1 (by rw [k2]; exact decide_eq_false h4) hz hy w (hng w) h10 hF⟩
  · exact ⟨_, false, by simp, fun w h10 hF => exm_big m e hm w hF⟩
end
section
open Go Go.ChangeShapes Go.WideShapes Go.RowKit
set_option linter.unusedVariables false
set_option linter.unusedSimpArgs false
theorem fbX_mn (x : DS × Int) : FMn (fbX x true).1 := by
  have hI : fIN = 9218868437227405312 := rfl
  have hW : ∀ r, Ieee.double.word true r = fSG + r := fun r => rfl
  unfold fbX
  by_cases h1 : 1024 ≤ x.2
  · rw [if_pos h1]; exact ⟨fIN, Nat.le_refl _, rfl⟩
  · rw [if_neg h1]
    split
    · split
      · exact ⟨fIN, Nat.le_refl _, rfl⟩
      · exact ⟨_, by omega, hW _⟩
    · split
      · exact ⟨_, by omega, hW _⟩
      · exact ⟨_, by omega, hW _⟩
theorem fba_mn (s : DS) : FMn (fba s true).1 := by
  unfold fba
  split
  · exact ⟨0, Nat.zero_le _, rfl⟩
  · split
    · exact ⟨fIN, Nat.le_refl _, rfl⟩
    · split
      · exact ⟨0, Nat.zero_le _, rfl⟩
      · unfold fb; exact fbX_mn _
/-- What readFloat and special answer at a text. -/
structure RDm (s : ByteArray) (m : Nat) (E : Int) (tr : Bool) : Prop where
  sp : ∀ w, Calls Tryz.prog 223 #[.string s] w fun e w' => e = .returned (.tuple #[.float .f64 0, .int .i64 0, .bool false]) ∧ w = w'
  rd : ∀ w, Calls Tryz.prog 224 #[.string s] w fun e w' => e = .returned (.tuple #[.int .u64 ((m : Nat) : Int), .int .i64 E, .bool true, .bool tr, .bool false, .int .i64 ((s.size : Nat) : Int), .bool true]) ∧ w = w'
  m : m < 10000000000000000000
set_option maxRecDepth 100000 in
set_option maxHeartbeats 2000000 in
theorem am_zero (s : ByteArray) (E : Int) (tr : Bool) (w : World) (hR : RDm s 0 E tr) (ho : w.cell? ⟨9, 0, none⟩ = some (.bool true)) : AtP s 9223372036854775808 w := by
  unfold AtP
  have hsh : IntKind.u64.wrap 9223372036854775808 = 9223372036854775808 := by rfl
  have HR := Lib.hid hR
  clear hR
  have ho0 : bits .or .u64 9223372036854775808 0 = 9223372036854775808 := by rfl
  have hfb : (callFunc 233 #[.int .u64 9223372036854775808]).run Tryz.prog w = .ok (.value (.float .f64 9223372036854775808)) w := run_sfrombits 9223372036854775808 w
  go_enter Tryz.func195, Tryz.ntmps195
  go_wp2_with (first
    | (go_at_call 223; (with_reducible refine (HR.out.sp _).mono ?_); rintro e w9 ⟨rfl, rfl⟩)
    | (go_at_call 224; (with_reducible refine (HR.out.rd _).mono ?_); rintro e w9 ⟨rfl, rfl⟩)
    | (go_at_call 232; (with_reducible refine (bool2u_any _ _).mono ?_); rintro e w9 ⟨rfl, rfl⟩)
    | fail)
  all_goals first
    | (exfalso; omega)
    | (go_ret3; exact ⟨⟨.nilIface, rfl, .inl rfl⟩, Below.refl _ _⟩)
set_option maxRecDepth 100000 in
set_option maxHeartbeats 2000000 in
theorem am_over (s : ByteArray) (m : Nat) (E : Int) (tr : Bool) (w : World) (hR : RDm s m E tr) (ho : w.cell? ⟨9, 0, none⟩ = some (.bool true)) (hm : m ≠ 0) (hE : 310 < E) : AtP s 18442240474082181120 w := by
  unfold AtP
  have hsh : IntKind.u64.wrap 9223372036854775808 = 9223372036854775808 := by rfl
  have HR := Lib.hid hR
  clear hR
  have hm1 : ¬ (m : Int) = 0 := by omega
  have ho0 : bits .or .u64 9223372036854775808 9218868437227405312 = 18442240474082181120 := by rfl
  have hfb : (callFunc 233 #[.int .u64 18442240474082181120]).run Tryz.prog w = .ok (.value (.float .f64 18442240474082181120)) w := run_sfrombits 18442240474082181120 w
  go_enter Tryz.func195, Tryz.ntmps195
  go_wp2_with (first
    | (go_at_call 223; (with_reducible refine (HR.out.sp _).mono ?_); rintro e w9 ⟨rfl, rfl⟩)
    | (go_at_call 224; (with_reducible refine (HR.out.rd _).mono ?_); rintro e w9 ⟨rfl, rfl⟩)
    | (go_at_call 232; (with_reducible refine (bool2u_any _ _).mono ?_); rintro e w9 ⟨rfl, rfl⟩)
    | fail)
  all_goals first
    | (exfalso; omega)
    | (go_ret3; exact ⟨⟨_, rfl, .inr rfl⟩, Below.refl _ _⟩)
set_option maxRecDepth 100000 in
set_option maxHeartbeats 2000000 in
theorem am_under (s : ByteArray) (m : Nat) (E : Int) (tr : Bool) (w : World) (hR : RDm s m E tr) (ho : w.cell? ⟨9, 0, none⟩ = some (.bool true)) (hm : m ≠ 0) (hE : E < -345) : AtP s 9223372036854775808 w := by
  unfold AtP
  have hsh : IntKind.u64.wrap 9223372036854775808 = 9223372036854775808 := by rfl
  have HR := Lib.hid hR
  clear hR
  have hm1 : ¬ (m : Int) = 0 := by omega
  have hE2 : ¬ 310 < E := by omega
  have ho0 : bits .or .u64 9223372036854775808 0 = 9223372036854775808 := by rfl
  have hfb : (callFunc 233 #[.int .u64 9223372036854775808]).run Tryz.prog w = .ok (.value (.float .f64 9223372036854775808)) w := run_sfrombits 9223372036854775808 w
  go_enter Tryz.func195, Tryz.ntmps195
  go_wp2_with (first
    | (go_at_call 223; (with_reducible refine (HR.out.sp _).mono ?_); rintro e w9 ⟨rfl, rfl⟩)
    | (go_at_call 224; (with_reducible refine (HR.out.rd _).mono ?_); rintro e w9 ⟨rfl, rfl⟩)
    | (go_at_call 232; (with_reducible refine (bool2u_any _ _).mono ?_); rintro e w9 ⟨rfl, rfl⟩)
    | fail)
  all_goals first
    | (exfalso; omega)
    | (go_ret3; exact ⟨⟨_, rfl, .inl rfl⟩, Below.refl _ _⟩)
set_option maxRecDepth 100000 in
set_option maxHeartbeats 2000000 in
theorem am_exact (s : ByteArray) (m : Nat) (E : Int) (x : Nat) (w : World) (hR : RDm s m E false) (ho : w.cell? ⟨9, 0, none⟩ = some (.bool true)) (hm : m ≠ 0) (hE : -345 ≤ E ∧ E ≤ 310) (hX : Calls Tryz.prog 234 #[.int .u64 (m : Int), .int .i64 E, .bool true] w fun r w' => r = .returned (.tuple #[.float .f64 x, .bool true]) ∧ w = w') : AtP s x w := by
  unfold AtP
  have hsh : IntKind.u64.wrap 9223372036854775808 = 9223372036854775808 := by rfl
  have HR := Lib.hid hR
  clear hR
  have hm1 : ¬ (m : Int) = 0 := by omega
  have hE2 : ¬ 310 < E := by omega
  have hE3 : ¬ E < -345 := by omega
  clear hE
  have HX := Lib.hid hX
  clear hX
  go_enter Tryz.func195, Tryz.ntmps195
  go_wp2_with (first
    | (go_at_call 223; (with_reducible refine (HR.out.sp _).mono ?_); rintro e w9 ⟨rfl, rfl⟩)
    | (go_at_call 224; (with_reducible refine (HR.out.rd _).mono ?_); rintro e w9 ⟨rfl, rfl⟩)
    | (go_at_call 232; (with_reducible refine (bool2u_any _ _).mono ?_); rintro e w9 ⟨rfl, rfl⟩)
    | (go_at_call 234; (with_reducible refine HX.out.mono ?_); rintro e w9 ⟨rfl, rfl⟩)
    | fail)
  all_goals first
    | (exfalso; omega)
    | (go_ret3; exact ⟨⟨_, rfl, .inl rfl⟩, Below.refl _ _⟩)
set_option maxRecDepth 100000 in
set_option maxHeartbeats 2000000 in
theorem am_pf (s : ByteArray) (m : Nat) (E : Int) (x y : Nat) (w : World) (hR : RDm s m E false) (ho : w.cell? ⟨9, 0, none⟩ = some (.bool true)) (hm : m ≠ 0) (hE : -345 ≤ E ∧ E ≤ 310) (hX : Calls Tryz.prog 234 #[.int .u64 (m : Int), .int .i64 E, .bool true] w fun r w' => r = .returned (.tuple #[.float .f64 x, .bool false]) ∧ w = w') (hP : Calls Tryz.prog 235 #[.int .u64 (m : Int), .int .i64 E, .int .u64 9223372036854775808] w fun r w' => (∃ v, r = .returned (.tuple #[.float .f64 y, v]) ∧ ErrV v) ∧ Below w.heap.size w w') : AtP s y w := by
  unfold AtP
  have hsh : IntKind.u64.wrap 9223372036854775808 = 9223372036854775808 := by rfl
  have HR := Lib.hid hR
  clear hR
  have hm1 : ¬ (m : Int) = 0 := by omega
  have hE2 : ¬ 310 < E := by omega
  have hE3 : ¬ E < -345 := by omega
  clear hE
  have HX := Lib.hid hX
  have HP := Lib.hid hP
  clear hX hP
  go_enter Tryz.func195, Tryz.ntmps195
  go_wp2_with (first
    | (go_at_call 223; (with_reducible refine (HR.out.sp _).mono ?_); rintro e w9 ⟨rfl, rfl⟩)
    | (go_at_call 224; (with_reducible refine (HR.out.rd _).mono ?_); rintro e w9 ⟨rfl, rfl⟩)
    | (go_at_call 232; (with_reducible refine (bool2u_any _ _).mono ?_); rintro e w9 ⟨rfl, rfl⟩)
    | (go_at_call 234; (with_reducible refine HX.out.mono ?_); rintro e w9 ⟨rfl, rfl⟩)
    | (go_at_call 235; (with_reducible refine HP.out.mono ?_); rintro e w4 ⟨⟨v4, rfl, hv4⟩, hb4⟩; have HB4 := Lib.hid hb4; have HV4 := Lib.hid hv4; clear hb4 hv4)
    | fail)
  all_goals first
    | (exfalso; omega)
    | (go_ret3; exact ⟨⟨_, rfl, HV4.out⟩, HB4.out⟩)
set_option maxRecDepth 100000 in
set_option maxHeartbeats 2000000 in
theorem am_eq (s : ByteArray) (m m1 : Nat) (E : Int) (y y1 : Nat) (w : World) (hR : RDm s m E true) (ho : w.cell? ⟨9, 0, none⟩ = some (.bool true)) (hm : m ≠ 0) (hE : -345 ≤ E ∧ E ≤ 310) (hP : Calls Tryz.prog 235 #[.int .u64 (m : Int), .int .i64 E, .int .u64 9223372036854775808] w fun r w' => (∃ v, r = .returned (.tuple #[.float .f64 y, v]) ∧ ErrV v) ∧ Below w.heap.size w w') (hP1 : ∀ W, Below w.heap.size w W → Calls Tryz.prog 235 #[.int .u64 (m1 : Int), .int .i64 E, .int .u64 9223372036854775808] W fun r w' => (∃ v, r = .returned (.tuple #[.float .f64 y1, v]) ∧ ErrV v) ∧ Below W.heap.size W w') (hm1 : m + 1 = m1) (hq : (FloatKind.f64.format.order y y1 == some .eq) = true) : AtP s y w := by
  unfold AtP
  have hsh : IntKind.u64.wrap 9223372036854775808 = 9223372036854775808 := by rfl
  have HR := Lib.hid hR
  clear hR
  have hm0 : ¬ (m : Int) = 0 := by omega
  have hE2 : ¬ 310 < E := by omega
  have hE3 : ¬ E < -345 := by omega
  clear hE
  have hmw : IntKind.u64.wrap ((m : Int) + 1) = (m1 : Int) := by have hmm := HR.out.m; rw [IntWalk.u64_in _ (by omega)]; omega
  have HP := Lib.hid hP
  have HP1 := Lib.hid hP1
  clear hP hP1 hm1
  go_enter Tryz.func195, Tryz.ntmps195
  go_wp2_with (first
    | (go_at_call 223; (with_reducible refine (HR.out.sp _).mono ?_); rintro e w9 ⟨rfl, rfl⟩)
    | (go_at_call 224; (with_reducible refine (HR.out.rd _).mono ?_); rintro e w9 ⟨rfl, rfl⟩)
    | (go_at_call 232; (with_reducible refine (bool2u_any _ _).mono ?_); rintro e w9 ⟨rfl, rfl⟩)
    | (go_at_call 235; (with_reducible refine HP.out.mono ?_); rintro e w4 ⟨⟨v4, rfl, hv4⟩, hb4⟩; have HB4 := Lib.hid hb4; have HV4 := Lib.hid hv4; clear hb4 hv4)
    | (go_at_call 235; (with_reducible refine (HP1.out _ HB4.out).mono ?_); rintro e w5 ⟨⟨v5, rfl, hv5⟩, hb5⟩; have HB5 := Lib.hid (HB4.out.trans (hb5.mono HB4.out.size)); clear hb5 hv5)
    | fail)
  all_goals first
    | (exfalso; omega)
    | (go_ret3; exact ⟨⟨_, rfl, HV4.out⟩, HB5.out⟩)
set_option maxRecDepth 100000 in
set_option maxHeartbeats 2000000 in
theorem am_slow (s : ByteArray) (a p q F : Nat) (ov : Bool) (hz : fba (smZ s a p q) true = (F, ov)) (h : Nm1 s a p q) (hiT loT T : Nat → Nat) (m m1 : Nat) (E : Int) (y y1 : Nat) (w : World) (hR : RDm s m E true) (ho : w.cell? ⟨9, 0, none⟩ = some (.bool true)) (hT : TBL hiT loT T w w.heap.size) (hm : m ≠ 0) (hE : -345 ≤ E ∧ E ≤ 310) (hP : Calls Tryz.prog 235 #[.int .u64 (m : Int), .int .i64 E, .int .u64 9223372036854775808] w fun r w' => (∃ v, r = .returned (.tuple #[.float .f64 y, v]) ∧ ErrV v) ∧ Below w.heap.size w w') (hP1 : ∀ W, Below w.heap.size w W → Calls Tryz.prog 235 #[.int .u64 (m1 : Int), .int .i64 E, .int .u64 9223372036854775808] W fun r w' => (∃ v, r = .returned (.tuple #[.float .f64 y1, v]) ∧ ErrV v) ∧ Below W.heap.size W w') (hm1 : m + 1 = m1) (hq : (FloatKind.f64.format.order y y1 == some .eq) = false) : AtP s F w := by
  unfold AtP
  have hsh : IntKind.u64.wrap 9223372036854775808 = 9223372036854775808 := by rfl
  have HR := Lib.hid hR
  clear hR
  have hm0 : ¬ (m : Int) = 0 := by omega
  have hE2 : ¬ 310 < E := by omega
  have hE3 : ¬ E < -345 := by omega
  clear hE
  have hmw : IntKind.u64.wrap ((m : Int) + 1) = (m1 : Int) := by have hmm := HR.out.m; rw [IntWalk.u64_in _ (by omega)]; omega
  have HP := Lib.hid hP
  have HP1 := Lib.hid hP1
  clear hP hP1 hm1
  go_enter Tryz.func195, Tryz.ntmps195
  go_upto_region 28 with (first
    | (go_at_call 223; (with_reducible refine (HR.out.sp _).mono ?_); rintro e w9 ⟨rfl, rfl⟩)
    | (go_at_call 224; (with_reducible refine (HR.out.rd _).mono ?_); rintro e w9 ⟨rfl, rfl⟩)
    | (go_at_call 232; (with_reducible refine (bool2u_any _ _).mono ?_); rintro e w9 ⟨rfl, rfl⟩)
    | (go_at_call 235; (with_reducible refine HP.out.mono ?_); rintro e w4 ⟨⟨v4, rfl, hv4⟩, hb4⟩; have HB4 := Lib.hid hb4; have HV4 := Lib.hid hv4; clear hb4 hv4)
    | (go_at_call 235; (with_reducible refine (HP1.out _ HB4.out).mono ?_); rintro e w5 ⟨⟨v5, rfl, hv5⟩, hb5⟩; have HB5 := Lib.hid (HB4.out.trans (hb5.mono HB4.out.size)); clear hb5 hv5)
    | fail)
  go_upto_region 29 with fail
  generalize hw6 : w5.alloc _ = w6
  have HB6 := Lib.hid (show Below w.heap.size w w6 by rw [← hw6]; exact HB5.out.alloc HB5.out.size _)
  have HD := Lib.hid (show DM w6 w5.heap.size ⟨0, 0, 0, false⟩ false by rw [← hw6]; exact dm_new w5)
  have HS := Lib.hid (set_m w5.heap.size s a p q h w6 HD.out)
  have hsl : s.extract 0 s.size = s := by simp
  obtain ⟨b, hb⟩ : ∃ b, w5.heap.size = b := ⟨_, rfl⟩
  have hbw : w.heap.size ≤ b := by rw [← hb]; exact HB5.out.size
  rw [hb] at HS ⊢
  have HTT := Lib.hid hT
  have HN := Lib.hid (smZ_nrm h)
  clear hT ho hw6 HD hb h
  have hz2 : ∀ W, DM W b (smZ s a p q) true → TBL hiT loT T W b → Calls Tryz.prog 231 #[.pointer (some ⟨b, 0, none⟩), .pointer (some ⟨11, 0, none⟩)] W fun e w' => e = .returned (.tuple #[.int .u64 ((F : Nat) : Int), .bool ov]) ∧ Below b W w' := fun W hD hT => by
    have := fba_any b _ (smZ s a p q) true W HN.out hD hT.l hT.pw hT.f
    rw [hz] at this
    exact this
  have HF := Lib.hid hz2
  clear hz hz2
  go_upto_region 31 with (first
    | (go_at_call 230; (with_reducible refine HS.out.mono ?_); rintro e w7 ⟨rfl, hd7, hb7⟩; have HD7 := Lib.hid hd7; have HB7 := Lib.hid (HB6.out.trans (hb7.mono hbw)); clear hd7 hb7)
    | fail)
  have HF7 := Lib.hid (HF.out w7 HD7.out ((HTT.out.keep HB7.out).up hbw))
  have hfb : ∀ W, (callFunc 233 #[.int .u64 (F : Int)]).run Tryz.prog W = .ok (.value (.float .f64 F)) W := fun W => run_sfrombits F W
  cases ov
  all_goals
    go_wp2_with (first
      | (go_at_call 231; (with_reducible refine HF7.out.mono ?_); rintro e w8 ⟨rfl, hb8⟩; have HB8 := Lib.hid (HB7.out.trans (hb8.mono hbw)); clear hb8)
      | fail)
    go_ret3
    first
      | exact ⟨⟨_, rfl, .inl rfl⟩, HB8.out⟩
      | exact ⟨⟨_, rfl, .inr rfl⟩, HB8.out⟩
theorem mm_lt {s : ByteArray} {a p q : Nat} (h : Nm1 s a p q) : (qfM s p).m < 10000000000000000000 := by
  have hk := qm_ok h p (Nat.le_refl _)
  exact Nat.lt_of_lt_of_le hk.m (show 10 ^ (qfM s p).nm ≤ 10 ^ 19 from Nat.pow_le_pow_right (by decide) hk.nm)
/-- atof64 of a minus sign and a numeral: a float, no NaN, with the sign bit, always the same. -/
theorem atofm_any {hiT loT T : Nat → Nat} (hf : TBF hiT loT T) (s : ByteArray) (a p q : Nat) (h : Nm1 s a p q) : ∃ F, FMn F ∧ ∀ w, TBL hiT loT T w w.heap.size → AtP s F w := by
  have hR : RDm s (qfM s p).m (expM s p q) (qfM s p).tr := ⟨special_m s a p q h, read_m s a p q h, mm_lt h⟩
  obtain ⟨m, hm⟩ : ∃ m, (qfM s p).m = m := ⟨_, rfl⟩
  obtain ⟨E, hE⟩ : ∃ E, expM s p q = E := ⟨_, rfl⟩
  obtain ⟨tr, htr⟩ : ∃ tr, (qfM s p).tr = tr := ⟨_, rfl⟩
  rw [hm, hE, htr] at hR
  have hml := hR.m
  have z0 : FMn 9223372036854775808 := ⟨0, Nat.zero_le _, rfl⟩
  by_cases h0 : m = 0
  · subst h0
    exact ⟨_, z0, fun w hT => am_zero s E tr w hR hT.o⟩
  by_cases h1 : 310 < E
  · exact ⟨_, ⟨fIN, Nat.le_refl _, rfl⟩, fun w hT => am_over s m E tr w hR hT.o h0 h1⟩
  by_cases h2 : E < -345
  · exact ⟨_, z0, fun w hT => am_under s m E tr w hR hT.o h0 h2⟩
  have hin : -345 ≤ E ∧ E ≤ 310 := ⟨by omega, by omega⟩
  obtain ⟨i, hi⟩ : ∃ i : Nat, (i : Int) - 348 = E := ⟨(E + 348).toNat, by omega⟩
  have hil : i < 696 := by omega
  have hP : ∀ n : Nat, n ≠ 0 → n < 18446744073709551616 → ∃ y, FMn y ∧ ∀ w, PTZ hiT loT w w.heap.size → Calls Tryz.prog 235 #[.int .u64 (n : Int), .int .i64 E, .int .u64 9223372036854775808] w fun r w' => (∃ v, r = .returned (.tuple #[.float .f64 y, v]) ∧ ErrV v) ∧ Below w.heap.size w w' := by
    intro n hn hnl
    refine ⟨9223372036854775808 + pfF (hiT i) (loT i) n E, ⟨_, pfF_le _ _ n E hn hnl (hf.h i) ⟨by omega, by omega⟩, rfl⟩, fun w hT => ?_⟩
    have := pf64_m hiT loT n i hf.h hf.l hn hnl hil w hT
    rw [hi] at this
    exact this
  obtain ⟨y, hy, hyP⟩ := hP m h0 (by omega)
  cases tr with
  | false =>
    obtain ⟨x, ok, hx1, hx2⟩ := exact_m T hf.t m E ⟨by omega, by omega⟩
    cases ok with
    | true => exact ⟨x, hx1 rfl, fun w hT => am_exact s m E x w hR hT.o h0 hin (hx2 w hT.t hT.f)⟩
    | false => exact ⟨y, hy, fun w hT => am_pf s m E x y w hR hT.o h0 hin (hx2 w hT.t hT.f) (hyP w hT.p)⟩
  | true =>
    obtain ⟨y1, hy1, hyP1⟩ := hP (m + 1) (by omega) (by omega)
    have hP1 : ∀ w, TBL hiT loT T w w.heap.size → ∀ W, Below w.heap.size w W → Calls Tryz.prog 235 #[.int .u64 ((m + 1 : Nat) : Int), .int .i64 E, .int .u64 9223372036854775808] W fun r w' => (∃ v, r = .returned (.tuple #[.float .f64 y1, v]) ∧ ErrV v) ∧ Below W.heap.size W w' :=
      fun w hT W hb => hyP1 W ((hT.p.keep hb).up hb.size)
    by_cases hq : (FloatKind.f64.format.order y y1 == some .eq) = true
    · exact ⟨y, hy, fun w hT => am_eq s m (m + 1) E y y1 w hR hT.o h0 hin (hyP w hT.p) (hP1 w hT) rfl hq⟩
    · refine ⟨(fba (smZ s a p q) true).1, fba_mn _, fun w hT => ?_⟩
      exact am_slow s a p q _ (fba (smZ s a p q) true).2 rfl h hiT loT T m (m + 1) E y y1 w hR hT.o hT h0 hin (hyP w hT.p) (hP1 w hT) rfl (by simpa using hq)
/-- strconv.ParseFloat of a minus sign and a numeral. -/
theorem pflm_any {hiT loT T : Nat → Nat} (hf : TBF hiT loT T) (tv : TypeId) (yv : Value) (s : ByteArray) (a p q : Nat) (h : Nm1 s a p q) : ∃ F, FMn F ∧ ∀ w, TBL hiT loT T w w.heap.size → w.cell? ⟨2, 0, none⟩ = some (.iface tv yv) → 2 < w.heap.size →
    Calls Tryz.prog 115 #[.string s, .int .i64 64] w fun r w' => (∃ v, r = .returned (.tuple #[.float .f64 F, v])) ∧ Below w.heap.size w w' := by
  obtain ⟨F, h1, h2⟩ := atofm_any hf s a p q h
  exact ⟨F, h1, fun w hw he hl => pf_any s F h.sz tv yv w (h2 w hw) hl he⟩
end
end Go.Proofs.YtpebnofjcodikaaGreatDoor
