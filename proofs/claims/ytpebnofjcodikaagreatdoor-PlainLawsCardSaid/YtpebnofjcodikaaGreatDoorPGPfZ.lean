/- Numerals as strconv reads them, plainly; special, lower. strconv.readFloat at a numeral. strconv.readFloat at a numeral, walked. -/
import Derived.Test.YtpebnofjcodikaaGreatDoorPGPfY
import Derived.PlainAid
import Derived.Deep.CutBlock
import Derived.Handy
namespace Go.Proofs.YtpebnofjcodikaaGreatDoor
section
open Go Go.ChangeShapes Go.WideShapes Go.RowKit Go.PlainAid
set_option linter.unusedVariables false
set_option linter.unusedSimpArgs false
/-- A numeral: digits as far as a; from there as far as p a point and digits, or nothing; from p on the letter e, a sign or none, digits from q on, or nothing. -/
structure Nml (s : ByteArray) (a p q : Nat) : Prop where
  a1 : 1 ≤ a
  ap : a ≤ p
  pz : p ≤ s.size
  sz : s.size ≤ 1000
  d1 : ∀ i, i < a → 48 ≤ bt s i ∧ bt s i ≤ 57
  pt : a < p → bt s a = 46 ∧ a + 1 < p
  d2 : ∀ i, a < i → i < p → 48 ≤ bt s i ∧ bt s i ≤ 57
  ex : p < s.size → bt s p = 101 ∧ q < s.size ∧ ((q = p + 1 ∧ bt s (p + 1) ≠ 43 ∧ bt s (p + 1) ≠ 45) ∨ (q = p + 2 ∧ (bt s (p + 1) = 43 ∨ bt s (p + 1) = 45)))
  d3 : ∀ i, p < s.size → q ≤ i → i < s.size → 48 ≤ bt s i ∧ bt s i ≤ 57
/-- What is read so far: the first 19 digits, how many digits, how many kept, the point's place, was there a point, was a digit dropped. -/
structure QF where
  m : Nat
  nd : Nat
  nm : Nat
  dp : Int
  dot : Bool
  tr : Bool
def qfS (c : Int) (x : QF) : QF :=
  if c = 46 then { x with dot := true, dp := (x.nd : Int) }
  else if c = 48 ∧ x.nd = 0 then { x with dp := x.dp - 1 }
  else if x.nm < 19 then { x with m := x.m * 10 + (c - 48).toNat, nd := x.nd + 1, nm := x.nm + 1 }
  else { x with nd := x.nd + 1, tr := x.tr || decide (c ≠ 48) }
def qfN (s : ByteArray) : Nat → QF
  | 0 => ⟨0, 0, 0, 0, false, false⟩
  | i + 1 => qfS (bt s i) (qfN s i)
/-- What holds of it. -/
structure QOk (x : QF) (i : Nat) : Prop where
  nd : x.nd ≤ i
  nm : x.nm ≤ 19
  mn : x.nm ≤ x.nd
  m : x.m < 10 ^ x.nm
  d : -(i : Int) ≤ x.dp ∧ x.dp ≤ (i : Int)
theorem QOk.start (s : ByteArray) : QOk (qfN s 0) 0 := ⟨Nat.le_refl _, (show 0 ≤ 19 by decide), Nat.le_refl _, (show 0 < 10 ^ 0 by decide), (show -((0 : Nat) : Int) ≤ 0 ∧ (0 : Int) ≤ ((0 : Nat) : Int) by decide)⟩
theorem QOk.step {c : Int} {x : QF} {i : Nat} (h : QOk x i) (hc : c = 46 ∨ (48 ≤ c ∧ c ≤ 57)) : QOk (qfS c x) (i + 1) := by
  obtain ⟨h1, h2, h3, h4, h5⟩ := h
  unfold qfS
  by_cases c1 : c = 46
  · rw [if_pos c1]; exact ⟨by simp only; omega, h2, h3, h4, by simp only; omega⟩
  · rw [if_neg c1]
    by_cases c2 : c = 48 ∧ x.nd = 0
    · rw [if_pos c2]; exact ⟨by simp only; omega, h2, h3, h4, by simp only; omega⟩
    · rw [if_neg c2]
      by_cases c3 : x.nm < 19
      · rw [if_pos c3]
        refine ⟨by simp only; omega, by simp only; omega, by simp only; omega, ?_, by simp only; omega⟩
        simp only [Nat.pow_succ]
        omega
      · rw [if_neg c3]; exact ⟨by simp only; omega, h2, by simp only; omega, h4, by simp only; omega⟩
theorem Nml.byte {s : ByteArray} {a p q : Nat} (h : Nml s a p q) {i : Nat} (hi : i < p) : bt s i = 46 ∨ (48 ≤ bt s i ∧ bt s i ≤ 57) := by
  by_cases h1 : i < a
  · exact .inr (h.d1 i h1)
  · by_cases h2 : i = a
    · subst h2; exact .inl (h.pt hi).1
    · exact .inr (h.d2 i (by omega) hi)
theorem qf_ok {s : ByteArray} {a p q : Nat} (h : Nml s a p q) : ∀ i, i ≤ p → QOk (qfN s i) i := by
  intro i
  induction i with
  | zero => intro _; exact QOk.start s
  | succ i ih => intro hi; exact (ih (by omega)).step (h.byte (by omega))
/-- Was there a point? -/
theorem qf_dot {s : ByteArray} {a p q : Nat} (h : Nml s a p q) : ∀ i, i ≤ p → (qfN s i).dot = decide (a < i) := by
  intro i
  induction i with
  | zero => intro _; rfl
  | succ i ih =>
    intro hi
    have e : qfN s (i + 1) = qfS (bt s i) (qfN s i) := rfl
    rw [e]
    unfold qfS
    by_cases c1 : bt s i = 46
    · rw [if_pos c1]
      have hia : i = a := by
        by_cases h1 : i < a
        · have := h.d1 i h1; omega
        · by_cases h2 : i = a
          · exact h2
          · have := h.d2 i (by omega) (by omega); omega
      simp only
      rw [eq_comm, decide_eq_true_eq]; omega
    · rw [if_neg c1]
      have hia : i ≠ a := by
        intro hc; subst hc; exact c1 (h.pt (by omega)).1
      have e2 : decide (a < i + 1) = decide (a < i) := by rw [decide_eq_decide]; omega
      rw [e2, ← ih (by omega)]
      by_cases c2 : bt s i = 48 ∧ (qfN s i).nd = 0
      · rw [if_pos c2]
      · rw [if_neg c2]
        by_cases c3 : (qfN s i).nm < 19
        · rw [if_pos c3]
        · rw [if_neg c3]
/-- The exponent, of the digits from q on; no digit counts once it is 10000. -/
def exN (s : ByteArray) (q : Nat) : Nat → Nat
  | 0 => 0
  | k + 1 => if exN s q k < 10000 then exN s q k * 10 + (bt s (q + k) - 48).toNat else exN s q k
theorem ex_lt {s : ByteArray} {q : Nat} : ∀ k, (∀ i, i < k → 48 ≤ bt s (q + i) ∧ bt s (q + i) ≤ 57) → exN s q k < 100000 := by
  intro k
  induction k with
  | zero => intro _; exact (show 0 < 100000 by decide)
  | succ k ih =>
    intro h
    have h1 := ih (fun i hi => h i (by omega))
    have h2 := h k (by omega)
    unfold exN
    split <;> omega
/-- The exponent with its sign. -/
def exZ (s : ByteArray) (p q : Nat) : Int :=
  if p < s.size then (if bt s (p + 1) = 45 then -((exN s q (s.size - q) : Nat) : Int) else ((exN s q (s.size - q) : Nat) : Int)) else 0
/-- Where the point stands at last. -/
def dpZ (s : ByteArray) (p q : Nat) : Int := (if (qfN s p).dot = true then (qfN s p).dp else ((qfN s p).nd : Int)) + exZ s p q
/-- The exponent of the kept digits. -/
def expZ (s : ByteArray) (p q : Nat) : Int := if (qfN s p).m = 0 then 0 else dpZ s p q - ((qfN s p).nm : Int)
set_option maxRecDepth 100000 in
theorem special_any (s : ByteArray) (a p q : Nat) (h : Nml s a p q) (w : World) :
    Calls Tryz.prog 223 #[.string s] w fun e w' => e = .returned (.tuple #[.float .f64 0, .int .i64 0, .bool false]) ∧ w = w' := by
  have hb := get_bt s
  have h0 := h.d1 0 (by have := h.a1; omega)
  have hz : 0 < s.size := by have := h.a1; have := h.ap; have := h.pz; omega
  have hzI : ¬ ((s.size : Nat) : Int) = 0 := by omega
  have hz2 : (s.size == 0) = false := beq_eq_false_iff_ne.2 (by omega)
  obtain ⟨c, hc⟩ : ∃ c, bt s 0 = c := ⟨_, rfl⟩
  rw [hc] at h0
  have HC := Lib.hid hc
  have hb0 : ((s[0]'hz).toNat : Int) = c := by rw [hb 0 hz]; exact hc
  have n1 : ¬ c = 43 := by omega
  have n2 : ¬ c = 45 := by omega
  have n3 : ¬ c = 105 := by omega
  have n4 : ¬ c = 73 := by omega
  have n5 : ¬ c = 110 := by omega
  have n6 : ¬ c = 78 := by omega
  clear hc hb h
  go_enter Tryz.func223, Tryz.ntmps223
  go_wp2_with fail
  go_ret3
  exact ⟨rfl, rfl⟩
end
section
open Go Go.ChangeShapes Go.WideShapes Go.RowKit Go.PlainAid
set_option linter.unusedVariables false
set_option linter.unusedSimpArgs false
theorem low_c {c : Int} (h : c = 46 ∨ c = 101 ∨ (48 ≤ c ∧ c ≤ 57)) : bits .or .u8 c 32 = c := by
  have : c = 46 ∨ c = 101 ∨ c = 48 ∨ c = 49 ∨ c = 50 ∨ c = 51 ∨ c = 52 ∨ c = 53 ∨ c = 54 ∨ c = 55 ∨ c = 56 ∨ c = 57 := by omega
  rcases this with rfl | rfl | rfl | rfl | rfl | rfl | rfl | rfl | rfl | rfl | rfl | rfl <;> rfl
theorem lower_any (c : Int) (h : c = 46 ∨ c = 101 ∨ (48 ≤ c ∧ c ≤ 57)) (w : World) :
    Calls Tryz.prog 128 #[.int .u8 c] w fun e w' => e = .returned (.int .u8 c) ∧ w = w' := by
  have hl := low_c h
  have h0 : (0 : Int) ≤ c := by omega
  have h1 : c ≤ 101 := by omega
  clear h
  go_enter Tryz.func128, Tryz.ntmps128
  go_wp2_with fail
  go_ret
  exact ⟨rfl, rfl⟩
theorem Nml.low {s : ByteArray} {a p q : Nat} (h : Nml s a p q) {i : Nat} (hi : i ≤ p) (hz : i < s.size) : bt s i = 46 ∨ bt s i = 101 ∨ (48 ≤ bt s i ∧ bt s i ≤ 57) := by
  by_cases h1 : i = p
  · subst h1; exact .inr (.inl (h.ex hz).1)
  · rcases h.byte (i := i) (by omega) with h2 | h2
    · exact .inl h2
    · exact .inr (.inr h2)
end
section
open Go Go.ChangeShapes Go.WideShapes Go.RowKit Go.PlainAid
set_option linter.unusedVariables false
set_option linter.unusedSimpArgs false
set_option maxRecDepth 100000 in
set_option maxHeartbeats 4000000 in
theorem rdf_any (s : ByteArray) (a p q : Nat) (h : Nml s a p q) (w : World) :
    Calls Tryz.prog 224 #[.string s] w fun e w' => e = .returned (.tuple #[.int .u64 (((qfN s p).m : Nat) : Int), .int .i64 (expZ s p q), .bool false, .bool (qfN s p).tr, .bool false, .int .i64 ((s.size : Nat) : Int), .bool true]) ∧ w = w' := by
  obtain ⟨EZ, hEZ⟩ : ∃ EZ, expZ s p q = EZ := ⟨_, rfl⟩
  rw [hEZ]
  have HEZ0 := Lib.hid hEZ
  clear hEZ
  have hb := get_bt s
  have HN := Lib.hid h
  have hsz := h.sz
  have hpz := h.pz
  have hap := h.ap
  have ha1 := h.a1
  have hszI : ((s.size : Nat) : Int) ≤ 1000 := by omega
  have h0 := h.d1 0 (by omega)
  have hz : 0 < s.size := by omega
  have hzN : ¬ s.size = 0 := by omega
  have hzB : (s.size == 0) = false := beq_eq_false_iff_ne.2 hzN
  obtain ⟨c0, hc0⟩ : ∃ c0, bt s 0 = c0 := ⟨_, rfl⟩
  rw [hc0] at h0
  have hbz : ((s[0]'hz).toNat : Int) = c0 := by rw [hb 0 hz]; exact hc0
  have n1 : ¬ c0 = 43 := by omega
  have n2 : ¬ c0 = 45 := by omega
  have HB := Lib.hid hb
  have HC0 := Lib.hid hc0
  clear h hb hc0
  go_enter Tryz.func224, Tryz.ntmps224
  go_wp2_with fail
  go_step3
  go_upto_region 12 with fail
  clear n1 n2
  go_cut [54] from 25 to 54 (fun b wx => b = .bool false ∧ w = wx)
  case first =>
    by_cases h2 : 2 < s.size
    · have h2I : (2 : Int) < ((s.size : Nat) : Int) := by omega
      by_cases h48 : c0 = 48
      · have hl := HN.out.low (i := 1) (by omega) (by omega)
        obtain ⟨c1, hc1⟩ : ∃ c1, bt s 1 = c1 := ⟨_, rfl⟩
        have hb1 : ((s[1]'(by omega)).toNat : Int) = c1 := by rw [HB.out 1 (by omega)]; exact hc1
        rw [hc1] at hl
        have HL := Lib.hid (lower_any c1 hl)
        have n1 : (c1 == 120) = false := beq_eq_false_iff_ne.2 (by omega)
        clear hl hc1
        go_wp2_with (first
          | (go_at_call 128; (with_reducible refine (HL.out _).mono ?_); rintro e w9 ⟨rfl, rfl⟩)
          | fail)
        go_meet
        exact ⟨rfl, rfl⟩
      · go_wp2_with fail
        go_meet
        exact ⟨rfl, rfl⟩
    · have h2I : ¬ (2 : Int) < ((s.size : Nat) : Int) := by omega
      go_wp2_with fail
      go_meet
      exact ⟨rfl, rfl⟩
  case rest =>
    obtain ⟨rfl, rfl⟩ := hcut
    clear hbz
    go_wp2_with fail
    go_step3
    go_upto_block 1 with fail
    go_cut [2, 5, 7, 9, 13, 14, 15, 16, 17, 18] from 57 to 138 (fun s2 s5 s7 s9 s13 s14 s15 s16 s17 s18 wx => s2 = .int .u64 (((qfN s p).m : Nat) : Int) ∧ s5 = .bool (qfN s p).tr ∧ s7 = .int .i64 (p : Int) ∧ s9 = .bool false ∧ s13 = .bool (qfN s p).dot ∧ s14 = .bool true ∧ s15 = .int .i64 (((qfN s p).nd : Nat) : Int) ∧ s16 = .int .i64 (((qfN s p).nm : Nat) : Int) ∧ s17 = .int .i64 (qfN s p).dp ∧ w = wx)
    case first =>
      go_wp2_with fail
      go_loopw [2, 5, 7, 9, 13, 14, 15, 16, 17] (fun s2 s5 s7 s9 s13 s14 s15 s16 s17 wr => ∃ i : Nat, s2 = .int .u64 (((qfN s i).m : Nat) : Int) ∧ s5 = .bool (qfN s i).tr ∧ s7 = .int .i64 (i : Int) ∧ s9 = .bool false ∧ s13 = .bool (qfN s i).dot ∧ s14 = .bool (decide (0 < i)) ∧ s15 = .int .i64 (((qfN s i).nd : Nat) : Int) ∧ s16 = .int .i64 (((qfN s i).nm : Nat) : Int) ∧ s17 = .int .i64 (qfN s i).dp ∧ i ≤ p ∧ w = wr) (fun s2 s5 s7 s9 s13 s14 s15 s16 s17 wr => (1000 - RowKit.intOf s7).toNat)
      case atStart => exact ⟨0, rfl, rfl, rfl, rfl, rfl, rfl, rfl, rfl, rfl, by omega, rfl⟩
      case round =>
        obtain ⟨i, rfl, rfl, rfl, rfl, rfl, rfl, rfl, rfl, rfl, hip, rfl⟩ := hrel
        have hq := qf_ok HN.out i hip
        have hdot := qf_dot HN.out i hip
        by_cases hlt : i < p
        · have hby := HN.out.byte hlt
          have hst : qfN s (i + 1) = qfS (bt s i) (qfN s i) := rfl
          obtain ⟨x, hx⟩ : ∃ x, qfN s i = x := ⟨_, rfl⟩
          obtain ⟨c, hc⟩ : ∃ c, bt s i = c := ⟨_, rfl⟩
          have hbi : ((s[i]'(by omega)).toNat : Int) = c := by rw [HB.out i (by omega)]; exact hc
          rw [hx] at hq hdot hst ⊢
          rw [hc] at hby hst
          obtain ⟨m, nd, nm, dp, dot, tr⟩ := x
          obtain ⟨q1, q2, q3, q4, q5⟩ := hq
          simp only at q1 q2 q3 q4 q5 hdot ⊢
          obtain ⟨q5, q6⟩ := q5
          have hizI : (i : Int) < ((s.size : Nat) : Int) := by omega
          have hiz : i < s.size := by omega
          have HST := Lib.hid hst
          have HX := Lib.hid hx
          have HCC := Lib.hid hc
          have hmc : 46 ≤ c ∧ c ≤ 57 := by omega
          obtain ⟨hm1, hm2⟩ := hmc
          have z1 : (c == 95) = false := beq_eq_false_iff_ne.2 (by omega)
          clear hst hx hc
          by_cases c46 : c = 46
          · have hdf : dot = false := by
              rw [hdot]
              have hcc := HCC.out
              by_cases h1 : i < a
              · have := HN.out.d1 i h1; omega
              · by_cases h2 : i = a
                · exact decide_eq_false (by omega)
                · have := HN.out.d2 i (by omega) hlt; omega
            have hia : 0 < i := by
              by_cases h1 : i < a
              · have := HN.out.d1 i h1; have := HCC.out; omega
              · omega
            have hiaB : decide (0 < i) = true := decide_eq_true hia
            have hE := Lib.hid (show qfN s (i + 1) = ⟨m, nd, nm, (nd : Int), true, tr⟩ by rw [HST.out]; unfold qfS; rw [if_pos c46])
            subst hdf
            subst c46
            clear hdot hby q4
            go_wp2_with fail
            exact ⟨⟨i + 1, by rw [hE.out], by rw [hE.out], by congr 1, rfl, by rw [hE.out], by simp [hia], by rw [hE.out], by rw [hE.out], by rw [hE.out], by omega, trivial⟩, by simp only [RowKit.intOf]; omega⟩
          · obtain ⟨d, hd⟩ : ∃ d : Nat, c = 48 + (d : Int) := ⟨(c - 48).toNat, by omega⟩
            have hd9 : d ≤ 9 := by omega
            have h46 : (c == 46) = false := beq_eq_false_iff_ne.2 c46
            have h48 : (48 : Int) ≤ c := by omega
            by_cases c48 : c = 48 ∧ nd = 0
            · obtain ⟨c48a, c48b⟩ := c48
              have hE := Lib.hid (show qfN s (i + 1) = ⟨m, nd, nm, dp - 1, dot, tr⟩ by rw [HST.out]; unfold qfS; rw [if_neg c46, if_pos ⟨c48a, c48b⟩])
              have H1 := Lib.hid (show IntKind.i64.wrap (dp - 1) = dp - 1 from IntWalk.i64_in _ (by omega))
              subst c48a
              subst c48b
              clear hdot hby q4 c46 hd h46
              go_upto_region 35 with fail
              have h1 := H1.out
              go_wp2_with fail
              exact ⟨⟨i + 1, by rw [hE.out], by rw [hE.out], by congr 1, rfl, by rw [hE.out], by simp, by rw [hE.out] <;> rfl, by rw [hE.out], by rw [hE.out], by omega, trivial⟩, by simp only [RowKit.intOf]; omega⟩
            · have hndc : (c ≠ 48) ∨ (c = 48 ∧ nd ≠ 0) := by omega
              by_cases c19 : nm < 19
              · have hE := Lib.hid (show qfN s (i + 1) = ⟨m * 10 + d, nd + 1, nm + 1, dp, dot, tr⟩ by rw [HST.out]; unfold qfS; rw [if_neg c46, if_neg c48, if_pos c19, show (c - 48).toNat = d by omega])
                have hmb : m < 1000000000000000000 := Nat.lt_of_lt_of_le q4 (Nat.le_trans (Nat.pow_le_pow_right (by decide) (show nm ≤ 18 by omega)) (by decide))
                obtain ⟨m10, hm10⟩ : ∃ m10, m * 10 = m10 := ⟨_, rfl⟩
                have H1 := Lib.hid (show IntKind.u64.wrap ((m : Int) * 10) = (m10 : Int) by rw [IntWalk.u64_in _ (by omega)]; omega)
                have H2 := Lib.hid (show IntKind.u8.wrap (c - 48) = (d : Int) by rw [IntWalk.u8_in _ (by omega)]; omega)
                have H3 := Lib.hid (show IntKind.u64.wrap ((m10 : Int) + (d : Int)) = ((m * 10 + d : Nat) : Int) by rw [IntWalk.u64_in _ (by omega)]; omega)
                have H3b := Lib.hid (show c = 48 → IntKind.u64.wrap (m10 : Int) = ((m * 10 + d : Nat) : Int) by intro hc; rw [IntWalk.u64_in _ (by omega)]; omega)
                have hd9I : (d : Int) ≤ 9 := by omega
                have c19I : (nm : Int) < 19 := by omega
                have hndI : (nd : Int) ≤ 1000 := by omega
                clear hdot hby q4 c46 hd c48 c19 hm10 hmb
                rcases hndc with h48n | ⟨h48n, hnd0⟩
                · have z2 : (c == 48) = false := beq_eq_false_iff_ne.2 h48n
                  go_upto_region 38 with fail
                  have h1 := H1.out
                  have h2 := H2.out
                  have h3 := H3.out
                  go_wp2_with fail
                  exact ⟨⟨i + 1, by rw [hE.out] <;> simp, by rw [hE.out], by congr 1, rfl, by rw [hE.out], by simp, by rw [hE.out] <;> rfl, by rw [hE.out] <;> rfl, by rw [hE.out], by omega, trivial⟩, by simp only [RowKit.intOf]; omega⟩
                · have z2 : ((nd : Int) == 0) = false := by simp; omega
                  subst h48n
                  go_upto_region 38 with fail
                  have h1 := H1.out
                  have h2 := H2.out
                  have h3 := H3b.out rfl
                  go_wp2_with fail
                  exact ⟨⟨i + 1, by rw [hE.out] <;> simp, by rw [hE.out], by congr 1, rfl, by rw [hE.out], by simp, by rw [hE.out] <;> rfl, by rw [hE.out] <;> rfl, by rw [hE.out], by omega, trivial⟩, by simp only [RowKit.intOf]; omega⟩
              · have hE := Lib.hid (show qfN s (i + 1) = ⟨m, nd + 1, nm, dp, dot, tr || decide (c ≠ 48)⟩ by rw [HST.out]; unfold qfS; rw [if_neg c46, if_neg c48, if_neg c19])
                have c19I : ¬ (nm : Int) < 19 := by omega
                have hndI : (nd : Int) ≤ 1000 := by omega
                clear hdot hby q4 c46 hd c48 c19
                rcases hndc with h48n | ⟨h48n, hnd0⟩
                · have z2 : (c == 48) = false := beq_eq_false_iff_ne.2 h48n
                  have HT := Lib.hid (show (tr || decide (c ≠ 48)) = true by rw [decide_eq_true h48n, Bool.or_true])
                  go_wp2_with fail
                  exact ⟨⟨i + 1, by rw [hE.out], by rw [hE.out, HT.out], by congr 1, rfl, by rw [hE.out], by simp, by rw [hE.out] <;> rfl, by rw [hE.out], by rw [hE.out], by omega, trivial⟩, by simp only [RowKit.intOf]; omega⟩
                · have z2 : ((nd : Int) == 0) = false := by simp; omega
                  have HT := Lib.hid (show (tr || decide (c ≠ 48)) = tr by rw [h48n]; simp)
                  subst h48n
                  go_wp2_with fail
                  exact ⟨⟨i + 1, by rw [hE.out], by rw [hE.out, HT.out], by congr 1, rfl, by rw [hE.out], by simp, by rw [hE.out] <;> rfl, by rw [hE.out], by rw [hE.out], by omega, trivial⟩, by simp only [RowKit.intOf]; omega⟩
        · obtain rfl : i = p := by omega
          have hi0 : decide (0 < i) = true := decide_eq_true (by omega)
          rw [hi0]
          obtain ⟨x, hx⟩ : ∃ x, qfN s i = x := ⟨_, rfl⟩
          rw [hx]
          have HX := Lib.hid hx
          clear hq hdot hlt hi0 hx
          by_cases hz : i < s.size
          · have h101 := (HN.out.ex hz).1
            have hizI : (i : Int) < ((s.size : Nat) : Int) := by omega
            have hbi : ((s[i]'hz).toNat : Int) = 101 := by rw [HB.out i hz]; exact h101
            clear h101
            go_wp2_with fail
            go_meet
            exact ⟨by rw [HX.out], by rw [HX.out], rfl, rfl, by rw [HX.out], rfl, by rw [HX.out], by rw [HX.out], by rw [HX.out], rfl⟩
          · have hizI : ¬ (i : Int) < ((s.size : Nat) : Int) := by omega
            go_wp2_with fail
            go_meet
            exact ⟨by rw [HX.out], by rw [HX.out], rfl, rfl, by rw [HX.out], rfl, by rw [HX.out], by rw [HX.out], by rw [HX.out], rfl⟩
    case rest =>
      obtain ⟨rfl, rfl, rfl, rfl, rfl, rfl, rfl, rfl, rfl, rfl⟩ := hcut
      have hq := qf_ok HN.out p (Nat.le_refl _)
      obtain ⟨x, hx⟩ : ∃ x, qfN s p = x := ⟨_, rfl⟩
      have HEZ := Lib.hid (show expZ s p q = if x.m = 0 then 0 else ((if x.dot = true then x.dp else ((x.nd : Nat) : Int)) + exZ s p q - ((x.nm : Nat) : Int)) by unfold expZ dpZ; rw [hx])
      have HX := Lib.hid hx
      rw [hx] at hq ⊢
      rw [HEZ0.out] at HEZ
      obtain ⟨m, nd, nm, dp, dot, tr⟩ := x
      obtain ⟨q1, q2, q3, q4, q5, q6⟩ := hq
      simp only at q1 q2 q3 q4 q5 q6 HEZ ⊢
      obtain ⟨D, hD⟩ : ∃ D : Int, (if dot = true then dp else ((nd : Nat) : Int)) = D := ⟨_, rfl⟩
      rw [hD] at HEZ
      have hDb : -1000 ≤ D ∧ D ≤ 1000 := by rw [← hD]; split <;> omega
      obtain ⟨hD1, hD2⟩ := hDb
      have HDD := Lib.hid hD
      have hnmI : (nm : Int) ≤ 19 := by omega
      clear hx hD q4
      go_upto_if 142 with fail
      go_cut [17] from 141 to 143 (fun s17 wx => s17 = .int .i64 D ∧ w = wx)
      case first =>
        cases dot with
        | true =>
          have hd : dp = D := by simpa using HDD.out
          subst hd
          go_wp2_with fail
          go_meet
          exact ⟨rfl, rfl⟩
        | false =>
          have hd := Lib.hid (show ((nd : Nat) : Int) = D by simpa using HDD.out)
          go_wp2_with fail
          go_meet
          exact ⟨by rw [← hd.out], rfl⟩
      case rest =>
        obtain ⟨rfl, rfl⟩ := hcut
        go_upto_region 57 with fail
        go_cut [161] from 150 to 161 (fun s161 wx => s161 = .bool (decide (p < s.size)) ∧ w = wx)
        case first =>
          by_cases hz : p < s.size
          · have e1 := (HN.out.ex hz).1
            have hizI : (p : Int) < ((s.size : Nat) : Int) := by omega
            have hbi : ((s[p]'hz).toNat : Int) = 101 := by rw [HB.out p hz]; exact e1
            have HL := Lib.hid (lower_any 101 (by omega))
            have HT := Lib.hid (decide_eq_true hz)
            clear e1
            go_wp2_with (first
              | (go_at_call 128; (with_reducible refine (HL.out _).mono ?_); rintro e w9 ⟨rfl, rfl⟩)
              | fail)
            go_meet
            exact ⟨by rw [HT.out], rfl⟩
          · have hizI : ¬ (p : Int) < ((s.size : Nat) : Int) := by omega
            have HT := Lib.hid (decide_eq_false hz)
            go_wp2_with fail
            go_meet
            exact ⟨by rw [HT.out], rfl⟩
        case rest =>
         obtain ⟨rfl, rfl⟩ := hcut
         go_upto_if 161 with fail
         go_cut [7, 9, 17, 19, 20] from 161 to 239 (fun s7 s9 s17 s19 s20 wx => s7 = .int .i64 ((s.size : Nat) : Int) ∧ s9 = .bool false ∧ s17 = .int .i64 (D + exZ s p q) ∧ w = wx)
         case first =>
          by_cases hz : p < s.size
          · have hzB2 : decide (p < s.size) = true := decide_eq_true hz
            have h101 := HN.out.ex hz
            obtain ⟨e1, e2, e3⟩ := h101
            have hizI : (p : Int) < ((s.size : Nat) : Int) := by omega
            obtain ⟨c1, hc1⟩ : ∃ c1, bt s (p + 1) = c1 := ⟨_, rfl⟩
            have hp1 : p + 1 < s.size := by omega
            have hp1I : ¬ ((s.size : Nat) : Int) ≤ (p : Int) + 1 := by omega
            have hb1 : ((s[p + 1]'hp1).toNat : Int) = c1 := by rw [HB.out (p + 1) hp1]; exact hc1
            obtain ⟨sg, hsg⟩ : ∃ sg : Int, sg = if c1 = 45 then -1 else 1 := ⟨_, rfl⟩
            have hXZ : exZ s p q = ((exN s q (s.size - q) : Nat) : Int) * sg := by
              unfold exZ; rw [if_pos hz, hc1, hsg]
              by_cases h45 : c1 = 45
              · rw [if_pos h45, if_pos h45]; omega
              · rw [if_neg h45, if_neg h45]; omega
            have hsg2 : sg = 1 ∨ sg = -1 := by rw [hsg]; split <;> omega
            rw [hc1] at e3
            have HSG := Lib.hid hsg
            have HE3 := Lib.hid e3
            have HXZ := Lib.hid hXZ
            have hqz : q < s.size := e2
            have hpq : p < q := by omega
            have hqI : (q : Int) < ((s.size : Nat) : Int) := by omega
            have hex := Lib.hid (ex_lt (s := s) (q := q) (s.size - q) (fun i hi => HN.out.d3 (q + i) hz (by omega) (by omega)))
            have HD3 := Lib.hid (fun i (h1 : q ≤ i) (h2 : i < s.size) => HN.out.d3 i hz h1 h2)
            clear hc1 e3 e1 e2 hsg hXZ
            go_upto_block 4 with fail
            clear hzB2
            go_cut [7, 19] from 161 to 178 (fun s7 s19 wx => s7 = .int .i64 (q : Int) ∧ s19 = .int .i64 sg ∧ w = wx)
            case first =>
              rcases HE3.out with ⟨hq, h43, h45⟩ | ⟨hq, h43 | h45⟩
              · have z1 : (c1 == 43) = false := beq_eq_false_iff_ne.2 h43
                have z2 : (c1 == 45) = false := beq_eq_false_iff_ne.2 h45
                have hs1 := Lib.hid (show sg = 1 by rw [HSG.out, if_neg h45])
                have hq2 := Lib.hid (show (p : Int) + 1 = (q : Int) by omega)
                clear hq h43 h45
                go_wp2_with fail
                go_meet
                exact ⟨by rw [← hq2.out], by rw [hs1.out], rfl⟩
              · have hs1 := Lib.hid (show sg = 1 by rw [HSG.out, if_neg (by omega)])
                have hq2 := Lib.hid (show (p : Int) + 1 + 1 = (q : Int) by omega)
                subst h43
                clear hq
                go_wp2_with fail
                go_meet
                exact ⟨by rw [← hq2.out], by rw [hs1.out], rfl⟩
              · have hs1 := Lib.hid (show sg = -1 by rw [HSG.out, if_pos h45])
                have hq2 := Lib.hid (show (p : Int) + 1 + 1 = (q : Int) by omega)
                subst h45
                clear hq
                go_wp2_with fail
                go_meet
                exact ⟨by rw [← hq2.out], by rw [hs1.out], rfl⟩
            case rest =>
              obtain ⟨rfl, rfl, rfl⟩ := hcut
              obtain ⟨c2, hc2⟩ : ∃ c2, bt s q = c2 := ⟨_, rfl⟩
              have hd2 := HD3.out q (Nat.le_refl _) hqz
              rw [hc2] at hd2
              have hb2 : ((s[q]'hqz).toNat : Int) = c2 := by rw [HB.out q hqz]; exact hc2
              have z1 : decide (c2 < 48) = false := decide_eq_false (by omega)
              have z2 : decide (57 < c2) = false := decide_eq_false (by omega)
              clear hc2 hd2 hb1
              go_upto_region 68 with fail
              clear z1 z2 hb2
              go_wp2_with fail
              go_loopw [7, 9, 20] (fun s7 s9 s20 wr => ∃ k : Nat, s7 = .int .i64 ((q + k : Nat) : Int) ∧ s9 = .bool false ∧ s20 = .int .i64 ((exN s q k : Nat) : Int) ∧ q + k ≤ s.size ∧ w = wr) (fun s7 s9 s20 wr => (1001 - RowKit.intOf s7).toNat)
              case atStart => exact ⟨0, by simp, rfl, rfl, by omega, rfl⟩
              case round =>
                obtain ⟨k, rfl, rfl, rfl, hk, rfl⟩ := hrel
                obtain ⟨Q, hQ⟩ : ∃ Q, q + k = Q := ⟨_, rfl⟩
                have HQ := Lib.hid hQ
                have hel := ex_lt (s := s) (q := q) k (fun i hi => HD3.out (q + i) (by omega) (by omega))
                have hst : exN s q (k + 1) = if exN s q k < 10000 then exN s q k * 10 + (bt s (q + k) - 48).toNat else exN s q k := rfl
                rw [hQ] at hk hst ⊢
                obtain ⟨e, he⟩ : ∃ e, exN s q k = e := ⟨_, rfl⟩
                rw [he] at hel hst ⊢
                by_cases hlt : Q < s.size
                · have hltI : (Q : Int) < ((s.size : Nat) : Int) := by omega
                  have hd := HD3.out Q (by omega) hlt
                  obtain ⟨c, hc⟩ : ∃ c, bt s Q = c := ⟨_, rfl⟩
                  rw [hc] at hd hst
                  have hbi : ((s[Q]'hlt).toNat : Int) = c := by rw [HB.out Q hlt]; exact hc
                  have z1 : decide (48 ≤ c) = true := decide_eq_true (by omega)
                  have z2 : decide (c ≤ 57) = true := decide_eq_true (by omega)
                  have z3 : (c == 95) = false := beq_eq_false_iff_ne.2 (by omega)
                  have HK := Lib.hid (show q + (k + 1) = Q + 1 by omega)
                  have hs0 : (0 : Int) ≤ (e : Int) := by omega
                  by_cases h4 : e < 10000
                  · have h4I : (e : Int) < 10000 := by omega
                    rw [if_pos h4] at hst
                    obtain ⟨E2, hE2⟩ : ∃ E2, e * 10 + (c - 48).toNat = E2 := ⟨_, rfl⟩
                    rw [hE2] at hst
                    have HST := Lib.hid hst
                    have H1 := Lib.hid (show IntKind.i64.wrap ((e : Int) * 10 + c - 48) = (E2 : Int) by rw [IntWalk.i64_in _ (by omega)]; omega)
                    obtain ⟨hd1, hd2⟩ := hd
                    clear hE2
                    clear hst hel hQ he hc h4
                    go_upto_region 74 with fail
                    have h1 := H1.out
                    go_wp2_with fail
                    exact ⟨⟨k + 1, by rw [HK.out]; congr 1, rfl, by rw [HST.out], by have := HQ.out; omega, trivial⟩, by have := HQ.out; simp only [RowKit.intOf]; omega⟩
                  · have h4I : ¬ (e : Int) < 10000 := by omega
                    rw [if_neg h4] at hst
                    have HST := Lib.hid hst
                    clear hst hel hQ he hc h4
                    go_wp2_with fail
                    exact ⟨⟨k + 1, by rw [HK.out]; congr 1, rfl, by rw [HST.out], by have := HQ.out; omega, trivial⟩, by have := HQ.out; simp only [RowKit.intOf]; omega⟩
                · have hltI : ¬ (Q : Int) < ((s.size : Nat) : Int) := by omega
                  have HXE := Lib.hid (show exZ s p q = (e : Int) * sg by rw [HXZ.out, show s.size - q = k by omega, he])
                  have hQz := Lib.hid (show (Q : Int) = ((s.size : Nat) : Int) by omega)
                  obtain ⟨X, hX⟩ : ∃ X, (e : Int) * sg = X := ⟨_, rfl⟩
                  have hXb : -100000 ≤ X ∧ X ≤ 100000 := by rw [← hX]; rcases hsg2 with h | h <;> rw [h] <;> omega
                  have H1 := Lib.hid (show IntKind.i64.wrap ((e : Int) * sg) = X by rw [hX]; exact IntWalk.i64_in _ (by omega))
                  have H2 := Lib.hid (show IntKind.i64.wrap (D + X) = D + exZ s p q by rw [IntWalk.i64_in _ (by omega), HXE.out, hX])
                  clear hst hel hQ he hX hsg2 hXb
                  go_upto_region 75 with fail
                  have h1 := H1.out
                  have h2 := H2.out
                  go_wp2_with fail
                  go_meet
                  exact ⟨by rw [hQz.out], rfl, rfl, rfl⟩
          · have hizI : ¬ (p : Int) < ((s.size : Nat) : Int) := by omega
            have hpz2 := Lib.hid (show (p : Int) = ((s.size : Nat) : Int) by omega)
            have hXZ := Lib.hid (show D + exZ s p q = D by unfold exZ; rw [if_neg hz, Int.add_zero])
            have hzB2 : decide (p < s.size) = false := decide_eq_false hz
            clear hz
            go_wp2_with fail
            go_meet
            exact ⟨by rw [hpz2.out], rfl, by rw [hXZ.out], rfl⟩
         case rest =>
          obtain ⟨rfl, rfl, rfl, rfl⟩ := hcut
          obtain ⟨Z, hZ⟩ : ∃ Z : Int, D + exZ s p q = Z := ⟨_, rfl⟩
          rw [hZ] at HEZ ⊢
          by_cases hm0 : m = 0
          · have hE := Lib.hid (show EZ = 0 by rw [HEZ.out, if_pos hm0])
            have hmB : ((m : Int) == 0) = true := by simp; omega
            have HM0 := Lib.hid hm0
            clear hZ hm0
            go_wp2_with fail
            rw [Exit.noGoto_ret]
            refine bodyPost_ret (by simp [results, Tryz.results224, go_sem]; try rfl) rfl ?_
            exact ⟨by rw [hE.out, HX.out], rfl⟩
          · have hE := Lib.hid (show EZ = Z - ((nm : Nat) : Int) by rw [HEZ.out, if_neg hm0])
            have hmB : ((m : Int) == 0) = false := by simp; omega
            have hZb : -200000 ≤ Z ∧ Z ≤ 200000 := by
              have hzz : -100000 ≤ exZ s p q ∧ exZ s p q ≤ 100000 := by
                unfold exZ
                by_cases hz : p < s.size
                · have := ex_lt (s := s) (q := q) (s.size - q) (fun i hi => HN.out.d3 (q + i) hz (by omega) (by omega))
                  rw [if_pos hz]; split <;> omega
                · rw [if_neg hz]; omega
              omega
            obtain ⟨hZ1, hZ2⟩ := hZb
            have H1 := Lib.hid (show IntKind.i64.wrap (Z - (nm : Int)) = EZ by rw [IntWalk.i64_in _ (by omega), hE.out])
            clear hZ hm0
            go_upto_region 78 with fail
            have h1 := H1.out
            go_wp2_with fail
            rw [Exit.noGoto_ret]
            refine bodyPost_ret (by simp [results, Tryz.results224, go_sem]; try rfl) rfl ?_
            exact ⟨by rw [HX.out], rfl⟩
end
end Go.Proofs.YtpebnofjcodikaaGreatDoor
