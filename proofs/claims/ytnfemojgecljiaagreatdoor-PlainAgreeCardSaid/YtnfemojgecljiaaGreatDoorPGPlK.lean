/- Layer 15: Order: the document's, of plain values in form. Layer 15: Same; both: the document's, of plain values in form. -/
import Derived.Test.YtnfemojgecljiaaGreatDoorPGPlI
import Derived.Test.YtnfemojgecljiaaGreatDoorPGWa
namespace Go.Proofs.YtnfemojgecljiaaGreatDoor
section
open Go Go.ChangeShapes Go.WideShapes Go.ChangeAt Go.RowKit
set_option linter.unusedVariables false
set_option linter.unusedSimpArgs false
set_option maxRecDepth 100000 in
set_option maxHeartbeats 8000000 in
theorem rorder_any (kA : Int) (yA nA : Bool) (uA : Value) (sA : List Int) (bA : Nat) (xA : ByteArray) (pAi : Option Addr) (mA cAi : Nat) (kB : Int) (yB nB : Bool) (uB : Value) (sB : List Int) (bB : Nat) (xB : ByteArray) (pBi : Option Addr) (mB cBi : Nat) (w : World) (hrA : Rd w uA sA) (hrB : Rd w uB sB) (hfA : Fit sA) (hfB : Fit sB) (hbA : bA < 18446744073709551616) (hbB : bB < 18446744073709551616) (hmA0 : (mA : Int) ≤ 9223372036854775807) (hmB0 : (mB : Int) ≤ 9223372036854775807) (hxA : (xA.size : Int) ≤ 9223372036854775807) (hxB : (xB.size : Int) ≤ 9223372036854775807) (hxA2 : (xA.size : Int) ≤ 9223372036854775807) (hxB2 : (xB.size : Int) ≤ 9223372036854775807) (hgA : goodP kA yA nA sA bA xA mA = true) (hgB : goodP kB yB nB sB bB xB mB = true) :
    Calls Tryz.prog 10 #[.agg #[.int .i64 kA, .bool yA, .bool nA, uA, .int .u64 (bA : Int), .string xA, .slice pAi mA cAi], .agg #[.int .i64 kB, .bool yB, .bool nB, uB, .int .u64 (bB : Int), .string xB, .slice pBi mB cBi]] w fun e w' => e = .returned (.tuple #[.int .i64 (orC true true (kA == 4) (kB == 4) (numP kA) (numP kB) (nuC kA kB bA bB (zP kA yA nA sA) (zP kB yB nB sB)) (Lib.compareBytes xA.data.toList xB.data.toList)), .bool (orB true true (kA == 4) (kB == 4) (numP kA) (numP kB) (nuB kA kB bA bB)), .int .i64 (orE true true (kA == 4) (kB == 4) (numP kA) (numP kB))]) ∧ Below w.heap.size w w' := by
  obtain ⟨pA, cA, rfl, hcA, hmA, hpA⟩ := rd_form hrA
  obtain ⟨pB, cB, rfl, hcB, hmB, hpB⟩ := rd_form hrB
  obtain ⟨W1, hW1⟩ : ∃ x, (w.alloc (.cells #[.int .i64 kA, .bool yA, .bool nA, .slice pA sA.length cA, .int .u64 (bA : Int), .string xA, .slice pAi mA cAi] 28)).alloc (.cells #[.int .i64 kB, .bool yB, .bool nB, .slice pB sB.length cB, .int .u64 (bB : Int), .string xB, .slice pBi mB cBi] 28) = x := ⟨_, rfl⟩
  have HB1 := Lib.hid (show Below w.heap.size w W1 by rw [← hW1]; exact ((Below.refl _ _).alloc (Nat.le_refl _) _).alloc (by simp) _)
  have HXA := Lib.hid (show Bx7 W1 (w.heap.size) (.int .i64 kA) (.bool yA) (.bool nA) (.slice pA sA.length cA) (.int .u64 (bA : Int)) (.string xA) (.slice pAi mA cAi) by rw [← hW1]; exact (Bx7.new w _ _ _ _ _ _ _ _ rfl).keep ((Below.refl _ _).alloc (Nat.le_refl _) _))
  have HXB := Lib.hid (show Bx7 W1 (w.heap.size + 1) (.int .i64 kB) (.bool yB) (.bool nB) (.slice pB sB.length cB) (.int .u64 (bB : Int)) (.string xB) (.slice pBi mB cBi) by rw [← hW1]; exact Bx7.new _ _ _ _ _ _ _ _ _ (by simp))
  have HRA := Lib.hid (hrA.keep HB1.out)
  have HRB := Lib.hid (hrB.keep HB1.out)
  have HNA := Lib.hid (fun (W : World) => number15_any kA yA nA (.slice pA sA.length cA) bA xA (.slice pAi mA cAi) W)
  have HNB := Lib.hid (fun (W : World) => number15_any kB yB nB (.slice pB sB.length cB) bB xB (.slice pBi mB cBi) W)
  have HCM := Lib.hid (fun (hA : numP kA = true) (hB : numP kB = true) (W : World) (hx : Below W1.heap.size W1 W) => numbers_any kA yA nA _ sA bA xA (.slice pAi mA cAi) kB yB nB _ sB bB xB (.slice pBi mB cBi) W (HRA.out.keep hx) (HRB.out.keep hx) hfA hfB (good_k2 hgA) (good_k2 hgB) hbA hbB (num_k hA) (num_k hB))
  have hb0 := Below.refl W1.heap.size W1
  have hkA := good_k hgA
  have hkB := good_k hgB
  have htA := Lib.hid (fun h => good_text hgA h)
  have htB := Lib.hid (fun h => good_text hgB h)
  have HNK := Lib.hid (fun h => not_num hkA h)
  have HNL := Lib.hid (fun h => not_num hkB h)
  obtain ⟨qA, hqA⟩ : ∃ g, numP kA = g := ⟨_, rfl⟩
  obtain ⟨qB, hqB⟩ : ∃ g, numP kB = g := ⟨_, rfl⟩
  rw [hqA] at HNA HCM HNK
  rw [hqB] at HNB HCM HNL
  have a0 := HXA.out.c0
  have a1 := HXA.out.c1
  have a2 := HXA.out.c2
  have a3 := HXA.out.c3
  have a4 := HXA.out.c4
  have a5 := HXA.out.c5
  have a6 := HXA.out.c6
  have d0 := HXB.out.c0
  have d1 := HXB.out.c1
  have d2 := HXB.out.c2
  have d3 := HXB.out.c3
  have d4 := HXB.out.c4
  have d5 := HXB.out.c5
  have d6 := HXB.out.c6
  have HST := Lib.hid (fun W => bytes_any xA xB W hxA2 hxB2)
  have hsl := compareBytes_lo xA.data.toList xB.data.toList
  obtain ⟨sv, hsv⟩ : ∃ c, Lib.compareBytes xA.data.toList xB.data.toList = c := ⟨_, rfl⟩
  rw [hsv] at HST hsl ⊢
  rw [hqA, hqB]
  obtain ⟨c, hc⟩ : ∃ c, nuC kA kB bA bB (zP kA yA nA sA) (zP kB yB nB sB) = c := ⟨_, rfl⟩
  obtain ⟨ok, hok⟩ : ∃ c, nuB kA kB bA bB = c := ⟨_, rfl⟩
  rw [hc, hok] at HCM ⊢
  have hN4A : qA = true → (kA == 4) = false := by
    intro h; have := num_k (hqA.trans h); rw [beq_eq_false_iff_ne]; omega
  have hN4B : qB = true → (kB == 4) = false := by
    intro h; have := num_k (hqB.trans h); rw [beq_eq_false_iff_ne]; omega
  obtain ⟨fA, hfA4⟩ : ∃ z, (kA == 4) = z := ⟨_, rfl⟩
  obtain ⟨fB, hfB4⟩ : ∃ z, (kB == 4) = z := ⟨_, rfl⟩
  rw [hfA4] at hN4A ⊢
  rw [hfB4] at hN4B ⊢
  have HV1 := Lib.hid (show orC true true fA fB qA qB c sv = if (fA && fB) = true then sv else if (qA && qB) = true then c else 0 by unfold orC; simp)
  have HV2 := Lib.hid (show orB true true fA fB qA qB ok = (if (fA && fB) = true then true else if (qA && qB) = true then ok else false) by unfold orB; simp)
  have HV3 := Lib.hid (show orE true true fA fB qA qB = if (fA && fB) = true then 0 else if (qA && qB) = true then 0 else 9 by unfold orE; simp)
  clear hrA hrB hfA hfB hpA hpB hqA hqB hc hok hbA hbB hsv hkA hkB hgA hgB HNK HNL htA htB
  go_enter Tryz.func10, Tryz.ntmps10
  have wq : qA = false ∨ (qA = true ∧ qB = false) ∨ (qA = true ∧ qB = true) := by cases qA <;> cases qB <;> simp
  rcases wq with rfl | ⟨rfl, rfl⟩ | ⟨rfl, rfl⟩
  · simp only [Bool.false_and, Bool.and_false, Bool.false_eq_true, if_false] at HV1 HV2 HV3
    clear hN4A hN4B
    have w4 : (fA = true ∧ fB = true) ∨ fA = false ∨ (fA = true ∧ fB = false) := by cases fA <;> cases fB <;> simp
    rcases w4 with ⟨rfl, rfl⟩ | rfl | ⟨rfl, rfl⟩
    · simp only [Bool.and_self, if_true] at HV1 HV2 HV3
      go_wp2_with (first
        | (go_at_call 31; (with_reducible refine (HNA.out _).mono ?_); rintro e v1 ⟨rfl, hvv⟩; have hb1 : Below W1.heap.size W1 v1 := hb0.trans (hvv.mono hb0.size); have fa0 := below_cell hvv a0; have fa1 := below_cell hvv a1; have fa2 := below_cell hvv a2; have fa3 := below_cell hvv a3; have fa4 := below_cell hvv a4; have fa5 := below_cell hvv a5; have fa6 := below_cell hvv a6; have fd0 := below_cell hvv d0; have fd1 := below_cell hvv d1; have fd2 := below_cell hvv d2; have fd3 := below_cell hvv d3; have fd4 := below_cell hvv d4; have fd5 := below_cell hvv d5; have fd6 := below_cell hvv d6; clear hvv)
        | (go_at_call 31; (with_reducible refine (HNB.out _).mono ?_); rintro e v2 ⟨rfl, hvv⟩; have hb2 : Below W1.heap.size W1 v2 := hb1.trans (hvv.mono hb1.size); have ga0 := below_cell hvv fa0; have ga1 := below_cell hvv fa1; have ga2 := below_cell hvv fa2; have ga3 := below_cell hvv fa3; have ga4 := below_cell hvv fa4; have ga5 := below_cell hvv fa5; have ga6 := below_cell hvv fa6; have gd0 := below_cell hvv fd0; have gd1 := below_cell hvv fd1; have gd2 := below_cell hvv fd2; have gd3 := below_cell hvv fd3; have gd4 := below_cell hvv fd4; have gd5 := below_cell hvv fd5; have gd6 := below_cell hvv fd6; clear hvv)
        | (go_at_call 33; (with_reducible refine (HST.out _).mono ?_); rintro e vy ⟨rfl, hvv⟩; have hby : Below W1.heap.size W1 vy := hb1.trans (hvv.mono hb1.size); clear hvv)
        | fail)
      go_ret3
      exact ⟨by rw [HV1.out, HV2.out, HV3.out]; rfl, HB1.out.trans (hby.mono HB1.out.size)⟩
    all_goals
      simp only [Bool.false_and, Bool.and_false, Bool.false_eq_true, if_false] at HV1 HV2 HV3
      go_wp2_with (first
        | (go_at_call 31; (with_reducible refine (HNA.out _).mono ?_); rintro e v1 ⟨rfl, hvv⟩; have hb1 : Below W1.heap.size W1 v1 := hb0.trans (hvv.mono hb0.size); have fa0 := below_cell hvv a0; have fa1 := below_cell hvv a1; have fa2 := below_cell hvv a2; have fa3 := below_cell hvv a3; have fa4 := below_cell hvv a4; have fa5 := below_cell hvv a5; have fa6 := below_cell hvv a6; have fd0 := below_cell hvv d0; have fd1 := below_cell hvv d1; have fd2 := below_cell hvv d2; have fd3 := below_cell hvv d3; have fd4 := below_cell hvv d4; have fd5 := below_cell hvv d5; have fd6 := below_cell hvv d6; clear hvv)
        | (go_at_call 31; (with_reducible refine (HNB.out _).mono ?_); rintro e v2 ⟨rfl, hvv⟩; have hb2 : Below W1.heap.size W1 v2 := hb1.trans (hvv.mono hb1.size); have ga0 := below_cell hvv fa0; have ga1 := below_cell hvv fa1; have ga2 := below_cell hvv fa2; have ga3 := below_cell hvv fa3; have ga4 := below_cell hvv fa4; have ga5 := below_cell hvv fa5; have ga6 := below_cell hvv fa6; have gd0 := below_cell hvv fd0; have gd1 := below_cell hvv fd1; have gd2 := below_cell hvv fd2; have gd3 := below_cell hvv fd3; have gd4 := below_cell hvv fd4; have gd5 := below_cell hvv fd5; have gd6 := below_cell hvv fd6; clear hvv)
        | fail)
      go_ret3
      exact ⟨by rw [HV1.out, HV2.out, HV3.out]; rfl, HB1.out.trans (hb1.mono HB1.out.size)⟩
  · simp only [Bool.false_and, Bool.and_false, Bool.false_eq_true, if_false] at HV1 HV2 HV3
    clear hN4A hN4B
    have w4 : (fA = true ∧ fB = true) ∨ fA = false ∨ (fA = true ∧ fB = false) := by cases fA <;> cases fB <;> simp
    rcases w4 with ⟨rfl, rfl⟩ | rfl | ⟨rfl, rfl⟩
    · simp only [Bool.and_self, if_true] at HV1 HV2 HV3
      go_wp2_with (first
        | (go_at_call 31; (with_reducible refine (HNA.out _).mono ?_); rintro e v1 ⟨rfl, hvv⟩; have hb1 : Below W1.heap.size W1 v1 := hb0.trans (hvv.mono hb0.size); have fa0 := below_cell hvv a0; have fa1 := below_cell hvv a1; have fa2 := below_cell hvv a2; have fa3 := below_cell hvv a3; have fa4 := below_cell hvv a4; have fa5 := below_cell hvv a5; have fa6 := below_cell hvv a6; have fd0 := below_cell hvv d0; have fd1 := below_cell hvv d1; have fd2 := below_cell hvv d2; have fd3 := below_cell hvv d3; have fd4 := below_cell hvv d4; have fd5 := below_cell hvv d5; have fd6 := below_cell hvv d6; clear hvv)
        | (go_at_call 31; (with_reducible refine (HNB.out _).mono ?_); rintro e v2 ⟨rfl, hvv⟩; have hb2 : Below W1.heap.size W1 v2 := hb1.trans (hvv.mono hb1.size); have ga0 := below_cell hvv fa0; have ga1 := below_cell hvv fa1; have ga2 := below_cell hvv fa2; have ga3 := below_cell hvv fa3; have ga4 := below_cell hvv fa4; have ga5 := below_cell hvv fa5; have ga6 := below_cell hvv fa6; have gd0 := below_cell hvv fd0; have gd1 := below_cell hvv fd1; have gd2 := below_cell hvv fd2; have gd3 := below_cell hvv fd3; have gd4 := below_cell hvv fd4; have gd5 := below_cell hvv fd5; have gd6 := below_cell hvv fd6; clear hvv)
        | (go_at_call 33; (with_reducible refine (HST.out _).mono ?_); rintro e vy ⟨rfl, hvv⟩; have hby : Below W1.heap.size W1 vy := hb2.trans (hvv.mono hb2.size); clear hvv)
        | fail)
      go_ret3
      exact ⟨by rw [HV1.out, HV2.out, HV3.out]; rfl, HB1.out.trans (hby.mono HB1.out.size)⟩
    all_goals
      simp only [Bool.false_and, Bool.and_false, Bool.false_eq_true, if_false] at HV1 HV2 HV3
      go_wp2_with (first
        | (go_at_call 31; (with_reducible refine (HNA.out _).mono ?_); rintro e v1 ⟨rfl, hvv⟩; have hb1 : Below W1.heap.size W1 v1 := hb0.trans (hvv.mono hb0.size); have fa0 := below_cell hvv a0; have fa1 := below_cell hvv a1; have fa2 := below_cell hvv a2; have fa3 := below_cell hvv a3; have fa4 := below_cell hvv a4; have fa5 := below_cell hvv a5; have fa6 := below_cell hvv a6; have fd0 := below_cell hvv d0; have fd1 := below_cell hvv d1; have fd2 := below_cell hvv d2; have fd3 := below_cell hvv d3; have fd4 := below_cell hvv d4; have fd5 := below_cell hvv d5; have fd6 := below_cell hvv d6; clear hvv)
        | (go_at_call 31; (with_reducible refine (HNB.out _).mono ?_); rintro e v2 ⟨rfl, hvv⟩; have hb2 : Below W1.heap.size W1 v2 := hb1.trans (hvv.mono hb1.size); have ga0 := below_cell hvv fa0; have ga1 := below_cell hvv fa1; have ga2 := below_cell hvv fa2; have ga3 := below_cell hvv fa3; have ga4 := below_cell hvv fa4; have ga5 := below_cell hvv fa5; have ga6 := below_cell hvv fa6; have gd0 := below_cell hvv fd0; have gd1 := below_cell hvv fd1; have gd2 := below_cell hvv fd2; have gd3 := below_cell hvv fd3; have gd4 := below_cell hvv fd4; have gd5 := below_cell hvv fd5; have gd6 := below_cell hvv fd6; clear hvv)
        | fail)
      go_ret3
      exact ⟨by rw [HV1.out, HV2.out, HV3.out]; rfl, HB1.out.trans (hb2.mono HB1.out.size)⟩
  · obtain rfl := hN4A (by first | rfl | trivial)
    obtain rfl := hN4B (by first | rfl | trivial)
    simp only [Bool.and_self, if_true, Bool.false_eq_true, if_false] at HV1 HV2 HV3
    clear hN4A hN4B
    go_wp2_with (first
      | (go_at_call 31; (with_reducible refine (HNA.out _).mono ?_); rintro e v1 ⟨rfl, hvv⟩; have hb1 : Below W1.heap.size W1 v1 := hb0.trans (hvv.mono hb0.size); have fa0 := below_cell hvv a0; have fa1 := below_cell hvv a1; have fa2 := below_cell hvv a2; have fa3 := below_cell hvv a3; have fa4 := below_cell hvv a4; have fa5 := below_cell hvv a5; have fa6 := below_cell hvv a6; have fd0 := below_cell hvv d0; have fd1 := below_cell hvv d1; have fd2 := below_cell hvv d2; have fd3 := below_cell hvv d3; have fd4 := below_cell hvv d4; have fd5 := below_cell hvv d5; have fd6 := below_cell hvv d6; clear hvv)
      | (go_at_call 31; (with_reducible refine (HNB.out _).mono ?_); rintro e v2 ⟨rfl, hvv⟩; have hb2 : Below W1.heap.size W1 v2 := hb1.trans (hvv.mono hb1.size); have ga0 := below_cell hvv fa0; have ga1 := below_cell hvv fa1; have ga2 := below_cell hvv fa2; have ga3 := below_cell hvv fa3; have ga4 := below_cell hvv fa4; have ga5 := below_cell hvv fa5; have ga6 := below_cell hvv fa6; have gd0 := below_cell hvv fd0; have gd1 := below_cell hvv fd1; have gd2 := below_cell hvv fd2; have gd3 := below_cell hvv fd3; have gd4 := below_cell hvv fd4; have gd5 := below_cell hvv fd5; have gd6 := below_cell hvv fd6; clear hvv)
      | (go_at_call 32; (with_reducible refine (HCM.out (by first | rfl | trivial) (by first | rfl | trivial) _ hb2).mono ?_); rintro e v3 ⟨rfl, hvv⟩; have hb3 : Below W1.heap.size W1 v3 := hb2.trans (hvv.mono hb2.size); have ka0 := below_cell hvv ga0; have ka1 := below_cell hvv ga1; have ka2 := below_cell hvv ga2; have ka3 := below_cell hvv ga3; have ka4 := below_cell hvv ga4; have ka5 := below_cell hvv ga5; have ka6 := below_cell hvv ga6; have kd0 := below_cell hvv gd0; have kd1 := below_cell hvv gd1; have kd2 := below_cell hvv gd2; have kd3 := below_cell hvv gd3; have kd4 := below_cell hvv gd4; have kd5 := below_cell hvv gd5; have kd6 := below_cell hvv gd6; clear hvv)
      | fail)
    go_ret3
    exact ⟨by rw [HV1.out, HV2.out, HV3.out]; rfl, HB1.out.trans (hb3.mono HB1.out.size)⟩
end
section
open Go Go.ChangeShapes Go.WideShapes Go.ChangeAt Go.RowKit
set_option linter.unusedVariables false
set_option linter.unusedSimpArgs false
theorem pat_same {a b : Nat} : (((patB a : Nat) : Int) == ((patB b : Nat) : Int)) = (((a : Int) == (b : Int)) || (nanB a && nanB b)) := by
  have hN : nanB fNaN = true := nan_nan
  unfold patB
  cases ha : nanB a
  · cases hb : nanB b
    · simp
    · have hne : a ≠ fNaN := fun h => by rw [h, hN] at ha; cases ha
      have hne2 : a ≠ b := fun h => by rw [h, hb] at ha; cases ha
      simp only [Bool.false_eq_true, if_false, if_true, Bool.false_and, Bool.or_false]
      rw [Bool.eq_iff_iff, beq_iff_eq, beq_iff_eq]
      omega
  · cases hb : nanB b
    · have hne : b ≠ fNaN := fun h => by rw [h, hN] at hb; cases hb
      have hne2 : a ≠ b := fun h => by rw [h, hb] at ha; cases ha
      simp only [Bool.false_eq_true, if_false, if_true, Bool.and_false, Bool.or_false]
      rw [Bool.eq_iff_iff, beq_iff_eq, beq_iff_eq]
      omega
    · simp
theorem field_bits (f : Nat) (W : World) : (Instr.field 28 (.agg #[.int .i64 3, .bool false, .bool false, .slice none 0 0, .int .u64 (f : Int), .string ⟨#[]⟩, .slice none 0 0]) 3).run Tryz.prog W = .ok (.int .u64 (f : Int)) W := by kernel_rfl
theorem cmp_same {n1 n2 : Bool} {xs ys : List Int} {z1 z2 : Int} (h1 : Sgn B18 n1 xs z1) (h2 : Sgn B18 n2 ys z2) : (cmpI z1 z2 == 0) = sameB n1 xs n2 ys := by
  by_cases h : z1 = z2
  · subst h
    rw [h1.same (by decide) h2]
    unfold cmpI; simp
  · have e1 : (cmpI z1 z2 == 0) = false := by
      rw [beq_eq_false_iff_ne]
      unfold cmpI
      split
      · omega
      · split <;> omega
    rw [e1]
    cases hs : sameB n1 xs n2 ys
    · rfl
    · exfalso
      unfold sameB at hs
      have hh : n1 = n2 ∧ xs = ys := by simpa using hs
      obtain ⟨rfl, rfl⟩ := hh
      exact h (h1.eq.trans h2.eq.symm)
set_option maxRecDepth 100000 in
set_option maxHeartbeats 8000000 in
theorem rsame_any (kA : Int) (yA nA : Bool) (uA : Value) (sA : List Int) (bA : Nat) (xA : ByteArray) (pAi : Option Addr) (mA cAi : Nat) (kB : Int) (yB nB : Bool) (uB : Value) (sB : List Int) (bB : Nat) (xB : ByteArray) (pBi : Option Addr) (mB cBi : Nat) (w : World) (hrA : Rd w uA sA) (hrB : Rd w uB sB) (hfA : Fit sA) (hfB : Fit sB) (hbA : bA < 18446744073709551616) (hbB : bB < 18446744073709551616) (hmA0 : (mA : Int) ≤ 9223372036854775807) (hmB0 : (mB : Int) ≤ 9223372036854775807) (hxA : (xA.size : Int) ≤ 9223372036854775807) (hxB : (xB.size : Int) ≤ 9223372036854775807) (hgA : goodP kA yA nA sA bA xA mA = true) (hgB : goodP kB yB nB sB bB xB mB = true) :
    Calls Tryz.prog 12 #[.agg #[.int .i64 kA, .bool yA, .bool nA, uA, .int .u64 (bA : Int), .string xA, .slice pAi mA cAi], .agg #[.int .i64 kB, .bool yB, .bool nB, uB, .int .u64 (bB : Int), .string xB, .slice pBi mB cBi]] w fun e w' => e = .returned (.bool (saP true true (kA != kB) (kA == 3) ((bA : Int) == (bB : Int)) (nanB bA) (nanB bB) (yA == yB) (xA.toList == xB.toList) (cmpI (sg nA (val B18 sA)) (sg nB (val B18 sB))))) ∧ Below w.heap.size w w' := by
  obtain ⟨pA, cA, rfl, hcA, hmA, hpA⟩ := rd_form hrA
  obtain ⟨pB, cB, rfl, hcB, hmB, hpB⟩ := rd_form hrB
  obtain ⟨W1, hW1⟩ : ∃ x, (w.alloc (.cells #[.int .i64 kA, .bool yA, .bool nA, .slice pA sA.length cA, .int .u64 (bA : Int), .string xA, .slice pAi mA cAi] 28)).alloc (.cells #[.int .i64 kB, .bool yB, .bool nB, .slice pB sB.length cB, .int .u64 (bB : Int), .string xB, .slice pBi mB cBi] 28) = x := ⟨_, rfl⟩
  have HB1 := Lib.hid (show Below w.heap.size w W1 by rw [← hW1]; exact ((Below.refl _ _).alloc (Nat.le_refl _) _).alloc (by simp) _)
  have HXA := Lib.hid (show Bx7 W1 (w.heap.size) (.int .i64 kA) (.bool yA) (.bool nA) (.slice pA sA.length cA) (.int .u64 (bA : Int)) (.string xA) (.slice pAi mA cAi) by rw [← hW1]; exact (Bx7.new w _ _ _ _ _ _ _ _ rfl).keep ((Below.refl _ _).alloc (Nat.le_refl _) _))
  have HXB := Lib.hid (show Bx7 W1 (w.heap.size + 1) (.int .i64 kB) (.bool yB) (.bool nB) (.slice pB sB.length cB) (.int .u64 (bB : Int)) (.string xB) (.slice pBi mB cBi) by rw [← hW1]; exact Bx7.new _ _ _ _ _ _ _ _ _ (by simp))
  have HRA := Lib.hid (hrA.keep HB1.out)
  have HRB := Lib.hid (hrB.keep HB1.out)
  have HNA := Lib.hid (fun (W : World) => number15_any kA yA nA (.slice pA sA.length cA) bA xA (.slice pAi mA cAi) W)
  have HNB := Lib.hid (fun (W : World) => number15_any kB yB nB (.slice pB sB.length cB) bB xB (.slice pBi mB cBi) W)
  have HCM := Lib.hid (fun (hA : numP kA = true) (hB : numP kB = true) (W : World) (hx : Below W1.heap.size W1 W) => numbers_any kA yA nA _ sA bA xA (.slice pAi mA cAi) kB yB nB _ sB bB xB (.slice pBi mB cBi) W (HRA.out.keep hx) (HRB.out.keep hx) hfA hfB (good_k2 hgA) (good_k2 hgB) hbA hbB (num_k hA) (num_k hB))
  have hb0 := Below.refl W1.heap.size W1
  have hkA := good_k hgA
  have hkB := good_k hgB
  have htA := Lib.hid (fun h => good_text hgA h)
  have htB := Lib.hid (fun h => good_text hgB h)
  have HNK := Lib.hid (fun h => not_num hkA h)
  have HNL := Lib.hid (fun h => not_num hkB h)
  obtain ⟨qA, hqA⟩ : ∃ g, numP kA = g := ⟨_, rfl⟩
  obtain ⟨qB, hqB⟩ : ∃ g, numP kB = g := ⟨_, rfl⟩
  rw [hqA] at HNA HCM HNK
  rw [hqB] at HNB HCM HNL
  have a0 := HXA.out.c0
  have a1 := HXA.out.c1
  have a2 := HXA.out.c2
  have a3 := HXA.out.c3
  have a4 := HXA.out.c4
  have a5 := HXA.out.c5
  have a6 := HXA.out.c6
  have d0 := HXB.out.c0
  have d1 := HXB.out.c1
  have d2 := HXB.out.c2
  have d3 := HXB.out.c3
  have d4 := HXB.out.c4
  have d5 := HXB.out.c5
  have d6 := HXB.out.c6
  have hIA := goodB_sgn (good_int hgA) hfA
  have hIB := goodB_sgn (good_int hgB) hfB
  have HCI := Lib.hid (fun (W : World) (hx : Below W1.heap.size W1 W) => same_any nA nB _ _ sA sB W (HRA.out.keep hx) (HRB.out.keep hx))
  have hcs := cmp_same hIA.1 hIB.1
  have HFA := Lib.hid (fun W => rFloat_any bA hbA W)
  have HFB := Lib.hid (fun W => rFloat_any bB hbB W)
  have hps := pat_same (a := bA) (b := bB)
  have hfldA := field_bits (patB bA)
  have hfldB := field_bits (patB bB)
  obtain ⟨xe, hxe⟩ : ∃ z, (xA.toList == xB.toList) = z := ⟨_, rfl⟩
  obtain ⟨kn, hkn⟩ : ∃ z, (kA != kB) = z := ⟨_, rfl⟩
  obtain ⟨f3, hf3⟩ : ∃ z, (kA == 3) = z := ⟨_, rfl⟩
  obtain ⟨ye, hye⟩ : ∃ z, (yA == yB) = z := ⟨_, rfl⟩
  obtain ⟨sm, hsm⟩ : ∃ z, sameB nA sA nB sB = z := ⟨_, rfl⟩
  rw [hsm] at hcs HCI
  have HV := Lib.hid (show saP true true kn f3 ((bA : Int) == (bB : Int)) (nanB bA) (nanB bB) ye xe (cmpI (sg nA (val B18 sA)) (sg nB (val B18 sB))) = (!kn && (if f3 = true then (((patB bA : Nat) : Int) == ((patB bB : Nat) : Int)) else (ye && xe) && sm)) by unfold saP; rw [hcs, hps]; simp)
  rw [hkn, hf3, hye, hxe]
  obtain ⟨fa, hfa⟩ : ∃ z, patB bA = z := ⟨_, rfl⟩
  obtain ⟨fb, hfb⟩ : ∃ z, patB bB = z := ⟨_, rfl⟩
  rw [hfa] at HFA HV hfldA
  rw [hfb] at HFB HV hfldB
  obtain ⟨R, hR⟩ : ∃ R, saP true true kn f3 ((bA : Int) == (bB : Int)) (nanB bA) (nanB bB) ye xe (cmpI (sg nA (val B18 sA)) (sg nB (val B18 sB))) = R := ⟨_, rfl⟩
  rw [hR] at HV ⊢
  obtain ⟨fe, hfe⟩ : ∃ z, ((fa : Int) == (fb : Int)) = z := ⟨_, rfl⟩
  rw [hfe] at HV
  clear hrA hrB hfA hfB hpA hpB hqA hqB hbA hbB hkA hkB hgA hgB HNK HNL htA htB HCM hcs hps hsm hfa hfb hR hIA hIB
  go_enter Tryz.func12, Tryz.ntmps12
  cases kn
  rotate_left
  · go_wp2_with (first
      | fail)
    go_ret
    exact ⟨by rw [HV.out]; rfl, HB1.out.trans (hb0.mono HB1.out.size)⟩
  cases f3
  · have wy : ye = false ∨ (ye = true ∧ xe = false) ∨ (ye = true ∧ xe = true) := by cases ye <;> cases xe <;> simp
    rcases wy with rfl | ⟨rfl, rfl⟩ | ⟨rfl, rfl⟩
    · go_wp2_with (first
        | fail)
      go_ret
      exact ⟨by rw [HV.out]; rfl, HB1.out.trans (hb0.mono HB1.out.size)⟩
    · go_wp2_with (first
        | fail)
      go_ret
      exact ⟨by rw [HV.out]; rfl, HB1.out.trans (hb0.mono HB1.out.size)⟩
    · go_wp2_with (first
        | (go_at_call 34; (with_reducible refine (HCI.out _ hb0).mono ?_); rintro e v3 ⟨rfl, hvv⟩; have hb3 : Below W1.heap.size W1 v3 := hb0.trans (hvv.mono hb0.size); clear hvv)
        | fail)
      go_ret
      exact ⟨by rw [HV.out]; rfl, HB1.out.trans (hb3.mono HB1.out.size)⟩
  · go_upto_region 4 with fail
    (try rw [hW1])
    clear hW1
    go_region_held3 (fun w' => w'.cell? ⟨w.heap.size, 0, none⟩ = some (.int .i64 kA) ∧ w'.cell? ⟨w.heap.size, 1, none⟩ = some (.bool yA) ∧ w'.cell? ⟨w.heap.size, 2, none⟩ = some (.bool nA) ∧ w'.cell? ⟨w.heap.size, 3, none⟩ = some (.slice pA sA.length cA) ∧ w'.cell? ⟨w.heap.size, 4, none⟩ = some (.int .u64 (bA : Int)) ∧ w'.cell? ⟨w.heap.size, 5, none⟩ = some (.string xA) ∧ w'.cell? ⟨w.heap.size, 6, none⟩ = some (.slice pAi mA cAi) ∧ w'.cell? ⟨w.heap.size + 1, 0, none⟩ = some (.int .i64 kB) ∧ w'.cell? ⟨w.heap.size + 1, 1, none⟩ = some (.bool yB) ∧ w'.cell? ⟨w.heap.size + 1, 2, none⟩ = some (.bool nB) ∧ w'.cell? ⟨w.heap.size + 1, 3, none⟩ = some (.slice pB sB.length cB) ∧ w'.cell? ⟨w.heap.size + 1, 4, none⟩ = some (.int .u64 (bB : Int)) ∧ w'.cell? ⟨w.heap.size + 1, 5, none⟩ = some (.string xB) ∧ w'.cell? ⟨w.heap.size + 1, 6, none⟩ = some (.slice pBi mB cBi))
      (first | ((repeat' (first | assumption | apply And.intro)); done) | fail)
      (first
       | (go_at_call 24; (with_reducible refine (HFA.out _).mono ?_); rintro e v1 ⟨rfl, hvv⟩; have hbw1 : Below W1.heap.size W1 v1 := Below.trans (drewM (Below.refl W1.heap.size W1)) hvv; have ka0 := below_cell hvv a0; have ka1 := below_cell hvv a1; have ka2 := below_cell hvv a2; have ka3 := below_cell hvv a3; have ka4 := below_cell hvv a4; have ka5 := below_cell hvv a5; have ka6 := below_cell hvv a6; have kd0 := below_cell hvv d0; have kd1 := below_cell hvv d1; have kd2 := below_cell hvv d2; have kd3 := below_cell hvv d3; have kd4 := below_cell hvv d4; have kd5 := below_cell hvv d5; have kd6 := below_cell hvv d6; clear hvv)
       | (go_at_call 24; (with_reducible refine (HFB.out _).mono ?_); rintro e v2 ⟨rfl, hvv⟩; have hbw2 : Below W1.heap.size W1 v2 := hbw1.trans (hvv.mono hbw1.size); have ja0 := below_cell hvv ka0; have ja1 := below_cell hvv ka1; have ja2 := below_cell hvv ka2; have ja3 := below_cell hvv ka3; have ja4 := below_cell hvv ka4; have ja5 := below_cell hvv ka5; have ja6 := below_cell hvv ka6; have jd0 := below_cell hvv kd0; have jd1 := below_cell hvv kd1; have jd2 := below_cell hvv kd2; have jd3 := below_cell hvv kd3; have jd4 := below_cell hvv kd4; have jd5 := below_cell hvv kd5; have jd6 := below_cell hvv kd6; clear hvv)
       | fail)
    all_goals
      go_wp2_with fail
      go_ret
      exact ⟨by rw [HV.out]; rfl, HB1.out.trans (hbw2.mono HB1.out.size)⟩
set_option maxRecDepth 100000 in
set_option maxHeartbeats 8000000 in
theorem both_any (kA : Int) (yA nA : Bool) (uA : Value) (sA : List Int) (bA : Nat) (xA : ByteArray) (pAi : Option Addr) (mA cAi : Nat) (kB : Int) (yB nB : Bool) (uB : Value) (sB : List Int) (bB : Nat) (xB : ByteArray) (pBi : Option Addr) (mB cBi : Nat) (w : World) (hrA : Rd w uA sA) (hrB : Rd w uB sB) (hfA : Fit sA) (hfB : Fit sB) (hbA : bA < 18446744073709551616) (hbB : bB < 18446744073709551616) (hmA0 : (mA : Int) ≤ 9223372036854775807) (hmB0 : (mB : Int) ≤ 9223372036854775807) (hxA : (xA.size : Int) ≤ 9223372036854775807) (hxB : (xB.size : Int) ≤ 9223372036854775807) :
    Calls Tryz.prog 7 #[.agg #[.int .i64 kA, .bool yA, .bool nA, uA, .int .u64 (bA : Int), .string xA, .slice pAi mA cAi], .agg #[.int .i64 kB, .bool yB, .bool nB, uB, .int .u64 (bB : Int), .string xB, .slice pBi mB cBi]] w fun e w' => e = .returned (.bool ((goodP kA yA nA sA bA xA mA) && (goodP kB yB nB sB bB xB mB))) ∧ Below w.heap.size w w' := by
  obtain ⟨pA, cA, rfl, hcA, hmA, hpA⟩ := rd_form hrA
  obtain ⟨pB, cB, rfl, hcB, hmB, hpB⟩ := rd_form hrB
  obtain ⟨W1, hW1⟩ : ∃ x, (w.alloc (.cells #[.int .i64 kA, .bool yA, .bool nA, .slice pA sA.length cA, .int .u64 (bA : Int), .string xA, .slice pAi mA cAi] 28)).alloc (.cells #[.int .i64 kB, .bool yB, .bool nB, .slice pB sB.length cB, .int .u64 (bB : Int), .string xB, .slice pBi mB cBi] 28) = x := ⟨_, rfl⟩
  have HB1 := Lib.hid (show Below w.heap.size w W1 by rw [← hW1]; exact ((Below.refl _ _).alloc (Nat.le_refl _) _).alloc (by simp) _)
  have HXA := Lib.hid (show Bx7 W1 (w.heap.size) (.int .i64 kA) (.bool yA) (.bool nA) (.slice pA sA.length cA) (.int .u64 (bA : Int)) (.string xA) (.slice pAi mA cAi) by rw [← hW1]; exact (Bx7.new w _ _ _ _ _ _ _ _ rfl).keep ((Below.refl _ _).alloc (Nat.le_refl _) _))
  have HXB := Lib.hid (show Bx7 W1 (w.heap.size + 1) (.int .i64 kB) (.bool yB) (.bool nB) (.slice pB sB.length cB) (.int .u64 (bB : Int)) (.string xB) (.slice pBi mB cBi) by rw [← hW1]; exact Bx7.new _ _ _ _ _ _ _ _ _ (by simp))
  have HRA := Lib.hid (hrA.keep HB1.out)
  have HRB := Lib.hid (hrB.keep HB1.out)
  have HGA := Lib.hid (fun (W : World) (hx : Below W1.heap.size W1 W) => rgood15_any kA yA nA _ sA bA xA pAi mA cAi W hbA (HRA.out.keep hx) hfA hmA0 hxA)
  have HGB := Lib.hid (fun (W : World) (hx : Below W1.heap.size W1 W) => rgood15_any kB yB nB _ sB bB xB pBi mB cBi W hbB (HRB.out.keep hx) hfB hmB0 hxB)
  have HNA := Lib.hid (fun (W : World) => isNumber_any kA yA nA (.slice pA sA.length cA) bA xA (.slice pAi mA cAi) W)
  have HNB := Lib.hid (fun (W : World) => isNumber_any kB yB nB (.slice pB sB.length cB) bB xB (.slice pBi mB cBi) W)
  have HKA := Lib.hid (fun (h : goodP kA yA nA sA bA xA mA = true) => good_k2 h)
  have HKB := Lib.hid (fun (h : goodP kB yB nB sB bB xB mB = true) => good_k2 h)
  have HCM := Lib.hid (fun (W : World) (hx : Below W1.heap.size W1 W) (hA : kA = 2 → goodB nA sA = true) (hB : kB = 2 → goodB nB sB = true) => compare_any kA yA nA _ sA bA xA (.slice pAi mA cAi) kB yB nB _ sB bB xB (.slice pBi mB cBi) W (HRA.out.keep hx) (HRB.out.keep hx) hfA hfB hA hB hbA hbB)
  have hb0 := Below.refl W1.heap.size W1
  obtain ⟨gA, hgA⟩ : ∃ g, goodP kA yA nA sA bA xA mA = g := ⟨_, rfl⟩
  obtain ⟨gB, hgB⟩ : ∃ g, goodP kB yB nB sB bB xB mB = g := ⟨_, rfl⟩
  obtain ⟨qA, hqA⟩ : ∃ g, numP kA = g := ⟨_, rfl⟩
  obtain ⟨qB, hqB⟩ : ∃ g, numP kB = g := ⟨_, rfl⟩
  rw [hgA] at HGA HKA
  rw [hgB] at HGB HKB
  rw [hqA] at HNA
  rw [hqB] at HNB
  have a0 := HXA.out.c0
  have a1 := HXA.out.c1
  have a2 := HXA.out.c2
  have a3 := HXA.out.c3
  have a4 := HXA.out.c4
  have a5 := HXA.out.c5
  have a6 := HXA.out.c6
  have d0 := HXB.out.c0
  have d1 := HXB.out.c1
  have d2 := HXB.out.c2
  have d3 := HXB.out.c3
  have d4 := HXB.out.c4
  have d5 := HXB.out.c5
  have d6 := HXB.out.c6
  rw [hgA, hgB]
  clear hrA hrB hfA hfB hpA hpB hgA hgB hqA hqB hbA hbB HCM
  go_enter Tryz.func7, Tryz.ntmps7
  cases gA
  · go_wp2_with (first
      | (go_at_call 15; (with_reducible refine (HGA.out _ hb0).mono ?_); rintro e v1 ⟨rfl, hvv⟩; have hb1 : Below W1.heap.size W1 v1 := hb0.trans (hvv.mono hb0.size); have fa0 := below_cell hvv a0; have fa1 := below_cell hvv a1; have fa2 := below_cell hvv a2; have fa3 := below_cell hvv a3; have fa4 := below_cell hvv a4; have fa5 := below_cell hvv a5; have fa6 := below_cell hvv a6; have fd0 := below_cell hvv d0; have fd1 := below_cell hvv d1; have fd2 := below_cell hvv d2; have fd3 := below_cell hvv d3; have fd4 := below_cell hvv d4; have fd5 := below_cell hvv d5; have fd6 := below_cell hvv d6; clear hvv)
      | (go_at_call 15; (with_reducible refine (HGB.out _ hb1).mono ?_); rintro e v2 ⟨rfl, hvv⟩; have hb2 : Below W1.heap.size W1 v2 := hb1.trans (hvv.mono hb1.size); have ga0 := below_cell hvv fa0; have ga1 := below_cell hvv fa1; have ga2 := below_cell hvv fa2; have ga3 := below_cell hvv fa3; have ga4 := below_cell hvv fa4; have ga5 := below_cell hvv fa5; have ga6 := below_cell hvv fa6; have gd0 := below_cell hvv fd0; have gd1 := below_cell hvv fd1; have gd2 := below_cell hvv fd2; have gd3 := below_cell hvv fd3; have gd4 := below_cell hvv fd4; have gd5 := below_cell hvv fd5; have gd6 := below_cell hvv fd6; clear hvv)
      | fail)
    go_ret
    exact ⟨rfl, HB1.out.trans (hb1.mono HB1.out.size)⟩
  · go_wp2_with (first
      | (go_at_call 15; (with_reducible refine (HGA.out _ hb0).mono ?_); rintro e v1 ⟨rfl, hvv⟩; have hb1 : Below W1.heap.size W1 v1 := hb0.trans (hvv.mono hb0.size); have fa0 := below_cell hvv a0; have fa1 := below_cell hvv a1; have fa2 := below_cell hvv a2; have fa3 := below_cell hvv a3; have fa4 := below_cell hvv a4; have fa5 := below_cell hvv a5; have fa6 := below_cell hvv a6; have fd0 := below_cell hvv d0; have fd1 := below_cell hvv d1; have fd2 := below_cell hvv d2; have fd3 := below_cell hvv d3; have fd4 := below_cell hvv d4; have fd5 := below_cell hvv d5; have fd6 := below_cell hvv d6; clear hvv)
      | (go_at_call 15; (with_reducible refine (HGB.out _ hb1).mono ?_); rintro e v2 ⟨rfl, hvv⟩; have hb2 : Below W1.heap.size W1 v2 := hb1.trans (hvv.mono hb1.size); have ga0 := below_cell hvv fa0; have ga1 := below_cell hvv fa1; have ga2 := below_cell hvv fa2; have ga3 := below_cell hvv fa3; have ga4 := below_cell hvv fa4; have ga5 := below_cell hvv fa5; have ga6 := below_cell hvv fa6; have gd0 := below_cell hvv fd0; have gd1 := below_cell hvv fd1; have gd2 := below_cell hvv fd2; have gd3 := below_cell hvv fd3; have gd4 := below_cell hvv fd4; have gd5 := below_cell hvv fd5; have gd6 := below_cell hvv fd6; clear hvv)
      | fail)
    go_ret
    exact ⟨by simp, HB1.out.trans (hb2.mono HB1.out.size)⟩
end
end Go.Proofs.YtnfemojgecljiaaGreatDoor
