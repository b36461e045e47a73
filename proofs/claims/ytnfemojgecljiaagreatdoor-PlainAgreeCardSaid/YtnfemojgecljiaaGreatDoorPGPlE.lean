/- Layer 15: Equal, Order, Same of any plain values: the program's. Layer 15: Order of any plain values: the program's. -/
import Derived.Test.YtnfemojgecljiaaGreatDoorPGPlC
import Derived.Test.YtnfemojgecljiaaGreatDoorShelfR
import Derived.OwnWalk
namespace Go.Proofs.YtnfemojgecljiaaGreatDoor
section
open Go Go.ChangeShapes Go.WideShapes Go.ChangeAt Go.RowKit
set_option linter.unusedVariables false
set_option linter.unusedSimpArgs false
theorem good_k2 {k : Int} {y n : Bool} {ws : List Int} {b : Nat} {s : ByteArray} {m : Nat} (h : goodP k y n ws b s m = true) : k = 2 → goodB n ws = true := by
  intro h2
  subst h2
  unfold goodP at h
  simp at h
  exact h.2
/-- Are two plain values equal? -/
def eqP (gA gB qA qB : Bool) (c : Int) (ok : Bool) (kA kB : Int) (xA xB : ByteArray) : Bool := gA && gB && (if (qA && qB) = true then (c == 0) && ok else (kA == kB) && (xA.toList == xB.toList))
set_option maxRecDepth 100000 in
set_option maxHeartbeats 8000000 in
theorem equal_any (kA : Int) (yA nA : Bool) (uA : Value) (sA : List Int) (bA : Nat) (xA : ByteArray) (pAi : Option Addr) (mA cAi : Nat) (kB : Int) (yB nB : Bool) (uB : Value) (sB : List Int) (bB : Nat) (xB : ByteArray) (pBi : Option Addr) (mB cBi : Nat) (w : World) (hrA : Rd w uA sA) (hrB : Rd w uB sB) (hfA : Fit sA) (hfB : Fit sB) (hbA : bA < 18446744073709551616) (hbB : bB < 18446744073709551616) (hmA0 : (mA : Int) ≤ 9223372036854775807) (hmB0 : (mB : Int) ≤ 9223372036854775807) (hxA : (xA.size : Int) ≤ 9223372036854775807) (hxB : (xB.size : Int) ≤ 9223372036854775807) :
    Calls Tryz.prog 8 #[.agg #[.int .i64 kA, .bool yA, .bool nA, uA, .int .u64 (bA : Int), .string xA, .slice pAi mA cAi], .agg #[.int .i64 kB, .bool yB, .bool nB, uB, .int .u64 (bB : Int), .string xB, .slice pBi mB cBi]] w fun e w' => e = .returned (.bool (eqP (goodP kA yA nA sA bA xA mA) (goodP kB yB nB sB bB xB mB) (numP kA) (numP kB) (nuC kA kB bA bB (zP kA yA nA sA) (zP kB yB nB sB)) (nuB kA kB bA bB) kA kB xA xB)) ∧ Below w.heap.size w w' := by
  obtain ⟨pA, cA, rfl, hcA, hmA, hpA⟩ := rd_form hrA
  obtain ⟨pB, cB, rfl, hcB, hmB, hpB⟩ := rd_form hrB
  obtain ⟨W1, hW1⟩ : ∃ x, (w.alloc (.cells #[.int .i64 kA, .bool yA, .bool nA, .slice pA sA.length cA, .int .u64 (bA : Int), .string xA, .slice pAi mA cAi] 28)).alloc (.cells #[.int .i64 kB, .bool yB, .bool nB, .slice pB sB.length cB, .int .u64 (bB : Int), .string xB, .slice pBi mB cBi] 28) = x := ⟨_, rfl⟩
  have HB1 := Lib.hid (show Below w.heap.size w W1 by rw [← hW1]; exact ((Below.refl _ _).alloc (Nat.le_refl _) _).alloc (by simp) _)
  have HXA := Lib.hid (show Bx7 W1 (w.heap.size) (.int .i64 kA) (.bool yA) (.bool nA) (.slice pA sA.length cA) (.int .u64 (bA : Int)) (.string xA) (.slice pAi mA cAi) by rw [← hW1]; exact (Bx7.new w _ _ _ _ _ _ _ _ rfl).keep ((Below.refl _ _).alloc (Nat.le_refl _) _))
  have HXB := Lib.hid (show Bx7 W1 (w.heap.size + 1) (.int .i64 kB) (.bool yB) (.bool nB) (.slice pB sB.length cB) (.int .u64 (bB : Int)) (.string xB) (.slice pBi mB cBi) by rw [← hW1]; exact Bx7.new _ _ _ _ _ _ _ _ _ (by simp))
  have HRA := Lib.hid (hrA.keep HB1.out)
  have HRB := Lib.hid (hrB.keep HB1.out)
  have HGA := Lib.hid (fun (W : World) (hx : Below W1.heap.size W1 W) => good15_any kA yA nA _ sA bA xA pAi mA cAi W hbA (HRA.out.keep hx) hfA hmA0 hxA)
  have HGB := Lib.hid (fun (W : World) (hx : Below W1.heap.size W1 W) => good15_any kB yB nB _ sB bB xB pBi mB cBi W hbB (HRB.out.keep hx) hfB hmB0 hxB)
  have HNA := Lib.hid (fun (W : World) => isNumber_any kA yA nA (.slice pA sA.length cA) bA xA (.slice pAi mA cAi) W)
  have HNB := Lib.hid (fun (W : World) => isNumber_any kB yB nB (.slice pB sB.length cB) bB xB (.slice pBi mB cBi) W)
  have HKA := Lib.hid (fun (h : goodP kA yA nA sA bA xA mA = true) => good_k2 h)
  have HKB := Lib.hid (fun (h : goodP kB yB nB sB bB xB mB = true) => good_k2 h)
  have HCM := Lib.hid (fun (W : World) (hx : Below W1.heap.size W1 W) (hA : kA = 2 → goodB nA sA = true) (hB : kB = 2 → goodB nB sB = true) => compare_any kA yA nA _ sA bA xA (.slice pAi mA cAi) kB yB nB _ sB bB xB (.slice pBi mB cBi) W (HRA.out.keep hx) (HRB.out.keep hx) hfA hfB hA hB hbA hbB)
  have hb0 := Below.refl W1.heap.size W1
  obtain ⟨gA, hgA⟩ : ∃ g, goodP kA yA nA sA bA xA mA = g := ⟨_, rfl⟩
  obtain ⟨gB, hgB⟩ : ∃ g, goodP kB yB nB sB bB xB mB = g := ⟨_, rfl⟩
  obtain ⟨qA, hqA⟩ : ∃ g, numP kA = g := ⟨_, rfl⟩
  obtain ⟨qB, hqB⟩ : ∃ g, numP kB = g := ⟨_, rfl⟩
  rw [hgA] at HGA HKA
  rw [hgB] at HGB HKB
  rw [hqA] at HNA
  rw [hqB] at HNB
  have a0 := HXA.out.c0
  have a1 := HXA.out.c1
  have a2 := HXA.out.c2
  have a3 := HXA.out.c3
  have a4 := HXA.out.c4
  have a5 := HXA.out.c5
  have a6 := HXA.out.c6
  have d0 := HXB.out.c0
  have d1 := HXB.out.c1
  have d2 := HXB.out.c2
  have d3 := HXB.out.c3
  have d4 := HXB.out.c4
  have d5 := HXB.out.c5
  have d6 := HXB.out.c6
  have HV := Lib.hid (show eqP gA gB qA qB (nuC kA kB bA bB (zP kA yA nA sA) (zP kB yB nB sB)) (nuB kA kB bA bB) kA kB xA xB = (gA && gB && (if (qA && qB) = true then ((nuC kA kB bA bB (zP kA yA nA sA) (zP kB yB nB sB)) == 0) && (nuB kA kB bA bB) else (kA == kB) && (xA.toList == xB.toList))) from rfl)
  rw [hgA, hgB, hqA, hqB]
  obtain ⟨c, hc⟩ : ∃ c, nuC kA kB bA bB (zP kA yA nA sA) (zP kB yB nB sB) = c := ⟨_, rfl⟩
  obtain ⟨ok, hok⟩ : ∃ c, nuB kA kB bA bB = c := ⟨_, rfl⟩
  rw [hc, hok] at HV HCM ⊢
  obtain ⟨z0, hz0⟩ : ∃ z, (c == 0) = z := ⟨_, rfl⟩
  obtain ⟨ke, hke⟩ : ∃ z, (kA == kB) = z := ⟨_, rfl⟩
  obtain ⟨xe, hxe⟩ : ∃ z, (xA.toList == xB.toList) = z := ⟨_, rfl⟩
  rw [hz0, hke, hxe] at HV
  clear hrA hrB hfA hfB hpA hpB hgA hgB hqA hqB hc hok hbA hbB
  go_enter Tryz.func8, Tryz.ntmps8
  cases gA
  · go_wp2_with (first
      | (go_at_call 25; (with_reducible refine (HGA.out _ hb0).mono ?_); rintro e v1 ⟨rfl, hvv⟩; have hb1 : Below W1.heap.size W1 v1 := hb0.trans (hvv.mono hb0.size); have fa0 := below_cell hvv a0; have fa1 := below_cell hvv a1; have fa2 := below_cell hvv a2; have fa3 := below_cell hvv a3; have fa4 := below_cell hvv a4; have fa5 := below_cell hvv a5; have fa6 := below_cell hvv a6; have fd0 := below_cell hvv d0; have fd1 := below_cell hvv d1; have fd2 := below_cell hvv d2; have fd3 := below_cell hvv d3; have fd4 := below_cell hvv d4; have fd5 := below_cell hvv d5; have fd6 := below_cell hvv d6; clear hvv)
      | (go_at_call 25; (with_reducible refine (HGB.out _ hb1).mono ?_); rintro e v2 ⟨rfl, hvv⟩; have hb2 : Below W1.heap.size W1 v2 := hb1.trans (hvv.mono hb1.size); have ga0 := below_cell hvv fa0; have ga1 := below_cell hvv fa1; have ga2 := below_cell hvv fa2; have ga3 := below_cell hvv fa3; have ga4 := below_cell hvv fa4; have ga5 := below_cell hvv fa5; have ga6 := below_cell hvv fa6; have gd0 := below_cell hvv fd0; have gd1 := below_cell hvv fd1; have gd2 := below_cell hvv fd2; have gd3 := below_cell hvv fd3; have gd4 := below_cell hvv fd4; have gd5 := below_cell hvv fd5; have gd6 := below_cell hvv fd6; clear hvv)
      | fail)
    go_ret
    exact ⟨by rw [HV.out]; rfl, HB1.out.trans (hb1.mono HB1.out.size)⟩
  cases gB
  · go_wp2_with (first
      | (go_at_call 25; (with_reducible refine (HGA.out _ hb0).mono ?_); rintro e v1 ⟨rfl, hvv⟩; have hb1 : Below W1.heap.size W1 v1 := hb0.trans (hvv.mono hb0.size); have fa0 := below_cell hvv a0; have fa1 := below_cell hvv a1; have fa2 := below_cell hvv a2; have fa3 := below_cell hvv a3; have fa4 := below_cell hvv a4; have fa5 := below_cell hvv a5; have fa6 := below_cell hvv a6; have fd0 := below_cell hvv d0; have fd1 := below_cell hvv d1; have fd2 := below_cell hvv d2; have fd3 := below_cell hvv d3; have fd4 := below_cell hvv d4; have fd5 := below_cell hvv d5; have fd6 := below_cell hvv d6; clear hvv)
      | (go_at_call 25; (with_reducible refine (HGB.out _ hb1).mono ?_); rintro e v2 ⟨rfl, hvv⟩; have hb2 : Below W1.heap.size W1 v2 := hb1.trans (hvv.mono hb1.size); have ga0 := below_cell hvv fa0; have ga1 := below_cell hvv fa1; have ga2 := below_cell hvv fa2; have ga3 := below_cell hvv fa3; have ga4 := below_cell hvv fa4; have ga5 := below_cell hvv fa5; have ga6 := below_cell hvv fa6; have gd0 := below_cell hvv fd0; have gd1 := below_cell hvv fd1; have gd2 := below_cell hvv fd2; have gd3 := below_cell hvv fd3; have gd4 := below_cell hvv fd4; have gd5 := below_cell hvv fd5; have gd6 := below_cell hvv fd6; clear hvv)
      | fail)
    go_ret
    exact ⟨by rw [HV.out]; rfl, HB1.out.trans (hb2.mono HB1.out.size)⟩
  cases qA
  · simp only [Bool.true_and, Bool.false_and, Bool.false_eq_true, if_false] at HV
    cases ke
    all_goals
      go_wp2_with (first
        | (go_at_call 25; (with_reducible refine (HGA.out _ hb0).mono ?_); rintro e v1 ⟨rfl, hvv⟩; have hb1 : Below W1.heap.size W1 v1 := hb0.trans (hvv.mono hb0.size); have fa0 := below_cell hvv a0; have fa1 := below_cell hvv a1; have fa2 := below_cell hvv a2; have fa3 := below_cell hvv a3; have fa4 := below_cell hvv a4; have fa5 := below_cell hvv a5; have fa6 := below_cell hvv a6; have fd0 := below_cell hvv d0; have fd1 := below_cell hvv d1; have fd2 := below_cell hvv d2; have fd3 := below_cell hvv d3; have fd4 := below_cell hvv d4; have fd5 := below_cell hvv d5; have fd6 := below_cell hvv d6; clear hvv)
        | (go_at_call 25; (with_reducible refine (HGB.out _ hb1).mono ?_); rintro e v2 ⟨rfl, hvv⟩; have hb2 : Below W1.heap.size W1 v2 := hb1.trans (hvv.mono hb1.size); have ga0 := below_cell hvv fa0; have ga1 := below_cell hvv fa1; have ga2 := below_cell hvv fa2; have ga3 := below_cell hvv fa3; have ga4 := below_cell hvv fa4; have ga5 := below_cell hvv fa5; have ga6 := below_cell hvv fa6; have gd0 := below_cell hvv fd0; have gd1 := below_cell hvv fd1; have gd2 := below_cell hvv fd2; have gd3 := below_cell hvv fd3; have gd4 := below_cell hvv fd4; have gd5 := below_cell hvv fd5; have gd6 := below_cell hvv fd6; clear hvv)
        | (go_at_call 27; (with_reducible refine (HNA.out _).mono ?_); rintro e v3 ⟨rfl, hvv⟩; have hb3 : Below W1.heap.size W1 v3 := hb2.trans (hvv.mono hb2.size); have ka0 := below_cell hvv ga0; have ka1 := below_cell hvv ga1; have ka2 := below_cell hvv ga2; have ka3 := below_cell hvv ga3; have ka4 := below_cell hvv ga4; have ka5 := below_cell hvv ga5; have ka6 := below_cell hvv ga6; have kd0 := below_cell hvv gd0; have kd1 := below_cell hvv gd1; have kd2 := below_cell hvv gd2; have kd3 := below_cell hvv gd3; have kd4 := below_cell hvv gd4; have kd5 := below_cell hvv gd5; have kd6 := below_cell hvv gd6; clear hvv)
        | (go_at_call 27; (with_reducible refine (HNB.out _).mono ?_); rintro e v4 ⟨rfl, hvv⟩; have hb4 : Below W1.heap.size W1 v4 := hb3.trans (hvv.mono hb3.size); have ja0 := below_cell hvv ka0; have ja1 := below_cell hvv ka1; have ja2 := below_cell hvv ka2; have ja3 := below_cell hvv ka3; have ja4 := below_cell hvv ka4; have ja5 := below_cell hvv ka5; have ja6 := below_cell hvv ka6; have jd0 := below_cell hvv kd0; have jd1 := below_cell hvv kd1; have jd2 := below_cell hvv kd2; have jd3 := below_cell hvv kd3; have jd4 := below_cell hvv kd4; have jd5 := below_cell hvv kd5; have jd6 := below_cell hvv kd6; clear hvv)
        | fail)
      go_ret
      exact ⟨by rw [HV.out]; rfl, HB1.out.trans (hb3.mono HB1.out.size)⟩
  cases qB
  · simp only [Bool.true_and, Bool.and_false, Bool.false_eq_true, if_false] at HV
    cases ke
    all_goals
      go_wp2_with (first
        | (go_at_call 25; (with_reducible refine (HGA.out _ hb0).mono ?_); rintro e v1 ⟨rfl, hvv⟩; have hb1 : Below W1.heap.size W1 v1 := hb0.trans (hvv.mono hb0.size); have fa0 := below_cell hvv a0; have fa1 := below_cell hvv a1; have fa2 := below_cell hvv a2; have fa3 := below_cell hvv a3; have fa4 := below_cell hvv a4; have fa5 := below_cell hvv a5; have fa6 := below_cell hvv a6; have fd0 := below_cell hvv d0; have fd1 := below_cell hvv d1; have fd2 := below_cell hvv d2; have fd3 := below_cell hvv d3; have fd4 := below_cell hvv d4; have fd5 := below_cell hvv d5; have fd6 := below_cell hvv d6; clear hvv)
        | (go_at_call 25; (with_reducible refine (HGB.out _ hb1).mono ?_); rintro e v2 ⟨rfl, hvv⟩; have hb2 : Below W1.heap.size W1 v2 := hb1.trans (hvv.mono hb1.size); have ga0 := below_cell hvv fa0; have ga1 := below_cell hvv fa1; have ga2 := below_cell hvv fa2; have ga3 := below_cell hvv fa3; have ga4 := below_cell hvv fa4; have ga5 := below_cell hvv fa5; have ga6 := below_cell hvv fa6; have gd0 := below_cell hvv fd0; have gd1 := below_cell hvv fd1; have gd2 := below_cell hvv fd2; have gd3 := below_cell hvv fd3; have gd4 := below_cell hvv fd4; have gd5 := below_cell hvv fd5; have gd6 := below_cell hvv fd6; clear hvv)
        | (go_at_call 27; (with_reducible refine (HNA.out _).mono ?_); rintro e v3 ⟨rfl, hvv⟩; have hb3 : Below W1.heap.size W1 v3 := hb2.trans (hvv.mono hb2.size); have ka0 := below_cell hvv ga0; have ka1 := below_cell hvv ga1; have ka2 := below_cell hvv ga2; have ka3 := below_cell hvv ga3; have ka4 := below_cell hvv ga4; have ka5 := below_cell hvv ga5; have ka6 := below_cell hvv ga6; have kd0 := below_cell hvv gd0; have kd1 := below_cell hvv gd1; have kd2 := below_cell hvv gd2; have kd3 := below_cell hvv gd3; have kd4 := below_cell hvv gd4; have kd5 := below_cell hvv gd5; have kd6 := below_cell hvv gd6; clear hvv)
        | (go_at_call 27; (with_reducible refine (HNB.out _).mono ?_); rintro e v4 ⟨rfl, hvv⟩; have hb4 : Below W1.heap.size W1 v4 := hb3.trans (hvv.mono hb3.size); have ja0 := below_cell hvv ka0; have ja1 := below_cell hvv ka1; have ja2 := below_cell hvv ka2; have ja3 := below_cell hvv ka3; have ja4 := below_cell hvv ka4; have ja5 := below_cell hvv ka5; have ja6 := below_cell hvv ka6; have jd0 := below_cell hvv kd0; have jd1 := below_cell hvv kd1; have jd2 := below_cell hvv kd2; have jd3 := below_cell hvv kd3; have jd4 := below_cell hvv kd4; have jd5 := below_cell hvv kd5; have jd6 := below_cell hvv kd6; clear hvv)
        | fail)
      go_ret
      exact ⟨by rw [HV.out]; rfl, HB1.out.trans (hb4.mono HB1.out.size)⟩
  simp only [Bool.true_and, Bool.and_true, if_true] at HV
  cases z0
  all_goals
    go_wp2_with (first
      | (go_at_call 25; (with_reducible refine (HGA.out _ hb0).mono ?_); rintro e v1 ⟨rfl, hvv⟩; have hb1 : Below W1.heap.size W1 v1 := hb0.trans (hvv.mono hb0.size); have fa0 := below_cell hvv a0; have fa1 := below_cell hvv a1; have fa2 := below_cell hvv a2; have fa3 := below_cell hvv a3; have fa4 := below_cell hvv a4; have fa5 := below_cell hvv a5; have fa6 := below_cell hvv a6; have fd0 := below_cell hvv d0; have fd1 := below_cell hvv d1; have fd2 := below_cell hvv d2; have fd3 := below_cell hvv d3; have fd4 := below_cell hvv d4; have fd5 := below_cell hvv d5; have fd6 := below_cell hvv d6; clear hvv)
      | (go_at_call 25; (with_reducible refine (HGB.out _ hb1).mono ?_); rintro e v2 ⟨rfl, hvv⟩; have hb2 : Below W1.heap.size W1 v2 := hb1.trans (hvv.mono hb1.size); have ga0 := below_cell hvv fa0; have ga1 := below_cell hvv fa1; have ga2 := below_cell hvv fa2; have ga3 := below_cell hvv fa3; have ga4 := below_cell hvv fa4; have ga5 := below_cell hvv fa5; have ga6 := below_cell hvv fa6; have gd0 := below_cell hvv fd0; have gd1 := below_cell hvv fd1; have gd2 := below_cell hvv fd2; have gd3 := below_cell hvv fd3; have gd4 := below_cell hvv fd4; have gd5 := below_cell hvv fd5; have gd6 := below_cell hvv fd6; clear hvv)
      | (go_at_call 27; (with_reducible refine (HNA.out _).mono ?_); rintro e v3 ⟨rfl, hvv⟩; have hb3 : Below W1.heap.size W1 v3 := hb2.trans (hvv.mono hb2.size); have ka0 := below_cell hvv ga0; have ka1 := below_cell hvv ga1; have ka2 := below_cell hvv ga2; have ka3 := below_cell hvv ga3; have ka4 := below_cell hvv ga4; have ka5 := below_cell hvv ga5; have ka6 := below_cell hvv ga6; have kd0 := below_cell hvv gd0; have kd1 := below_cell hvv gd1; have kd2 := below_cell hvv gd2; have kd3 := below_cell hvv gd3; have kd4 := below_cell hvv gd4; have kd5 := below_cell hvv gd5; have kd6 := below_cell hvv gd6; clear hvv)
      | (go_at_call 27; (with_reducible refine (HNB.out _).mono ?_); rintro e v4 ⟨rfl, hvv⟩; have hb4 : Below W1.heap.size W1 v4 := hb3.trans (hvv.mono hb3.size); have ja0 := below_cell hvv ka0; have ja1 := below_cell hvv ka1; have ja2 := below_cell hvv ka2; have ja3 := below_cell hvv ka3; have ja4 := below_cell hvv ka4; have ja5 := below_cell hvv ka5; have ja6 := below_cell hvv ka6; have jd0 := below_cell hvv kd0; have jd1 := below_cell hvv kd1; have jd2 := below_cell hvv kd2; have jd3 := below_cell hvv kd3; have jd4 := below_cell hvv kd4; have jd5 := below_cell hvv kd5; have jd6 := below_cell hvv kd6; clear hvv)
      | (go_at_call 28; (with_reducible refine (HCM.out _ hb4 (fun h => by first | exact HKA.out rfl h | exact HKA.out trivial h) (fun h => by first | exact HKB.out rfl h | exact HKB.out trivial h)).mono ?_); rintro e v5 ⟨rfl, hvv⟩; have hb5 : Below W1.heap.size W1 v5 := hb4.trans (hvv.mono hb4.size); have ma0 := below_cell hvv ja0; have ma1 := below_cell hvv ja1; have ma2 := below_cell hvv ja2; have ma3 := below_cell hvv ja3; have ma4 := below_cell hvv ja4; have ma5 := below_cell hvv ja5; have ma6 := below_cell hvv ja6; have md0 := below_cell hvv jd0; have md1 := below_cell hvv jd1; have md2 := below_cell hvv jd2; have md3 := below_cell hvv jd3; have md4 := below_cell hvv jd4; have md5 := below_cell hvv jd5; have md6 := below_cell hvv jd6; clear hvv)
      | fail)
    go_ret
    exact ⟨by rw [HV.out]; rfl, HB1.out.trans (hb5.mono HB1.out.size)⟩
end
section
open Go Go.ChangeShapes Go.WideShapes Go.ChangeAt Go.RowKit
set_option linter.unusedVariables false
set_option linter.unusedSimpArgs false
/-- The order of two plain values, whether there is one, and the error. -/
def orC (gA gB fA fB qA qB : Bool) (c s : Int) : Int := if (gA && gB) = true then (if (fA && fB) = true then s else if (qA && qB) = true then c else 0) else 0
def orB (gA gB fA fB qA qB ok : Bool) : Bool := gA && gB && (if (fA && fB) = true then true else if (qA && qB) = true then ok else false)
def orE (gA gB fA fB qA qB : Bool) : Int := if (gA && gB) = true then (if (fA && fB) = true then 0 else if (qA && qB) = true then 0 else 9) else 3
theorem compareBytes_lo : ∀ a b : List UInt8, -1 ≤ Lib.compareBytes a b ∧ Lib.compareBytes a b ≤ 1
  | [], [] => by simp [Lib.compareBytes]
  | [], _ :: _ => by simp [Lib.compareBytes]
  | _ :: _, [] => by simp [Lib.compareBytes]
  | a :: ta, b :: tb => by
    unfold Lib.compareBytes
    have := compareBytes_lo ta tb
    split
    · omega
    · split
      · omega
      · exact this
set_option maxRecDepth 100000 in
set_option maxHeartbeats 8000000 in
theorem order_any15 (kA : Int) (yA nA : Bool) (uA : Value) (sA : List Int) (bA : Nat) (xA : ByteArray) (pAi : Option Addr) (mA cAi : Nat) (kB : Int) (yB nB : Bool) (uB : Value) (sB : List Int) (bB : Nat) (xB : ByteArray) (pBi : Option Addr) (mB cBi : Nat) (w : World) (hrA : Rd w uA sA) (hrB : Rd w uB sB) (hfA : Fit sA) (hfB : Fit sB) (hbA : bA < 18446744073709551616) (hbB : bB < 18446744073709551616) (hmA0 : (mA : Int) ≤ 9223372036854775807) (hmB0 : (mB : Int) ≤ 9223372036854775807) (hxA : (xA.size : Int) ≤ 9223372036854775807) (hxB : (xB.size : Int) ≤ 9223372036854775807) :
    Calls Tryz.prog 6 #[.agg #[.int .i64 kA, .bool yA, .bool nA, uA, .int .u64 (bA : Int), .string xA, .slice pAi mA cAi], .agg #[.int .i64 kB, .bool yB, .bool nB, uB, .int .u64 (bB : Int), .string xB, .slice pBi mB cBi]] w fun e w' => e = .returned (.tuple #[.int .i64 (orC (goodP kA yA nA sA bA xA mA) (goodP kB yB nB sB bB xB mB) (kA == 4) (kB == 4) (numP kA) (numP kB) (nuC kA kB bA bB (zP kA yA nA sA) (zP kB yB nB sB)) (Lib.compareBytes xA.data.toList xB.data.toList)), .bool (orB (goodP kA yA nA sA bA xA mA) (goodP kB yB nB sB bB xB mB) (kA == 4) (kB == 4) (numP kA) (numP kB) (nuB kA kB bA bB)), .int .i64 (orE (goodP kA yA nA sA bA xA mA) (goodP kB yB nB sB bB xB mB) (kA == 4) (kB == 4) (numP kA) (numP kB))]) ∧ Below w.heap.size w w' := by
  obtain ⟨pA, cA, rfl, hcA, hmA, hpA⟩ := rd_form hrA
  obtain ⟨pB, cB, rfl, hcB, hmB, hpB⟩ := rd_form hrB
  obtain ⟨W1, hW1⟩ : ∃ x, (w.alloc (.cells #[.int .i64 kA, .bool yA, .bool nA, .slice pA sA.length cA, .int .u64 (bA : Int), .string xA, .slice pAi mA cAi] 28)).alloc (.cells #[.int .i64 kB, .bool yB, .bool nB, .slice pB sB.length cB, .int .u64 (bB : Int), .string xB, .slice pBi mB cBi] 28) = x := ⟨_, rfl⟩
  have HB1 := Lib.hid (show Below w.heap.size w W1 by rw [← hW1]; exact ((Below.refl _ _).alloc (Nat.le_refl _) _).alloc (by simp) _)
  have HXA := Lib.hid (show Bx7 W1 (w.heap.size) (.int .i64 kA) (.bool yA) (.bool nA) (.slice pA sA.length cA) (.int .u64 (bA : Int)) (.string xA) (.slice pAi mA cAi) by rw [← hW1]; exact (Bx7.new w _ _ _ _ _ _ _ _ rfl).keep ((Below.refl _ _).alloc (Nat.le_refl _) _))
  have HXB := Lib.hid (show Bx7 W1 (w.heap.size + 1) (.int .i64 kB) (.bool yB) (.bool nB) (.slice pB sB.length cB) (.int .u64 (bB : Int)) (.string xB) (.slice pBi mB cBi) by rw [← hW1]; exact Bx7.new _ _ _ _ _ _ _ _ _ (by simp))
  have HRA := Lib.hid (hrA.keep HB1.out)
  have HRB := Lib.hid (hrB.keep HB1.out)
  have HGA := Lib.hid (fun (W : World) (hx : Below W1.heap.size W1 W) => good15_any kA yA nA _ sA bA xA pAi mA cAi W hbA (HRA.out.keep hx) hfA hmA0 hxA)
  have HGB := Lib.hid (fun (W : World) (hx : Below W1.heap.size W1 W) => good15_any kB yB nB _ sB bB xB pBi mB cBi W hbB (HRB.out.keep hx) hfB hmB0 hxB)
  have HNA := Lib.hid (fun (W : World) => isNumber_any kA yA nA (.slice pA sA.length cA) bA xA (.slice pAi mA cAi) W)
  have HNB := Lib.hid (fun (W : World) => isNumber_any kB yB nB (.slice pB sB.length cB) bB xB (.slice pBi mB cBi) W)
  have HKA := Lib.hid (fun (h : goodP kA yA nA sA bA xA mA = true) => good_k2 h)
  have HKB := Lib.hid (fun (h : goodP kB yB nB sB bB xB mB = true) => good_k2 h)
  have HCM := Lib.hid (fun (W : World) (hx : Below W1.heap.size W1 W) (hA : kA = 2 → goodB nA sA = true) (hB : kB = 2 → goodB nB sB = true) => compare_any kA yA nA _ sA bA xA (.slice pAi mA cAi) kB yB nB _ sB bB xB (.slice pBi mB cBi) W (HRA.out.keep hx) (HRB.out.keep hx) hfA hfB hA hB hbA hbB)
  have hb0 := Below.refl W1.heap.size W1
  obtain ⟨gA, hgA⟩ : ∃ g, goodP kA yA nA sA bA xA mA = g := ⟨_, rfl⟩
  obtain ⟨gB, hgB⟩ : ∃ g, goodP kB yB nB sB bB xB mB = g := ⟨_, rfl⟩
  obtain ⟨qA, hqA⟩ : ∃ g, numP kA = g := ⟨_, rfl⟩
  obtain ⟨qB, hqB⟩ : ∃ g, numP kB = g := ⟨_, rfl⟩
  rw [hgA] at HGA HKA
  rw [hgB] at HGB HKB
  rw [hqA] at HNA
  rw [hqB] at HNB
  have a0 := HXA.out.c0
  have a1 := HXA.out.c1
  have a2 := HXA.out.c2
  have a3 := HXA.out.c3
  have a4 := HXA.out.c4
  have a5 := HXA.out.c5
  have a6 := HXA.out.c6
  have d0 := HXB.out.c0
  have d1 := HXB.out.c1
  have d2 := HXB.out.c2
  have d3 := HXB.out.c3
  have d4 := HXB.out.c4
  have d5 := HXB.out.c5
  have d6 := HXB.out.c6
  have HST := Lib.hid (fun W => (Tryz.strings_Compare xA xB W).mono (fun e w' (h : e = .returned (.int .i64 (Lib.compareBytes xA.data.toList xB.data.toList)) ∧ w' = W) => (⟨h.1, h.2.symm⟩ : e = .returned (.int .i64 (Lib.compareBytes xA.data.toList xB.data.toList)) ∧ W = w')))
  have hsl := compareBytes_lo xA.data.toList xB.data.toList
  obtain ⟨sv, hsv⟩ : ∃ c, Lib.compareBytes xA.data.toList xB.data.toList = c := ⟨_, rfl⟩
  rw [hsv] at HST hsl ⊢
  rw [hgA, hgB, hqA, hqB]
  obtain ⟨c, hc⟩ : ∃ c, nuC kA kB bA bB (zP kA yA nA sA) (zP kB yB nB sB) = c := ⟨_, rfl⟩
  obtain ⟨ok, hok⟩ : ∃ c, nuB kA kB bA bB = c := ⟨_, rfl⟩
  rw [hc, hok] at HCM ⊢
  obtain ⟨fA, hfA4⟩ : ∃ z, (kA == 4) = z := ⟨_, rfl⟩
  obtain ⟨fB, hfB4⟩ : ∃ z, (kB == 4) = z := ⟨_, rfl⟩
  rw [hfA4, hfB4]
  have HV1 := Lib.hid (show orC gA gB fA fB qA qB c sv = if (gA && gB) = true then (if (fA && fB) = true then sv else if (qA && qB) = true then c else 0) else 0 from rfl)
  have HV2 := Lib.hid (show orB gA gB fA fB qA qB ok = (gA && gB && (if (fA && fB) = true then true else if (qA && qB) = true then ok else false)) from rfl)
  have HV3 := Lib.hid (show orE gA gB fA fB qA qB = if (gA && gB) = true then (if (fA && fB) = true then 0 else if (qA && qB) = true then 0 else 9) else 3 from rfl)
  clear hrA hrB hfA hfB hpA hpB hgA hgB hqA hqB hc hok hbA hbB hsv
  go_enter Tryz.func6, Tryz.ntmps6
  cases gA
  · go_wp2_with (first
      | (go_at_call 25; (with_reducible refine (HGA.out _ hb0).mono ?_); rintro e v1 ⟨rfl, hvv⟩; have hb1 : Below W1.heap.size W1 v1 := hb0.trans (hvv.mono hb0.size); have fa0 := below_cell hvv a0; have fa1 := below_cell hvv a1; have fa2 := below_cell hvv a2; have fa3 := below_cell hvv a3; have fa4 := below_cell hvv a4; have fa5 := below_cell hvv a5; have fa6 := below_cell hvv a6; have fd0 := below_cell hvv d0; have fd1 := below_cell hvv d1; have fd2 := below_cell hvv d2; have fd3 := below_cell hvv d3; have fd4 := below_cell hvv d4; have fd5 := below_cell hvv d5; have fd6 := below_cell hvv d6; clear hvv)
      | (go_at_call 25; (with_reducible refine (HGB.out _ hb1).mono ?_); rintro e v2 ⟨rfl, hvv⟩; have hb2 : Below W1.heap.size W1 v2 := hb1.trans (hvv.mono hb1.size); have ga0 := below_cell hvv fa0; have ga1 := below_cell hvv fa1; have ga2 := below_cell hvv fa2; have ga3 := below_cell hvv fa3; have ga4 := below_cell hvv fa4; have ga5 := below_cell hvv fa5; have ga6 := below_cell hvv fa6; have gd0 := below_cell hvv fd0; have gd1 := below_cell hvv fd1; have gd2 := below_cell hvv fd2; have gd3 := below_cell hvv fd3; have gd4 := below_cell hvv fd4; have gd5 := below_cell hvv fd5; have gd6 := below_cell hvv fd6; clear hvv)
      | fail)
    go_ret3
    exact ⟨by rw [HV1.out, HV2.out, HV3.out]; rfl, HB1.out.trans (hb1.mono HB1.out.size)⟩
  cases gB
  · go_wp2_with (first
      | (go_at_call 25; (with_reducible refine (HGA.out _ hb0).mono ?_); rintro e v1 ⟨rfl, hvv⟩; have hb1 : Below W1.heap.size W1 v1 := hb0.trans (hvv.mono hb0.size); have fa0 := below_cell hvv a0; have fa1 := below_cell hvv a1; have fa2 := below_cell hvv a2; have fa3 := below_cell hvv a3; have fa4 := below_cell hvv a4; have fa5 := below_cell hvv a5; have fa6 := below_cell hvv a6; have fd0 := below_cell hvv d0; have fd1 := below_cell hvv d1; have fd2 := below_cell hvv d2; have fd3 := below_cell hvv d3; have fd4 := below_cell hvv d4; have fd5 := below_cell hvv d5; have fd6 := below_cell hvv d6; clear hvv)
      | (go_at_call 25; (with_reducible refine (HGB.out _ hb1).mono ?_); rintro e v2 ⟨rfl, hvv⟩; have hb2 : Below W1.heap.size W1 v2 := hb1.trans (hvv.mono hb1.size); have ga0 := below_cell hvv fa0; have ga1 := below_cell hvv fa1; have ga2 := below_cell hvv fa2; have ga3 := below_cell hvv fa3; have ga4 := below_cell hvv fa4; have ga5 := below_cell hvv fa5; have ga6 := below_cell hvv fa6; have gd0 := below_cell hvv fd0; have gd1 := below_cell hvv fd1; have gd2 := below_cell hvv fd2; have gd3 := below_cell hvv fd3; have gd4 := below_cell hvv fd4; have gd5 := below_cell hvv fd5; have gd6 := below_cell hvv fd6; clear hvv)
      | fail)
    go_ret3
    exact ⟨by rw [HV1.out, HV2.out, HV3.out]; rfl, HB1.out.trans (hb2.mono HB1.out.size)⟩
  simp only [Bool.and_self, if_true, Bool.true_and] at HV1 HV2 HV3
  have w4 : (fA = true ∧ fB = true) ∨ fA = false ∨ (fA = true ∧ fB = false) := by cases fA <;> cases fB <;> simp
  rcases w4 with ⟨rfl, rfl⟩ | hw
  · go_wp2_with (first
      | (go_at_call 25; (with_reducible refine (HGA.out _ hb0).mono ?_); rintro e v1 ⟨rfl, hvv⟩; have hb1 : Below W1.heap.size W1 v1 := hb0.trans (hvv.mono hb0.size); have fa0 := below_cell hvv a0; have fa1 := below_cell hvv a1; have fa2 := below_cell hvv a2; have fa3 := below_cell hvv a3; have fa4 := below_cell hvv a4; have fa5 := below_cell hvv a5; have fa6 := below_cell hvv a6; have fd0 := below_cell hvv d0; have fd1 := below_cell hvv d1; have fd2 := below_cell hvv d2; have fd3 := below_cell hvv d3; have fd4 := below_cell hvv d4; have fd5 := below_cell hvv d5; have fd6 := below_cell hvv d6; clear hvv)
      | (go_at_call 25; (with_reducible refine (HGB.out _ hb1).mono ?_); rintro e v2 ⟨rfl, hvv⟩; have hb2 : Below W1.heap.size W1 v2 := hb1.trans (hvv.mono hb1.size); have ga0 := below_cell hvv fa0; have ga1 := below_cell hvv fa1; have ga2 := below_cell hvv fa2; have ga3 := below_cell hvv fa3; have ga4 := below_cell hvv fa4; have ga5 := below_cell hvv fa5; have ga6 := below_cell hvv fa6; have gd0 := below_cell hvv fd0; have gd1 := below_cell hvv fd1; have gd2 := below_cell hvv fd2; have gd3 := below_cell hvv fd3; have gd4 := below_cell hvv fd4; have gd5 := below_cell hvv fd5; have gd6 := below_cell hvv fd6; clear hvv)
      | (go_at_call 26; (with_reducible refine (HST.out _).mono ?_); rintro e w9 ⟨rfl, rfl⟩)
      | fail)
    go_ret3
    exact ⟨by rw [HV1.out, HV2.out, HV3.out]; rfl, HB1.out.trans (hb2.mono HB1.out.size)⟩
  have hw2 : (fA && fB) = false := by rcases hw with rfl | ⟨rfl, rfl⟩ <;> simp
  rw [hw2] at HV1 HV2 HV3
  simp only [Bool.false_eq_true, if_false] at HV1 HV2 HV3
  clear hw2
  rcases hw with rfl | ⟨rfl, rfl⟩
  all_goals
    cases qA
    · go_wp2_with (first
        | (go_at_call 25; (with_reducible refine (HGA.out _ hb0).mono ?_); rintro e v1 ⟨rfl, hvv⟩; have hb1 : Below W1.heap.size W1 v1 := hb0.trans (hvv.mono hb0.size); have fa0 := below_cell hvv a0; have fa1 := below_cell hvv a1; have fa2 := below_cell hvv a2; have fa3 := below_cell hvv a3; have fa4 := below_cell hvv a4; have fa5 := below_cell hvv a5; have fa6 := below_cell hvv a6; have fd0 := below_cell hvv d0; have fd1 := below_cell hvv d1; have fd2 := below_cell hvv d2; have fd3 := below_cell hvv d3; have fd4 := below_cell hvv d4; have fd5 := below_cell hvv d5; have fd6 := below_cell hvv d6; clear hvv)
        | (go_at_call 25; (with_reducible refine (HGB.out _ hb1).mono ?_); rintro e v2 ⟨rfl, hvv⟩; have hb2 : Below W1.heap.size W1 v2 := hb1.trans (hvv.mono hb1.size); have ga0 := below_cell hvv fa0; have ga1 := below_cell hvv fa1; have ga2 := below_cell hvv fa2; have ga3 := below_cell hvv fa3; have ga4 := below_cell hvv fa4; have ga5 := below_cell hvv fa5; have ga6 := below_cell hvv fa6; have gd0 := below_cell hvv fd0; have gd1 := below_cell hvv fd1; have gd2 := below_cell hvv fd2; have gd3 := below_cell hvv fd3; have gd4 := below_cell hvv fd4; have gd5 := below_cell hvv fd5; have gd6 := below_cell hvv fd6; clear hvv)
        | (go_at_call 27; (with_reducible refine (HNA.out _).mono ?_); rintro e v3 ⟨rfl, hvv⟩; have hb3 : Below W1.heap.size W1 v3 := hb2.trans (hvv.mono hb2.size); have ka0 := below_cell hvv ga0; have ka1 := below_cell hvv ga1; have ka2 := below_cell hvv ga2; have ka3 := below_cell hvv ga3; have ka4 := below_cell hvv ga4; have ka5 := below_cell hvv ga5; have ka6 := below_cell hvv ga6; have kd0 := below_cell hvv gd0; have kd1 := below_cell hvv gd1; have kd2 := below_cell hvv gd2; have kd3 := below_cell hvv gd3; have kd4 := below_cell hvv gd4; have kd5 := below_cell hvv gd5; have kd6 := below_cell hvv gd6; clear hvv)
        | (go_at_call 27; (with_reducible refine (HNB.out _).mono ?_); rintro e v4 ⟨rfl, hvv⟩; have hb4 : Below W1.heap.size W1 v4 := hb3.trans (hvv.mono hb3.size); have ja0 := below_cell hvv ka0; have ja1 := below_cell hvv ka1; have ja2 := below_cell hvv ka2; have ja3 := below_cell hvv ka3; have ja4 := below_cell hvv ka4; have ja5 := below_cell hvv ka5; have ja6 := below_cell hvv ka6; have jd0 := below_cell hvv kd0; have jd1 := below_cell hvv kd1; have jd2 := below_cell hvv kd2; have jd3 := below_cell hvv kd3; have jd4 := below_cell hvv kd4; have jd5 := below_cell hvv kd5; have jd6 := below_cell hvv kd6; clear hvv)
        | fail)
      go_ret3
      exact ⟨by rw [HV1.out, HV2.out, HV3.out]; rfl, HB1.out.trans (hb3.mono HB1.out.size)⟩
    cases qB
    · go_wp2_with (first
        | (go_at_call 25; (with_reducible refine (HGA.out _ hb0).mono ?_); rintro e v1 ⟨rfl, hvv⟩; have hb1 : Below W1.heap.size W1 v1 := hb0.trans (hvv.mono hb0.size); have fa0 := below_cell hvv a0; have fa1 := below_cell hvv a1; have fa2 := below_cell hvv a2; have fa3 := below_cell hvv a3; have fa4 := below_cell hvv a4; have fa5 := below_cell hvv a5; have fa6 := below_cell hvv a6; have fd0 := below_cell hvv d0; have fd1 := below_cell hvv d1; have fd2 := below_cell hvv d2; have fd3 := below_cell hvv d3; have fd4 := below_cell hvv d4; have fd5 := below_cell hvv d5; have fd6 := below_cell hvv d6; clear hvv)
        | (go_at_call 25; (with_reducible refine (HGB.out _ hb1).mono ?_); rintro e v2 ⟨rfl, hvv⟩; have hb2 : Below W1.heap.size W1 v2 := hb1.trans (hvv.mono hb1.size); have ga0 := below_cell hvv fa0; have ga1 := below_cell hvv fa1; have ga2 := below_cell hvv fa2; have ga3 := below_cell hvv fa3; have ga4 := below_cell hvv fa4; have ga5 := below_cell hvv fa5; have ga6 := below_cell hvv fa6; have gd0 := below_cell hvv fd0; have gd1 := below_cell hvv fd1; have gd2 := below_cell hvv fd2; have gd3 := below_cell hvv fd3; have gd4 := below_cell hvv fd4; have gd5 := below_cell hvv fd5; have gd6 := below_cell hvv fd6; clear hvv)
        | (go_at_call 27; (with_reducible refine (HNA.out _).mono ?_); rintro e v3 ⟨rfl, hvv⟩; have hb3 : Below W1.heap.size W1 v3 := hb2.trans (hvv.mono hb2.size); have ka0 := below_cell hvv ga0; have ka1 := below_cell hvv ga1; have ka2 := below_cell hvv ga2; have ka3 := below_cell hvv ga3; have ka4 := below_cell hvv ga4; have ka5 := below_cell hvv ga5; have ka6 := below_cell hvv ga6; have kd0 := below_cell hvv gd0; have kd1 := below_cell hvv gd1; have kd2 := below_cell hvv gd2; have kd3 := below_cell hvv gd3; have kd4 := below_cell hvv gd4; have kd5 := below_cell hvv gd5; have kd6 := below_cell hvv gd6; clear hvv)
        | (go_at_call 27; (with_reducible refine (HNB.out _).mono ?_); rintro e v4 ⟨rfl, hvv⟩; have hb4 : Below W1.heap.size W1 v4 := hb3.trans (hvv.mono hb3.size); have ja0 := below_cell hvv ka0; have ja1 := below_cell hvv ka1; have ja2 := below_cell hvv ka2; have ja3 := below_cell hvv ka3; have ja4 := below_cell hvv ka4; have ja5 := below_cell hvv ka5; have ja6 := below_cell hvv ka6; have jd0 := below_cell hvv kd0; have jd1 := below_cell hvv kd1; have jd2 := below_cell hvv kd2; have jd3 := below_cell hvv kd3; have jd4 := below_cell hvv kd4; have jd5 := below_cell hvv kd5; have jd6 := below_cell hvv kd6; clear hvv)
        | fail)
      go_ret3
      exact ⟨by rw [HV1.out, HV2.out, HV3.out]; rfl, HB1.out.trans (hb4.mono HB1.out.size)⟩
    go_wp2_with (first
      | (go_at_call 25; (with_reducible refine (HGA.out _ hb0).mono ?_); rintro e v1 ⟨rfl, hvv⟩; have hb1 : Below W1.heap.size W1 v1 := hb0.trans (hvv.mono hb0.size); have fa0 := below_cell hvv a0; have fa1 := below_cell hvv a1; have fa2 := below_cell hvv a2; have fa3 := below_cell hvv a3; have fa4 := below_cell hvv a4; have fa5 := below_cell hvv a5; have fa6 := below_cell hvv a6; have fd0 := below_cell hvv d0; have fd1 := below_cell hvv d1; have fd2 := below_cell hvv d2; have fd3 := below_cell hvv d3; have fd4 := below_cell hvv d4; have fd5 := below_cell hvv d5; have fd6 := below_cell hvv d6; clear hvv)
      | (go_at_call 25; (with_reducible refine (HGB.out _ hb1).mono ?_); rintro e v2 ⟨rfl, hvv⟩; have hb2 : Below W1.heap.size W1 v2 := hb1.trans (hvv.mono hb1.size); have ga0 := below_cell hvv fa0; have ga1 := below_cell hvv fa1; have ga2 := below_cell hvv fa2; have ga3 := below_cell hvv fa3; have ga4 := below_cell hvv fa4; have ga5 := below_cell hvv fa5; have ga6 := below_cell hvv fa6; have gd0 := below_cell hvv fd0; have gd1 := below_cell hvv fd1; have gd2 := below_cell hvv fd2; have gd3 := below_cell hvv fd3; have gd4 := below_cell hvv fd4; have gd5 := below_cell hvv fd5; have gd6 := below_cell hvv fd6; clear hvv)
      | (go_at_call 27; (with_reducible refine (HNA.out _).mono ?_); rintro e v3 ⟨rfl, hvv⟩; have hb3 : Below W1.heap.size W1 v3 := hb2.trans (hvv.mono hb2.size); have ka0 := below_cell hvv ga0; have ka1 := below_cell hvv ga1; have ka2 := below_cell hvv ga2; have ka3 := below_cell hvv ga3; have ka4 := below_cell hvv ga4; have ka5 := below_cell hvv ga5; have ka6 := below_cell hvv ga6; have kd0 := below_cell hvv gd0; have kd1 := below_cell hvv gd1; have kd2 := below_cell hvv gd2; have kd3 := below_cell hvv gd3; have kd4 := below_cell hvv gd4; have kd5 := below_cell hvv gd5; have kd6 := below_cell hvv gd6; clear hvv)
      | (go_at_call 27; (with_reducible refine (HNB.out _).mono ?_); rintro e v4 ⟨rfl, hvv⟩; have hb4 : Below W1.heap.size W1 v4 := hb3.trans (hvv.mono hb3.size); have ja0 := below_cell hvv ka0; have ja1 := below_cell hvv ka1; have ja2 := below_cell hvv ka2; have ja3 := below_cell hvv ka3; have ja4 := below_cell hvv ka4; have ja5 := below_cell hvv ka5; have ja6 := below_cell hvv ka6; have jd0 := below_cell hvv kd0; have jd1 := below_cell hvv kd1; have jd2 := below_cell hvv kd2; have jd3 := below_cell hvv kd3; have jd4 := below_cell hvv kd4; have jd5 := below_cell hvv kd5; have jd6 := below_cell hvv kd6; clear hvv)
      | (go_at_call 28; (with_reducible refine (HCM.out _ hb4 (fun h => by first | exact HKA.out rfl h | exact HKA.out trivial h) (fun h => by first | exact HKB.out rfl h | exact HKB.out trivial h)).mono ?_); rintro e v5 ⟨rfl, hvv⟩; have hb5 : Below W1.heap.size W1 v5 := hb4.trans (hvv.mono hb4.size); have ma0 := below_cell hvv ja0; have ma1 := below_cell hvv ja1; have ma2 := below_cell hvv ja2; have ma3 := below_cell hvv ja3; have ma4 := below_cell hvv ja4; have ma5 := below_cell hvv ja5; have ma6 := below_cell hvv ja6; have md0 := below_cell hvv jd0; have md1 := below_cell hvv jd1; have md2 := below_cell hvv jd2; have md3 := below_cell hvv jd3; have md4 := below_cell hvv jd4; have md5 := below_cell hvv jd5; have md6 := below_cell hvv jd6; clear hvv)
      | fail)
    go_ret3
    exact ⟨by rw [HV1.out, HV2.out, HV3.out]; rfl, HB1.out.trans (hb5.mono HB1.out.size)⟩
end
end Go.Proofs.YtnfemojgecljiaaGreatDoor
