/- Layer 15: Same of any plain values: the program's. Layer 15: the document's Good. -/
import Derived.Test.YtnfemojgecljiaaGreatDoorPGPlE
import Derived.Test.YtnfemojgecljiaaGreatDoorShelfR
import Derived.OwnWalk
import Derived.Test.YtnfemojgecljiaaGreatDoorPWRefGood
namespace Go.Proofs.YtnfemojgecljiaaGreatDoor
section
open Go Go.ChangeShapes Go.WideShapes Go.ChangeAt Go.RowKit
set_option linter.unusedVariables false
set_option linter.unusedSimpArgs false
theorem good_int {k : Int} {y n : Bool} {ws : List Int} {b : Nat} {s : ByteArray} {m : Nat} (h : goodP k y n ws b s m = true) : goodB n ws = true := by
  by_cases h2 : k = 2
  · exact good_k2 h h2
  · have hk : (k != 2) = true := by simpa using h2
    have h3 : badP k y n ws.length b s = false := by
      unfold goodP at h
      cases hb : badP k y n ws.length b s
      · rfl
      · rw [hb] at h; simp at h
    unfold badP at h3
    rw [hk] at h3
    have h4 : n = false ∧ ws.length = 0 := by
      cases n
      · refine ⟨rfl, ?_⟩
        have : decide (0 < ws.length) = false := by
          cases hd : decide (0 < ws.length)
          · rfl
          · rw [hd] at h3; simp at h3
        simpa using this
      · simp at h3
    unfold goodB
    rw [h4.1, if_pos h4.2]; rfl
/-- plain.isNaN. -/
theorem pisNaN_any (b : Nat) (w : World) : Calls Tryz.prog 29 #[.int .u64 (b : Int)] w fun e w' => e = .returned (.bool (nanB b)) ∧ w = w' := by
  have h0 := run_frombits b w
  have h1 : (FloatKind.f64.format.order b b != some .eq) = nanB b := self_neq b
  go_enter Tryz.func29, Tryz.ntmps29
  go_wp2_with fail
  go_ret
  exact ⟨rfl, rfl⟩
/-- Are two plain values the same? -/
def saP (gA gB kn f3 be nA nB ye xe : Bool) (c : Int) : Bool := gA && gB && !kn && (if f3 = true then be || (nA && nB) else (ye && xe) && (c == 0))
set_option maxRecDepth 100000 in
set_option maxHeartbeats 8000000 in
theorem same_any15 (kA : Int) (yA nA : Bool) (uA : Value) (sA : List Int) (bA : Nat) (xA : ByteArray) (pAi : Option Addr) (mA cAi : Nat) (kB : Int) (yB nB : Bool) (uB : Value) (sB : List Int) (bB : Nat) (xB : ByteArray) (pBi : Option Addr) (mB cBi : Nat) (w : World) (hrA : Rd w uA sA) (hrB : Rd w uB sB) (hfA : Fit sA) (hfB : Fit sB) (hbA : bA < 18446744073709551616) (hbB : bB < 18446744073709551616) (hmA0 : (mA : Int) ≤ 9223372036854775807) (hmB0 : (mB : Int) ≤ 9223372036854775807) (hxA : (xA.size : Int) ≤ 9223372036854775807) (hxB : (xB.size : Int) ≤ 9223372036854775807) :
    Calls Tryz.prog 9 #[.agg #[.int .i64 kA, .bool yA, .bool nA, uA, .int .u64 (bA : Int), .string xA, .slice pAi mA cAi], .agg #[.int .i64 kB, .bool yB, .bool nB, uB, .int .u64 (bB : Int), .string xB, .slice pBi mB cBi]] w fun e w' => e = .returned (.bool (saP (goodP kA yA nA sA bA xA mA) (goodP kB yB nB sB bB xB mB) (kA != kB) (kA == 3) ((bA : Int) == (bB : Int)) (nanB bA) (nanB bB) (yA == yB) (xA.toList == xB.toList) (cmpI (sg nA (val B18 sA)) (sg nB (val B18 sB))))) ∧ Below w.heap.size w w' := by
  obtain ⟨pA, cA, rfl, hcA, hmA, hpA⟩ := rd_form hrA
  obtain ⟨pB, cB, rfl, hcB, hmB, hpB⟩ := rd_form hrB
  obtain ⟨W1, hW1⟩ : ∃ x, (w.alloc (.cells #[.int .i64 kA, .bool yA, .bool nA, .slice pA sA.length cA, .int .u64 (bA : Int), .string xA, .slice pAi mA cAi] 28)).alloc (.cells #[.int .i64 kB, .bool yB, .bool nB, .slice pB sB.length cB, .int .u64 (bB : Int), .string xB, .slice pBi mB cBi] 28) = x := ⟨_, rfl⟩
  have HB1 := Lib.hid (show Below w.heap.size w W1 by rw [← hW1]; exact ((Below.refl _ _).alloc (Nat.le_refl _) _).alloc (by simp) _)
  have HXA := Lib.hid (show Bx7 W1 (w.heap.size) (.int .i64 kA) (.bool yA) (.bool nA) (.slice pA sA.length cA) (.int .u64 (bA : Int)) (.string xA) (.slice pAi mA cAi) by rw [← hW1]; exact (Bx7.new w _ _ _ _ _ _ _ _ rfl).keep ((Below.refl _ _).alloc (Nat.le_refl _) _))
  have HXB := Lib.hid (show Bx7 W1 (w.heap.size + 1) (.int .i64 kB) (.bool yB) (.bool nB) (.slice pB sB.length cB) (.int .u64 (bB : Int)) (.string xB) (.slice pBi mB cBi) by rw [← hW1]; exact Bx7.new _ _ _ _ _ _ _ _ _ (by simp))
  have HRA := Lib.hid (hrA.keep HB1.out)
  have HRB := Lib.hid (hrB.keep HB1.out)
  have HGA := Lib.hid (fun (W : World) (hx : Below W1.heap.size W1 W) => good15_any kA yA nA _ sA bA xA pAi mA cAi W hbA (HRA.out.keep hx) hfA hmA0 hxA)
  have HGB := Lib.hid (fun (W : World) (hx : Below W1.heap.size W1 W) => good15_any kB yB nB _ sB bB xB pBi mB cBi W hbB (HRB.out.keep hx) hfB hmB0 hxB)
  have HNA := Lib.hid (fun (W : World) => isNumber_any kA yA nA (.slice pA sA.length cA) bA xA (.slice pAi mA cAi) W)
  have HNB := Lib.hid (fun (W : World) => isNumber_any kB yB nB (.slice pB sB.length cB) bB xB (.slice pBi mB cBi) W)
  have HKA := Lib.hid (fun (h : goodP kA yA nA sA bA xA mA = true) => good_k2 h)
  have HKB := Lib.hid (fun (h : goodP kB yB nB sB bB xB mB = true) => good_k2 h)
  have HCM := Lib.hid (fun (W : World) (hx : Below W1.heap.size W1 W) (hA : kA = 2 → goodB nA sA = true) (hB : kB = 2 → goodB nB sB = true) => compare_any kA yA nA _ sA bA xA (.slice pAi mA cAi) kB yB nB _ sB bB xB (.slice pBi mB cBi) W (HRA.out.keep hx) (HRB.out.keep hx) hfA hfB hA hB hbA hbB)
  have hb0 := Below.refl W1.heap.size W1
  obtain ⟨gA, hgA⟩ : ∃ g, goodP kA yA nA sA bA xA mA = g := ⟨_, rfl⟩
  obtain ⟨gB, hgB⟩ : ∃ g, goodP kB yB nB sB bB xB mB = g := ⟨_, rfl⟩
  obtain ⟨qA, hqA⟩ : ∃ g, numP kA = g := ⟨_, rfl⟩
  obtain ⟨qB, hqB⟩ : ∃ g, numP kB = g := ⟨_, rfl⟩
  rw [hgA] at HGA HKA
  rw [hgB] at HGB HKB
  rw [hqA] at HNA
  rw [hqB] at HNB
  have a0 := HXA.out.c0
  have a1 := HXA.out.c1
  have a2 := HXA.out.c2
  have a3 := HXA.out.c3
  have a4 := HXA.out.c4
  have a5 := HXA.out.c5
  have a6 := HXA.out.c6
  have d0 := HXB.out.c0
  have d1 := HXB.out.c1
  have d2 := HXB.out.c2
  have d3 := HXB.out.c3
  have d4 := HXB.out.c4
  have d5 := HXB.out.c5
  have d6 := HXB.out.c6
  have HIA := Lib.hid (fun (h : gA = true) => goodB_sgn (good_int (hgA.trans h)) hfA)
  have HIB := Lib.hid (fun (h : gB = true) => goodB_sgn (good_int (hgB.trans h)) hfB)
  have HCI := Lib.hid (fun (W : World) (hx : Below W1.heap.size W1 W) (h1 : gA = true) (h2 : gB = true) => cmp_at (W := W) (HRA.out.keep hx) (HRB.out.keep hx) (HIA.out h1).1 (HIB.out h2).1 (HIA.out h1).2 (HIB.out h2).2 (Below.refl _ _))
  have HNnA := Lib.hid (fun W => pisNaN_any bA W)
  have HNnB := Lib.hid (fun W => pisNaN_any bB W)
  have hlo := cmpI_lo (sg nA (val B18 sA)) (sg nB (val B18 sB))
  rw [hgA, hgB]
  obtain ⟨c, hc⟩ : ∃ c, cmpI (sg nA (val B18 sA)) (sg nB (val B18 sB)) = c := ⟨_, rfl⟩
  rw [hc] at HCI hlo ⊢
  obtain ⟨kn, hkn⟩ : ∃ z, (kA != kB) = z := ⟨_, rfl⟩
  obtain ⟨f3, hf3⟩ : ∃ z, (kA == 3) = z := ⟨_, rfl⟩
  obtain ⟨be, hbe⟩ : ∃ z, ((bA : Int) == (bB : Int)) = z := ⟨_, rfl⟩
  obtain ⟨ye, hye⟩ : ∃ z, (yA == yB) = z := ⟨_, rfl⟩
  obtain ⟨xe, hxe⟩ : ∃ z, (xA.toList == xB.toList) = z := ⟨_, rfl⟩
  obtain ⟨qa, hqa⟩ : ∃ z, nanB bA = z := ⟨_, rfl⟩
  obtain ⟨qb, hqb⟩ : ∃ z, nanB bB = z := ⟨_, rfl⟩
  rw [hkn, hf3, hbe, hye, hxe, hqa, hqb]
  rw [hqa] at HNnA
  rw [hqb] at HNnB
  have HV := Lib.hid (show saP gA gB kn f3 be qa qb ye xe c = (gA && gB && !kn && (if f3 = true then be || (qa && qb) else (ye && xe) && (c == 0))) from rfl)
  clear hrA hrB hfA hfB hpA hpB hgA hgB hqA hqB hc hbA hbB hqa hqb HCM
  go_enter Tryz.func9, Tryz.ntmps9
  cases gA
  · go_wp2_with (first
      | (go_at_call 25; (with_reducible refine (HGA.out _ hb0).mono ?_); rintro e v1 ⟨rfl, hvv⟩; have hb1 : Below W1.heap.size W1 v1 := hb0.trans (hvv.mono hb0.size); have fa0 := below_cell hvv a0; have fa1 := below_cell hvv a1; have fa2 := below_cell hvv a2; have fa3 := below_cell hvv a3; have fa4 := below_cell hvv a4; have fa5 := below_cell hvv a5; have fa6 := below_cell hvv a6; have fd0 := below_cell hvv d0; have fd1 := below_cell hvv d1; have fd2 := below_cell hvv d2; have fd3 := below_cell hvv d3; have fd4 := below_cell hvv d4; have fd5 := below_cell hvv d5; have fd6 := below_cell hvv d6; clear hvv)
      | (go_at_call 25; (with_reducible refine (HGB.out _ hb1).mono ?_); rintro e v2 ⟨rfl, hvv⟩; have hb2 : Below W1.heap.size W1 v2 := hb1.trans (hvv.mono hb1.size); have ga0 := below_cell hvv fa0; have ga1 := below_cell hvv fa1; have ga2 := below_cell hvv fa2; have ga3 := below_cell hvv fa3; have ga4 := below_cell hvv fa4; have ga5 := below_cell hvv fa5; have ga6 := below_cell hvv fa6; have gd0 := below_cell hvv fd0; have gd1 := below_cell hvv fd1; have gd2 := below_cell hvv fd2; have gd3 := below_cell hvv fd3; have gd4 := below_cell hvv fd4; have gd5 := below_cell hvv fd5; have gd6 := below_cell hvv fd6; clear hvv)
      | fail)
    go_ret
    exact ⟨by rw [HV.out]; rfl, HB1.out.trans (hb1.mono HB1.out.size)⟩
  cases gB
  · go_wp2_with (first
      | (go_at_call 25; (with_reducible refine (HGA.out _ hb0).mono ?_); rintro e v1 ⟨rfl, hvv⟩; have hb1 : Below W1.heap.size W1 v1 := hb0.trans (hvv.mono hb0.size); have fa0 := below_cell hvv a0; have fa1 := below_cell hvv a1; have fa2 := below_cell hvv a2; have fa3 := below_cell hvv a3; have fa4 := below_cell hvv a4; have fa5 := below_cell hvv a5; have fa6 := below_cell hvv a6; have fd0 := below_cell hvv d0; have fd1 := below_cell hvv d1; have fd2 := below_cell hvv d2; have fd3 := below_cell hvv d3; have fd4 := below_cell hvv d4; have fd5 := below_cell hvv d5; have fd6 := below_cell hvv d6; clear hvv)
      | (go_at_call 25; (with_reducible refine (HGB.out _ hb1).mono ?_); rintro e v2 ⟨rfl, hvv⟩; have hb2 : Below W1.heap.size W1 v2 := hb1.trans (hvv.mono hb1.size); have ga0 := below_cell hvv fa0; have ga1 := below_cell hvv fa1; have ga2 := below_cell hvv fa2; have ga3 := below_cell hvv fa3; have ga4 := below_cell hvv fa4; have ga5 := below_cell hvv fa5; have ga6 := below_cell hvv fa6; have gd0 := below_cell hvv fd0; have gd1 := below_cell hvv fd1; have gd2 := below_cell hvv fd2; have gd3 := below_cell hvv fd3; have gd4 := below_cell hvv fd4; have gd5 := below_cell hvv fd5; have gd6 := below_cell hvv fd6; clear hvv)
      | fail)
    go_ret
    exact ⟨by rw [HV.out]; rfl, HB1.out.trans (hb2.mono HB1.out.size)⟩
  cases kn
  rotate_left
  · go_wp2_with (first
      | (go_at_call 25; (with_reducible refine (HGA.out _ hb0).mono ?_); rintro e v1 ⟨rfl, hvv⟩; have hb1 : Below W1.heap.size W1 v1 := hb0.trans (hvv.mono hb0.size); have fa0 := below_cell hvv a0; have fa1 := below_cell hvv a1; have fa2 := below_cell hvv a2; have fa3 := below_cell hvv a3; have fa4 := below_cell hvv a4; have fa5 := below_cell hvv a5; have fa6 := below_cell hvv a6; have fd0 := below_cell hvv d0; have fd1 := below_cell hvv d1; have fd2 := below_cell hvv d2; have fd3 := below_cell hvv d3; have fd4 := below_cell hvv d4; have fd5 := below_cell hvv d5; have fd6 := below_cell hvv d6; clear hvv)
      | (go_at_call 25; (with_reducible refine (HGB.out _ hb1).mono ?_); rintro e v2 ⟨rfl, hvv⟩; have hb2 : Below W1.heap.size W1 v2 := hb1.trans (hvv.mono hb1.size); have ga0 := below_cell hvv fa0; have ga1 := below_cell hvv fa1; have ga2 := below_cell hvv fa2; have ga3 := below_cell hvv fa3; have ga4 := below_cell hvv fa4; have ga5 := below_cell hvv fa5; have ga6 := below_cell hvv fa6; have gd0 := below_cell hvv fd0; have gd1 := below_cell hvv fd1; have gd2 := below_cell hvv fd2; have gd3 := below_cell hvv fd3; have gd4 := below_cell hvv fd4; have gd5 := below_cell hvv fd5; have gd6 := below_cell hvv fd6; clear hvv)
      | fail)
    go_ret
    exact ⟨by rw [HV.out]; rfl, HB1.out.trans (hb2.mono HB1.out.size)⟩
  cases f3
  · have wy : ye = false ∨ (ye = true ∧ xe = false) ∨ (ye = true ∧ xe = true) := by cases ye <;> cases xe <;> simp
    rcases wy with rfl | ⟨rfl, rfl⟩ | ⟨rfl, rfl⟩
    · go_wp2_with (first
        | (go_at_call 25; (with_reducible refine (HGA.out _ hb0).mono ?_); rintro e v1 ⟨rfl, hvv⟩; have hb1 : Below W1.heap.size W1 v1 := hb0.trans (hvv.mono hb0.size); have fa0 := below_cell hvv a0; have fa1 := below_cell hvv a1; have fa2 := below_cell hvv a2; have fa3 := below_cell hvv a3; have fa4 := below_cell hvv a4; have fa5 := below_cell hvv a5; have fa6 := below_cell hvv a6; have fd0 := below_cell hvv d0; have fd1 := below_cell hvv d1; have fd2 := below_cell hvv d2; have fd3 := below_cell hvv d3; have fd4 := below_cell hvv d4; have fd5 := below_cell hvv d5; have fd6 := below_cell hvv d6; clear hvv)
        | (go_at_call 25; (with_reducible refine (HGB.out _ hb1).mono ?_); rintro e v2 ⟨rfl, hvv⟩; have hb2 : Below W1.heap.size W1 v2 := hb1.trans (hvv.mono hb1.size); have ga0 := below_cell hvv fa0; have ga1 := below_cell hvv fa1; have ga2 := below_cell hvv fa2; have ga3 := below_cell hvv fa3; have ga4 := below_cell hvv fa4; have ga5 := below_cell hvv fa5; have ga6 := below_cell hvv fa6; have gd0 := below_cell hvv fd0; have gd1 := below_cell hvv fd1; have gd2 := below_cell hvv fd2; have gd3 := below_cell hvv fd3; have gd4 := below_cell hvv fd4; have gd5 := below_cell hvv fd5; have gd6 := below_cell hvv fd6; clear hvv)
        | fail)
      go_ret
      exact ⟨by rw [HV.out]; rfl, HB1.out.trans (hb2.mono HB1.out.size)⟩
    · go_wp2_with (first
        | (go_at_call 25; (with_reducible refine (HGA.out _ hb0).mono ?_); rintro e v1 ⟨rfl, hvv⟩; have hb1 : Below W1.heap.size W1 v1 := hb0.trans (hvv.mono hb0.size); have fa0 := below_cell hvv a0; have fa1 := below_cell hvv a1; have fa2 := below_cell hvv a2; have fa3 := below_cell hvv a3; have fa4 := below_cell hvv a4; have fa5 := below_cell hvv a5; have fa6 := below_cell hvv a6; have fd0 := below_cell hvv d0; have fd1 := below_cell hvv d1; have fd2 := below_cell hvv d2; have fd3 := below_cell hvv d3; have fd4 := below_cell hvv d4; have fd5 := below_cell hvv d5; have fd6 := below_cell hvv d6; clear hvv)
        | (go_at_call 25; (with_reducible refine (HGB.out _ hb1).mono ?_); rintro e v2 ⟨rfl, hvv⟩; have hb2 : Below W1.heap.size W1 v2 := hb1.trans (hvv.mono hb1.size); have ga0 := below_cell hvv fa0; have ga1 := below_cell hvv fa1; have ga2 := below_cell hvv fa2; have ga3 := below_cell hvv fa3; have ga4 := below_cell hvv fa4; have ga5 := below_cell hvv fa5; have ga6 := below_cell hvv fa6; have gd0 := below_cell hvv fd0; have gd1 := below_cell hvv fd1; have gd2 := below_cell hvv fd2; have gd3 := below_cell hvv fd3; have gd4 := below_cell hvv fd4; have gd5 := below_cell hvv fd5; have gd6 := below_cell hvv fd6; clear hvv)
        | fail)
      go_ret
      exact ⟨by rw [HV.out]; rfl, HB1.out.trans (hb2.mono HB1.out.size)⟩
    · go_wp2_with (first
        | (go_at_call 25; (with_reducible refine (HGA.out _ hb0).mono ?_); rintro e v1 ⟨rfl, hvv⟩; have hb1 : Below W1.heap.size W1 v1 := hb0.trans (hvv.mono hb0.size); have fa0 := below_cell hvv a0; have fa1 := below_cell hvv a1; have fa2 := below_cell hvv a2; have fa3 := below_cell hvv a3; have fa4 := below_cell hvv a4; have fa5 := below_cell hvv a5; have fa6 := below_cell hvv a6; have fd0 := below_cell hvv d0; have fd1 := below_cell hvv d1; have fd2 := below_cell hvv d2; have fd3 := below_cell hvv d3; have fd4 := below_cell hvv d4; have fd5 := below_cell hvv d5; have fd6 := below_cell hvv d6; clear hvv)
        | (go_at_call 25; (with_reducible refine (HGB.out _ hb1).mono ?_); rintro e v2 ⟨rfl, hvv⟩; have hb2 : Below W1.heap.size W1 v2 := hb1.trans (hvv.mono hb1.size); have ga0 := below_cell hvv fa0; have ga1 := below_cell hvv fa1; have ga2 := below_cell hvv fa2; have ga3 := below_cell hvv fa3; have ga4 := below_cell hvv fa4; have ga5 := below_cell hvv fa5; have ga6 := below_cell hvv fa6; have gd0 := below_cell hvv fd0; have gd1 := below_cell hvv fd1; have gd2 := below_cell hvv fd2; have gd3 := below_cell hvv fd3; have gd4 := below_cell hvv fd4; have gd5 := below_cell hvv fd5; have gd6 := below_cell hvv fd6; clear hvv)
        | (go_at_call 30; (with_reducible refine (HCI.out _ hb2 (by first | rfl | trivial) (by first | rfl | trivial)).mono ?_); rintro e v3 ⟨rfl, hvv⟩; have hb3 : Below W1.heap.size W1 v3 := hb2.trans (hvv.mono hb2.size); clear hvv)
        | fail)
      go_ret
      exact ⟨by rw [HV.out]; rfl, HB1.out.trans (hb3.mono HB1.out.size)⟩
  · cases be
    · cases qa
      all_goals
        go_wp2_with (first
          | (go_at_call 25; (with_reducible refine (HGA.out _ hb0).mono ?_); rintro e v1 ⟨rfl, hvv⟩; have hb1 : Below W1.heap.size W1 v1 := hb0.trans (hvv.mono hb0.size); have fa0 := below_cell hvv a0; have fa1 := below_cell hvv a1; have fa2 := below_cell hvv a2; have fa3 := below_cell hvv a3; have fa4 := below_cell hvv a4; have fa5 := below_cell hvv a5; have fa6 := below_cell hvv a6; have fd0 := below_cell hvv d0; have fd1 := below_cell hvv d1; have fd2 := below_cell hvv d2; have fd3 := below_cell hvv d3; have fd4 := below_cell hvv d4; have fd5 := below_cell hvv d5; have fd6 := below_cell hvv d6; clear hvv)
          | (go_at_call 25; (with_reducible refine (HGB.out _ hb1).mono ?_); rintro e v2 ⟨rfl, hvv⟩; have hb2 : Below W1.heap.size W1 v2 := hb1.trans (hvv.mono hb1.size); have ga0 := below_cell hvv fa0; have ga1 := below_cell hvv fa1; have ga2 := below_cell hvv fa2; have ga3 := below_cell hvv fa3; have ga4 := below_cell hvv fa4; have ga5 := below_cell hvv fa5; have ga6 := below_cell hvv fa6; have gd0 := below_cell hvv fd0; have gd1 := below_cell hvv fd1; have gd2 := below_cell hvv fd2; have gd3 := below_cell hvv fd3; have gd4 := below_cell hvv fd4; have gd5 := below_cell hvv fd5; have gd6 := below_cell hvv fd6; clear hvv)
          | (go_at_call 29; (first | (with_reducible refine (HNnA.out _).mono ?_) | (with_reducible refine (HNnB.out _).mono ?_)); rintro e w9 ⟨rfl, rfl⟩)
          | fail)
        go_ret
        exact ⟨by rw [HV.out]; rfl, HB1.out.trans (hb2.mono HB1.out.size)⟩
    · go_wp2_with (first
        | (go_at_call 25; (with_reducible refine (HGA.out _ hb0).mono ?_); rintro e v1 ⟨rfl, hvv⟩; have hb1 : Below W1.heap.size W1 v1 := hb0.trans (hvv.mono hb0.size); have fa0 := below_cell hvv a0; have fa1 := below_cell hvv a1; have fa2 := below_cell hvv a2; have fa3 := below_cell hvv a3; have fa4 := below_cell hvv a4; have fa5 := below_cell hvv a5; have fa6 := below_cell hvv a6; have fd0 := below_cell hvv d0; have fd1 := below_cell hvv d1; have fd2 := below_cell hvv d2; have fd3 := below_cell hvv d3; have fd4 := below_cell hvv d4; have fd5 := below_cell hvv d5; have fd6 := below_cell hvv d6; clear hvv)
        | (go_at_call 25; (with_reducible refine (HGB.out _ hb1).mono ?_); rintro e v2 ⟨rfl, hvv⟩; have hb2 : Below W1.heap.size W1 v2 := hb1.trans (hvv.mono hb1.size); have ga0 := below_cell hvv fa0; have ga1 := below_cell hvv fa1; have ga2 := below_cell hvv fa2; have ga3 := below_cell hvv fa3; have ga4 := below_cell hvv fa4; have ga5 := below_cell hvv fa5; have ga6 := below_cell hvv fa6; have gd0 := below_cell hvv fd0; have gd1 := below_cell hvv fd1; have gd2 := below_cell hvv fd2; have gd3 := below_cell hvv fd3; have gd4 := below_cell hvv fd4; have gd5 := below_cell hvv fd5; have gd6 := below_cell hvv fd6; clear hvv)
        | fail)
      go_ret
      exact ⟨by rw [HV.out]; rfl, HB1.out.trans (hb2.mono HB1.out.size)⟩
end
section
open Go Go.ChangeShapes Go.WideShapes Go.ChangeAt Go.RowKit
set_option linter.unusedVariables false
set_option linter.unusedSimpArgs false
theorem goodP_out {k : Int} {y n : Bool} {ws : List Int} {b : Nat} {s : ByteArray} {m : Nat} (h : k < 0 ∨ 4 < k) : goodP k y n ws b s m = false := by
  unfold goodP
  rw [if_neg (by omega), if_neg (by omega), if_neg (by omega), Bool.and_false]
theorem goodP_m {k : Int} {y n : Bool} {ws : List Int} {b : Nat} {s : ByteArray} {m : Nat} (h : m ≠ 0) : goodP k y n ws b s m = false := by
  unfold goodP
  rw [decide_eq_false h]; rfl
def bad3 (k : Int) (y : Bool) (b : Nat) (s : ByteArray) : Bool := ((k != 1) && y || (k != 3) && ((b : Int) != 0)) || (k != 4) && !s.toList.isEmpty
theorem goodP_bad {k : Int} {y n : Bool} {ws : List Int} {b : Nat} {s : ByteArray} {m : Nat} (h : bad3 k y b s = true) : goodP k y n ws b s m = false := by
  unfold goodP badP
  unfold bad3 at h
  rw [h]; simp
theorem goodP_int {y n : Bool} {ws : List Int} {b : Nat} {s : ByteArray} (h : bad3 2 y b s = false) : goodP 2 y n ws b s 0 = goodB n ws := by
  unfold goodP badP
  unfold bad3 at h
  rw [h]; simp
theorem toList_size {s : ByteArray} (h : s.toList.isEmpty = true) : s.size = 0 := by
  have h2 : s.toList = [] := by simpa using h
  have h3 : s.toList.length = 0 := by rw [h2]; rfl
  rwa [Lib.toList_data, Array.length_toList] at h3
theorem goodP_not {k : Int} {y n : Bool} {ws : List Int} {b : Nat} {s : ByteArray} (h : bad3 k y b s = false) (hk : 0 ≤ k ∧ k ≤ 4) (h2 : k ≠ 2) : goodP k y n ws b s 0 = ((!n && decide (ws.length = 0)) && decide (s.size ≤ 20000)) := by
  have h2' : (k != 2) = true := by simpa using h2
  have hb : badP k y n ws.length b s = (n || decide (0 < ws.length)) := by
    unfold badP
    unfold bad3 at h
    rw [h, h2']; simp
  unfold goodP
  rw [hb]
  have hd : decide (0 < ws.length) = !decide (ws.length = 0) := by
    by_cases h0 : ws.length = 0 <;> simp [h0]
    omega
  rw [hd]
  by_cases h4 : k = 4
  · subst h4
    cases n <;> simp
  · have hs : s.size = 0 := by
      unfold bad3 at h
      have h4' : (k != 4) = true := by simpa using h4
      rw [h4'] at h
      apply toList_size
      cases he : s.toList.isEmpty
      · rw [he] at h; simp at h
      · rfl
    rw [if_pos (by omega), hs]
    cases n <;> simp
set_option maxRecDepth 100000 in
set_option maxHeartbeats 8000000 in
theorem rgood15_any (k : Int) (y n : Bool) (u : Value) (ws : List Int) (b : Nat) (s : ByteArray) (ip : Option Addr) (m ic : Nat) (w : World) (hb : b < 18446744073709551616) (hr : Rd w u ws) (hf : Fit ws) (hm : (m : Int) ≤ 9223372036854775807) (hs : (s.size : Int) ≤ 9223372036854775807) :
    Calls Tryz.prog 15 #[.agg #[.int .i64 k, .bool y, .bool n, u, .int .u64 (b : Int), .string s, .slice ip m ic]] w fun e w' => e = .returned (.bool (goodP k y n ws b s m)) ∧ Below w.heap.size w w' := by
  obtain ⟨p, c, rfl, hc, hwm, hp⟩ := rd_form hr
  have HB1 := Lib.hid (show Below w.heap.size w (w.alloc (.cells #[.int .i64 k, .bool y, .bool n, .slice p ws.length c, .int .u64 (b : Int), .string s, .slice ip m ic] 28)) from (Below.refl _ _).alloc (Nat.le_refl _) _)
  have HX1 := Lib.hid (Bx7.new w (.int .i64 k) (.bool y) (.bool n) (.slice p ws.length c) (.int .u64 (b : Int)) (.string s) (.slice ip m ic) 28 rfl)
  have HR1 := Lib.hid (hr.keep HB1.out)
  have HG := Lib.hid (refgood_any n _ ws _ HR1.out hf)
  obtain ⟨W1, hW1⟩ : ∃ x, w.alloc (.cells #[.int .i64 k, .bool y, .bool n, .slice p ws.length c, .int .u64 (b : Int), .string s, .slice ip m ic] 28) = x := ⟨_, rfl⟩
  rw [hW1] at HB1 HX1 HR1 HG
  clear hr hf hp
  have c0 := HX1.out.c0
  have c1 := HX1.out.c1
  have c2 := HX1.out.c2
  have c3 := HX1.out.c3
  have c4 := HX1.out.c4
  have c5 := HX1.out.c5
  have c6 := HX1.out.c6
  by_cases hk : 0 ≤ k ∧ k ≤ 4
  · obtain ⟨hk1, hk2⟩ := hk
    by_cases hm0 : m = 0
    · subst hm0
      go_enter Tryz.func15, Tryz.ntmps15
      go_upto_region 3 with fail
      (try rw [hW1])
      clear hW1
      obtain ⟨g, hg⟩ : ∃ g, bad3 k y b s = g := ⟨_, rfl⟩
      have HG3 := Lib.hid hg
      unfold bad3 at hg
      obtain ⟨q1, h1⟩ : ∃ q, (k != 1) = q := ⟨_, rfl⟩
      obtain ⟨q3, h3⟩ : ∃ q, (k != 3) = q := ⟨_, rfl⟩
      obtain ⟨q4, h4⟩ : ∃ q, (k != 4) = q := ⟨_, rfl⟩
      obtain ⟨qb, hqb⟩ : ∃ q, ((b : Int) != 0) = q := ⟨_, rfl⟩
      obtain ⟨qs, hqs⟩ : ∃ q, s.toList.isEmpty = q := ⟨_, rfl⟩
      rw [h1, h3, h4, hqb, hqs] at hg
      have HGb := Lib.hid hg
      clear hg
      go_cut [43] from 17 to 42 (fun t wx => t = .bool g ∧ W1 = wx)
      case first =>
        have w1 : (q1 = true ∧ y = true) ∨ q1 = false ∨ (q1 = true ∧ y = false) := by cases q1 <;> cases y <;> simp
        have w3 : (q3 = true ∧ qb = true) ∨ q3 = false ∨ (q3 = true ∧ qb = false) := by cases q3 <;> cases qb <;> simp
        have w4 : (q4 = true ∧ qs = false) ∨ q4 = false ∨ (q4 = true ∧ qs = true) := by cases q4 <;> cases qs <;> simp
        rcases w1 with ⟨rfl, rfl⟩ | rfl | ⟨rfl, rfl⟩
        · go_wp2_with fail
          go_meet
          exact ⟨by rw [← HGb.out]; rfl, rfl⟩
        all_goals
          rcases w3 with ⟨rfl, rfl⟩ | rfl | ⟨rfl, rfl⟩
          · go_wp2_with fail
            go_meet
            exact ⟨by rw [← HGb.out]; rfl, rfl⟩
          all_goals
            rcases w4 with ⟨rfl, rfl⟩ | rfl | ⟨rfl, rfl⟩
            all_goals
              go_wp2_with fail
              go_meet
              exact ⟨by rw [← HGb.out]; rfl, rfl⟩
      case rest =>
        obtain ⟨rfl, rfl⟩ := hcut
        clear h1 h3 h4 hqb hqs HGb
        cases g
        · by_cases k2 : k = 2
          · subst k2
            have HV := Lib.hid (goodP_int (n := n) (ws := ws) HG3.out)
            go_wp2_with (first
              | (go_at_call 40; refine HG.out.mono ?_; rintro e w2 ⟨rfl, hb⟩; have HB2 := Lib.hid (HB1.out.trans (hb.mono HB1.out.size)); clear hb HG)
              | fail)
            go_ret
            exact ⟨by rw [HV.out]; rfl, HB2.out⟩
          · have HV := Lib.hid (goodP_not (n := n) (ws := ws) HG3.out ⟨hk1, hk2⟩ k2)
            have hk2' : (k != 2) = true := by simpa using k2
            obtain ⟨ql, hql⟩ : ∃ q, decide (ws.length = 0) = q := ⟨_, rfl⟩
            have hql2 : ((ws.length : Int) == 0) = ql := by rw [← hql]; rw [Bool.eq_iff_iff, beq_iff_eq, decide_eq_true_eq]; omega
            rw [hql] at HV
            clear k2 hql
            cases n
            · cases ql
              · go_wp2_with fail
                go_ret
                exact ⟨by rw [HV.out]; rfl, HB1.out⟩
              · go_wp2_with fail
                go_ret
                exact ⟨by rw [HV.out]; simp; omega, HB1.out⟩
            · go_wp2_with fail
              go_ret
              exact ⟨by rw [HV.out]; rfl, HB1.out⟩
        · have HV := Lib.hid (goodP_bad (n := n) (ws := ws) (m := 0) HG3.out)
          go_wp2_with fail
          go_ret
          exact ⟨by rw [HV.out]; rfl, HB1.out⟩
    · have HV := Lib.hid (goodP_m (k := k) (y := y) (n := n) (ws := ws) (b := b) (s := s) hm0)
      have hm1 : ((m : Int) != 0) = true := by simp; omega
      clear hm0
      go_enter Tryz.func15, Tryz.ntmps15
      go_wp2_with fail
      go_ret
      exact ⟨by rw [HV.out]; rfl, HB1.out⟩
  · have hw : k < 0 ∨ (0 ≤ k ∧ 4 < k) := by omega
    have HV := Lib.hid (goodP_out (k := k) (y := y) (n := n) (ws := ws) (b := b) (s := s) (m := m) (by omega))
    clear hk
    rcases hw with h0 | ⟨h0, h4⟩
    all_goals
      go_enter Tryz.func15, Tryz.ntmps15
      go_wp2_with fail
      go_ret
      exact ⟨by rw [HV.out]; rfl, HB1.out⟩
end
end Go.Proofs.YtnfemojgecljiaaGreatDoor
