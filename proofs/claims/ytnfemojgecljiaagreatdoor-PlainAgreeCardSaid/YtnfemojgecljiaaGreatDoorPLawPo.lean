/- Layer 15: every Equal, Same and Order: the law. -/
import Derived.Test.YtnfemojgecljiaaGreatDoorPGPlS
namespace Go.Proofs.YtnfemojgecljiaaGreatDoor
open Go Go.ChangeShapes Go.WideShapes Go.ChangeAt Go.RowKit
set_option linter.unusedVariables false
set_option linter.unusedSimpArgs false
theorem orC_lo (gA gB fA fB qA qB : Bool) (c s : Int) (h1 : -1 ≤ c ∧ c ≤ 1) (h2 : -1 ≤ s ∧ s ≤ 1) : -1 ≤ orC gA gB fA fB qA qB c s ∧ orC gA gB fA fB qA qB c s ≤ 1 := by
  unfold orC
  split
  · split
    · exact h2
    · split
      · exact h1
      · omega
  · omega
theorem nuC_lo (ka kb : Int) (ba bb : Nat) (za zb : Int) : -1 ≤ nuC ka kb ba bb za zb ∧ nuC ka kb ba bb za zb ≤ 1 := by
  have h1 := cbW_lo ba zb
  have h2 := cbW_lo bb za
  have h3 := cmpI_lo za zb
  unfold nuC cmV cmpZ
  split
  · split
    · split
      · omega
      · split
        · omega
        · split <;> omega
    · exact h1
  · split
    · omega
    · exact h3
theorem or_bad (gA gB fA fB qA qB ok : Bool) (c s : Int) (h : (gA && gB) = false) : orC gA gB fA fB qA qB c s = 0 ∧ orB gA gB fA fB qA qB ok = false ∧ orE gA gB fA fB qA qB = 3 := by
  unfold orC orB orE; rw [h]; simp
theorem eq_bad (gA gB qA qB : Bool) (c : Int) (ok : Bool) (kA kB : Int) (xA xB : ByteArray) (h : (gA && gB) = false) : eqP gA gB qA qB c ok kA kB xA xB = false := by unfold eqP; rw [h]; simp
theorem sa_bad (gA gB kn f3 be nA nB ye xe : Bool) (c : Int) (h : (gA && gB) = false) : saP gA gB kn f3 be nA nB ye xe c = false := by unfold saP; rw [h]; simp
theorem orE_lo (gA gB fA fB qA qB : Bool) : 0 ≤ orE gA gB fA fB qA qB ∧ orE gA gB fA fB qA qB ≤ 9 := by
  unfold orE
  split
  · split
    · omega
    · split <;> omega
  · omega
set_option maxRecDepth 100000 in
set_option maxHeartbeats 16000000 in
theorem law_porders (kA : Int) (yA nA : Bool) (uA : Value) (sA : List Int) (bA : Nat) (xA : ByteArray) (pAi : Option Addr) (mA cAi : Nat) (kB : Int) (yB nB : Bool) (uB : Value) (sB : List Int) (bB : Nat) (xB : ByteArray) (pBi : Option Addr) (mB cBi : Nat) (w : World) (hrA : Rd w uA sA) (hrB : Rd w uB sB) (hfA : Fit sA) (hfB : Fit sB) (hbA : bA < 18446744073709551616) (hbB : bB < 18446744073709551616) (hmA0 : (mA : Int) ≤ 9223372036854775807) (hmB0 : (mB : Int) ≤ 9223372036854775807) (hxA : (xA.size : Int) ≤ 9223372036854775807) (hxB : (xB.size : Int) ≤ 9223372036854775807) (hxA2 : (xA.size : Int) ≤ 9223372036854775807) (hxB2 : (xB.size : Int) ≤ 9223372036854775807) :
    Calls Tryz.prog 3 #[.agg #[.int .i64 kA, .bool yA, .bool nA, uA, .int .u64 (bA : Int), .string xA, .slice pAi mA cAi], .agg #[.int .i64 kB, .bool yB, .bool nB, uB, .int .u64 (bB : Int), .string xB, .slice pBi mB cBi]] w fun e w' => e = .returned (.bool true) ∧ Below w.heap.size w w' := by
  obtain ⟨pA, cA, rfl, hcA, hmA, hpA⟩ := rd_form hrA
  obtain ⟨pB, cB, rfl, hcB, hmB, hpB⟩ := rd_form hrB
  obtain ⟨W1, hW1⟩ : ∃ x, (w.alloc (.cells #[.int .i64 kA, .bool yA, .bool nA, .slice pA sA.length cA, .int .u64 (bA : Int), .string xA, .slice pAi mA cAi] 28)).alloc (.cells #[.int .i64 kB, .bool yB, .bool nB, .slice pB sB.length cB, .int .u64 (bB : Int), .string xB, .slice pBi mB cBi] 28) = x := ⟨_, rfl⟩
  have HX := Lib.hid (show Below w.heap.size w W1 by rw [← hW1]; exact ((Below.refl _ _).alloc (Nat.le_refl _) _).alloc (by simp) _)
  have HXA := Lib.hid (show Bx7 W1 (w.heap.size) (.int .i64 kA) (.bool yA) (.bool nA) (.slice pA sA.length cA) (.int .u64 (bA : Int)) (.string xA) (.slice pAi mA cAi) by rw [← hW1]; exact (Bx7.new w _ _ _ _ _ _ _ _ rfl).keep ((Below.refl _ _).alloc (Nat.le_refl _) _))
  have HXB := Lib.hid (show Bx7 W1 (w.heap.size + 1) (.int .i64 kB) (.bool yB) (.bool nB) (.slice pB sB.length cB) (.int .u64 (bB : Int)) (.string xB) (.slice pBi mB cBi) by rw [← hW1]; exact Bx7.new _ _ _ _ _ _ _ _ _ (by simp))
  have HRA := Lib.hid hrA
  have HRB := Lib.hid hrB
  have HK := Lib.hid (known15 W1)
  have HO := Lib.hid (fun (W : World) (hx : Below w.heap.size w W) => order_any15 kA yA nA _ sA bA xA pAi mA cAi kB yB nB _ sB bB xB pBi mB cBi W (HRA.out.keep hx) (HRB.out.keep hx) hfA hfB hbA hbB hmA0 hmB0 hxA hxB)
  have HEq := Lib.hid (fun (W : World) (hx : Below w.heap.size w W) => equal_any kA yA nA _ sA bA xA pAi mA cAi kB yB nB _ sB bB xB pBi mB cBi W (HRA.out.keep hx) (HRB.out.keep hx) hfA hfB hbA hbB hmA0 hmB0 hxA hxB)
  have HSa := Lib.hid (fun (W : World) (hx : Below w.heap.size w W) => same_any15 kA yA nA _ sA bA xA pAi mA cAi kB yB nB _ sB bB xB pBi mB cBi W (HRA.out.keep hx) (HRB.out.keep hx) hfA hfB hbA hbB hmA0 hmB0 hxA hxB)
  have HBo := Lib.hid (fun (W : World) (hx : Below w.heap.size w W) => both_any kA yA nA _ sA bA xA pAi mA cAi kB yB nB _ sB bB xB pBi mB cBi W (HRA.out.keep hx) (HRB.out.keep hx) hfA hfB hbA hbB hmA0 hmB0 hxA hxB)
  have HG1 := Lib.hid (fun (h1 : goodP kA yA nA sA bA xA mA = true) (h2 : goodP kB yB nB sB bB xB mB = true) (W : World) (hx : Below w.heap.size w W) => requal_any kA yA nA _ sA bA xA pAi mA cAi kB yB nB _ sB bB xB pBi mB cBi W (HRA.out.keep hx) (HRB.out.keep hx) hfA hfB hbA hbB hmA0 hmB0 hxA hxB h1 h2)
  have HG2 := Lib.hid (fun (h1 : goodP kA yA nA sA bA xA mA = true) (h2 : goodP kB yB nB sB bB xB mB = true) (W : World) (hx : Below w.heap.size w W) => rorder_any kA yA nA _ sA bA xA pAi mA cAi kB yB nB _ sB bB xB pBi mB cBi W (HRA.out.keep hx) (HRB.out.keep hx) hfA hfB hbA hbB hmA0 hmB0 hxA hxB hxA2 hxB2 h1 h2)
  have HG3 := Lib.hid (fun (h1 : goodP kA yA nA sA bA xA mA = true) (h2 : goodP kB yB nB sB bB xB mB = true) (W : World) (hx : Below w.heap.size w W) => rsame_any kA yA nA _ sA bA xA pAi mA cAi kB yB nB _ sB bB xB pBi mB cBi W (HRA.out.keep hx) (HRB.out.keep hx) hfA hfB hbA hbB hmA0 hmB0 hxA hxB h1 h2)
  have hsl := compareBytes_lo xA.data.toList xB.data.toList
  have hnl := nuC_lo kA kB bA bB (zP kA yA nA sA) (zP kB yB nB sB)
  obtain ⟨sv, hsv⟩ : ∃ c, Lib.compareBytes xA.data.toList xB.data.toList = c := ⟨_, rfl⟩
  obtain ⟨c, hc⟩ : ∃ c, nuC kA kB bA bB (zP kA yA nA sA) (zP kB yB nB sB) = c := ⟨_, rfl⟩
  obtain ⟨ok, hok⟩ : ∃ c, nuB kA kB bA bB = c := ⟨_, rfl⟩
  obtain ⟨gA, hgA⟩ : ∃ g, goodP kA yA nA sA bA xA mA = g := ⟨_, rfl⟩
  obtain ⟨gB, hgB⟩ : ∃ g, goodP kB yB nB sB bB xB mB = g := ⟨_, rfl⟩
  rw [hsv] at HO HG2 hsl
  rw [hc] at HO HEq HG1 HG2 hnl
  rw [hok] at HO HEq HG1 HG2
  rw [hgA] at HO HEq HSa HBo HG1 HG2 HG3
  rw [hgB] at HO HEq HSa HBo HG1 HG2 HG3
  obtain ⟨o1, ho1⟩ : ∃ o, orC gA gB (kA == 4) (kB == 4) (numP kA) (numP kB) c sv = o := ⟨_, rfl⟩
  obtain ⟨o2, ho2⟩ : ∃ o, orB gA gB (kA == 4) (kB == 4) (numP kA) (numP kB) ok = o := ⟨_, rfl⟩
  obtain ⟨o3, ho3⟩ : ∃ o, orE gA gB (kA == 4) (kB == 4) (numP kA) (numP kB) = o := ⟨_, rfl⟩
  obtain ⟨qe, hqe⟩ : ∃ o, eqP gA gB (numP kA) (numP kB) c ok kA kB xA xB = o := ⟨_, rfl⟩
  obtain ⟨qs, hqs⟩ : ∃ o, saP gA gB (kA != kB) (kA == 3) ((bA : Int) == (bB : Int)) (nanB bA) (nanB bB) (yA == yB) (xA.toList == xB.toList) (cmpI (sg nA (val B18 sA)) (sg nB (val B18 sB))) = o := ⟨_, rfl⟩
  have hl1 := orC_lo gA gB (kA == 4) (kB == 4) (numP kA) (numP kB) c sv hnl hsl
  have hl3 := orE_lo gA gB (kA == 4) (kB == 4) (numP kA) (numP kB)
  rw [ho1, ho2, ho3] at HO
  rw [ho1] at hl1
  rw [ho3] at hl3
  rw [hqe] at HEq
  rw [hqs] at HSa
  have HBad := Lib.hid (fun (h : (gA && gB) = false) => (⟨ho1.symm.trans (or_bad gA gB (kA == 4) (kB == 4) (numP kA) (numP kB) ok c sv h).1, ho2.symm.trans (or_bad gA gB (kA == 4) (kB == 4) (numP kA) (numP kB) ok c sv h).2.1, ho3.symm.trans (or_bad gA gB (kA == 4) (kB == 4) (numP kA) (numP kB) ok c sv h).2.2, hqe.symm.trans (eq_bad _ _ _ _ _ _ _ _ _ _ h), hqs.symm.trans (sa_bad _ _ _ _ _ _ _ _ _ _ h)⟩ : o1 = 0 ∧ o2 = false ∧ o3 = 3 ∧ qe = false ∧ qs = false))
  have a0 := HXA.out.c0
  have a1 := HXA.out.c1
  have a2 := HXA.out.c2
  have a3 := HXA.out.c3
  have a4 := HXA.out.c4
  have a5 := HXA.out.c5
  have a6 := HXA.out.c6
  have d0 := HXB.out.c0
  have d1 := HXB.out.c1
  have d2 := HXB.out.c2
  have d3 := HXB.out.c3
  have d4 := HXB.out.c4
  have d5 := HXB.out.c5
  have d6 := HXB.out.c6
  go_enter Tryz.func3, Tryz.ntmps3
  by_cases hgg : gA = true ∧ gB = true
  · obtain ⟨rfl, rfl⟩ := hgg
    have HG1' := Lib.hid (HG1.out rfl rfl)
    have HG2' := Lib.hid (HG2.out rfl rfl)
    have HG3' := Lib.hid (HG3.out rfl rfl)
    rw [hqe] at HG1'
    rw [ho1, ho2, ho3] at HG2'
    rw [hqs] at HG3'
    simp only [Bool.and_self] at HBo
    clear HG1 HG2 HG3 HBad ho1 ho2 ho3 hqe hqs hsv hc hok hgA hgB hrA hrB hpA hpB hfA hfB hsl hnl
    go_upto_region 7 with (first
      | (go_at_call 5; (try rw [hW1]); (with_reducible refine HK.out.mono ?_); rintro e vv ⟨rfl, hvv⟩; replace a0 := below_cell hvv a0; replace a1 := below_cell hvv a1; replace a2 := below_cell hvv a2; replace a3 := below_cell hvv a3; replace a4 := below_cell hvv a4; replace a5 := below_cell hvv a5; replace a6 := below_cell hvv a6; replace d0 := below_cell hvv d0; replace d1 := below_cell hvv d1; replace d2 := below_cell hvv d2; replace d3 := below_cell hvv d3; replace d4 := below_cell hvv d4; replace d5 := below_cell hvv d5; replace d6 := below_cell hvv d6; replace HX := Lib.hid (HX.out.trans (hvv.mono HX.out.size)); clear hvv)
      | (go_at_call 6; (with_reducible refine (HO.out _ HX.out).mono ?_); rintro e vv ⟨rfl, hvv⟩; replace a0 := below_cell hvv a0; replace a1 := below_cell hvv a1; replace a2 := below_cell hvv a2; replace a3 := below_cell hvv a3; replace a4 := below_cell hvv a4; replace a5 := below_cell hvv a5; replace a6 := below_cell hvv a6; replace d0 := below_cell hvv d0; replace d1 := below_cell hvv d1; replace d2 := below_cell hvv d2; replace d3 := below_cell hvv d3; replace d4 := below_cell hvv d4; replace d5 := below_cell hvv d5; replace d6 := below_cell hvv d6; replace HX := Lib.hid ((HX.out).trans (hvv.mono (HX.out).size)); clear hvv)
      | (go_at_call 7; (with_reducible refine (HBo.out _ HX.out).mono ?_); rintro e vv ⟨rfl, hvv⟩; replace a0 := below_cell hvv a0; replace a1 := below_cell hvv a1; replace a2 := below_cell hvv a2; replace a3 := below_cell hvv a3; replace a4 := below_cell hvv a4; replace a5 := below_cell hvv a5; replace a6 := below_cell hvv a6; replace d0 := below_cell hvv d0; replace d1 := below_cell hvv d1; replace d2 := below_cell hvv d2; replace d3 := below_cell hvv d3; replace d4 := below_cell hvv d4; replace d5 := below_cell hvv d5; replace d6 := below_cell hvv d6; replace HX := Lib.hid ((HX.out).trans (hvv.mono (HX.out).size)); clear hvv)
      | (go_at_call 10; (with_reducible refine (HG2'.out _ HX.out).mono ?_); rintro e vv ⟨rfl, hvv⟩; replace a0 := below_cell hvv a0; replace a1 := below_cell hvv a1; replace a2 := below_cell hvv a2; replace a3 := below_cell hvv a3; replace a4 := below_cell hvv a4; replace a5 := below_cell hvv a5; replace a6 := below_cell hvv a6; replace d0 := below_cell hvv d0; replace d1 := below_cell hvv d1; replace d2 := below_cell hvv d2; replace d3 := below_cell hvv d3; replace d4 := below_cell hvv d4; replace d5 := below_cell hvv d5; replace d6 := below_cell hvv d6; replace HX := Lib.hid ((HX.out).trans (hvv.mono (HX.out).size)); clear hvv)
      | fail)
    go_region_held3 (fun w' => w'.cell? ⟨w.heap.size, 0, none⟩ = some (.int .i64 kA) ∧ w'.cell? ⟨w.heap.size, 1, none⟩ = some (.bool yA) ∧ w'.cell? ⟨w.heap.size, 2, none⟩ = some (.bool nA) ∧ w'.cell? ⟨w.heap.size, 3, none⟩ = some (.slice pA sA.length cA) ∧ w'.cell? ⟨w.heap.size, 4, none⟩ = some (.int .u64 (bA : Int)) ∧ w'.cell? ⟨w.heap.size, 5, none⟩ = some (.string xA) ∧ w'.cell? ⟨w.heap.size, 6, none⟩ = some (.slice pAi mA cAi) ∧ w'.cell? ⟨w.heap.size + 1, 0, none⟩ = some (.int .i64 kB) ∧ w'.cell? ⟨w.heap.size + 1, 1, none⟩ = some (.bool yB) ∧ w'.cell? ⟨w.heap.size + 1, 2, none⟩ = some (.bool nB) ∧ w'.cell? ⟨w.heap.size + 1, 3, none⟩ = some (.slice pB sB.length cB) ∧ w'.cell? ⟨w.heap.size + 1, 4, none⟩ = some (.int .u64 (bB : Int)) ∧ w'.cell? ⟨w.heap.size + 1, 5, none⟩ = some (.string xB) ∧ w'.cell? ⟨w.heap.size + 1, 6, none⟩ = some (.slice pBi mB cBi))
      (first | ((repeat' (first | with_reducible assumption | apply And.intro | with_reducible refine drew_cell ?_)); done) | fail)
      (first
       | (go_at_call 8; (with_reducible refine (HEq.out _ (by first | exact HX.out | exact drewM HX.out)).mono ?_); rintro e vv ⟨rfl, hvv⟩; replace a0 := below_cell hvv a0; replace a1 := below_cell hvv a1; replace a2 := below_cell hvv a2; replace a3 := below_cell hvv a3; replace a4 := below_cell hvv a4; replace a5 := below_cell hvv a5; replace a6 := below_cell hvv a6; replace d0 := below_cell hvv d0; replace d1 := below_cell hvv d1; replace d2 := below_cell hvv d2; replace d3 := below_cell hvv d3; replace d4 := below_cell hvv d4; replace d5 := below_cell hvv d5; replace d6 := below_cell hvv d6; replace HX := Lib.hid (by first | exact (drewM HX.out).trans (hvv.mono (drewM HX.out).size) | exact HX.out.trans (hvv.mono HX.out.size)); clear hvv)
       | (go_at_call 11; (with_reducible refine (HG1'.out _ (by first | exact HX.out | exact drewM HX.out)).mono ?_); rintro e vv ⟨rfl, hvv⟩; replace a0 := below_cell hvv a0; replace a1 := below_cell hvv a1; replace a2 := below_cell hvv a2; replace a3 := below_cell hvv a3; replace a4 := below_cell hvv a4; replace a5 := below_cell hvv a5; replace a6 := below_cell hvv a6; replace d0 := below_cell hvv d0; replace d1 := below_cell hvv d1; replace d2 := below_cell hvv d2; replace d3 := below_cell hvv d3; replace d4 := below_cell hvv d4; replace d5 := below_cell hvv d5; replace d6 := below_cell hvv d6; replace HX := Lib.hid (by first | exact (drewM HX.out).trans (hvv.mono (drewM HX.out).size) | exact HX.out.trans (hvv.mono HX.out.size)); clear hvv)
       | (go_at_call 9; (with_reducible refine (HSa.out _ (by first | exact HX.out | exact drewM HX.out)).mono ?_); rintro e vv ⟨rfl, hvv⟩; replace a0 := below_cell hvv a0; replace a1 := below_cell hvv a1; replace a2 := below_cell hvv a2; replace a3 := below_cell hvv a3; replace a4 := below_cell hvv a4; replace a5 := below_cell hvv a5; replace a6 := below_cell hvv a6; replace d0 := below_cell hvv d0; replace d1 := below_cell hvv d1; replace d2 := below_cell hvv d2; replace d3 := below_cell hvv d3; replace d4 := below_cell hvv d4; replace d5 := below_cell hvv d5; replace d6 := below_cell hvv d6; replace HX := Lib.hid (by first | exact (drewM HX.out).trans (hvv.mono (drewM HX.out).size) | exact HX.out.trans (hvv.mono HX.out.size)); clear hvv)
       | (go_at_call 12; (with_reducible refine (HG3'.out _ (by first | exact HX.out | exact drewM HX.out)).mono ?_); rintro e vv ⟨rfl, hvv⟩; replace a0 := below_cell hvv a0; replace a1 := below_cell hvv a1; replace a2 := below_cell hvv a2; replace a3 := below_cell hvv a3; replace a4 := below_cell hvv a4; replace a5 := below_cell hvv a5; replace a6 := below_cell hvv a6; replace d0 := below_cell hvv d0; replace d1 := below_cell hvv d1; replace d2 := below_cell hvv d2; replace d3 := below_cell hvv d3; replace d4 := below_cell hvv d4; replace d5 := below_cell hvv d5; replace d6 := below_cell hvv d6; replace HX := Lib.hid (by first | exact (drewM HX.out).trans (hvv.mono (drewM HX.out).size) | exact HX.out.trans (hvv.mono HX.out.size)); clear hvv)
       | fail)
    all_goals
      go_wp2_with fail
      go_ret
      exact ⟨by simp, HX.out⟩
  · have hbad : (gA && gB) = false := by cases gA <;> cases gB <;> simp_all
    obtain ⟨e1, e2, e3, e4, e5⟩ := HBad.out hbad
    clear HG1 HG2 HG3 HBad ho1 ho2 ho3 hqe hqs hsv hc hok hgA hgB hrA hrB hpA hpB hfA hfB hsl hnl hgg
    subst e1 e2 e3 e4 e5
    rw [hbad] at HBo
    go_wp2_with (first
      | (go_at_call 5; (try rw [hW1]); (with_reducible refine HK.out.mono ?_); rintro e vv ⟨rfl, hvv⟩; replace a0 := below_cell hvv a0; replace a1 := below_cell hvv a1; replace a2 := below_cell hvv a2; replace a3 := below_cell hvv a3; replace a4 := below_cell hvv a4; replace a5 := below_cell hvv a5; replace a6 := below_cell hvv a6; replace d0 := below_cell hvv d0; replace d1 := below_cell hvv d1; replace d2 := below_cell hvv d2; replace d3 := below_cell hvv d3; replace d4 := below_cell hvv d4; replace d5 := below_cell hvv d5; replace d6 := below_cell hvv d6; replace HX := Lib.hid (HX.out.trans (hvv.mono HX.out.size)); clear hvv)
      | (go_at_call 6; (with_reducible refine (HO.out _ HX.out).mono ?_); rintro e vv ⟨rfl, hvv⟩; replace a0 := below_cell hvv a0; replace a1 := below_cell hvv a1; replace a2 := below_cell hvv a2; replace a3 := below_cell hvv a3; replace a4 := below_cell hvv a4; replace a5 := below_cell hvv a5; replace a6 := below_cell hvv a6; replace d0 := below_cell hvv d0; replace d1 := below_cell hvv d1; replace d2 := below_cell hvv d2; replace d3 := below_cell hvv d3; replace d4 := below_cell hvv d4; replace d5 := below_cell hvv d5; replace d6 := below_cell hvv d6; replace HX := Lib.hid ((HX.out).trans (hvv.mono (HX.out).size)); clear hvv)
      | (go_at_call 7; (with_reducible refine (HBo.out _ HX.out).mono ?_); rintro e vv ⟨rfl, hvv⟩; replace a0 := below_cell hvv a0; replace a1 := below_cell hvv a1; replace a2 := below_cell hvv a2; replace a3 := below_cell hvv a3; replace a4 := below_cell hvv a4; replace a5 := below_cell hvv a5; replace a6 := below_cell hvv a6; replace d0 := below_cell hvv d0; replace d1 := below_cell hvv d1; replace d2 := below_cell hvv d2; replace d3 := below_cell hvv d3; replace d4 := below_cell hvv d4; replace d5 := below_cell hvv d5; replace d6 := below_cell hvv d6; replace HX := Lib.hid ((HX.out).trans (hvv.mono (HX.out).size)); clear hvv)
      | (go_at_call 8; (with_reducible refine (HEq.out _ HX.out).mono ?_); rintro e vv ⟨rfl, hvv⟩; replace a0 := below_cell hvv a0; replace a1 := below_cell hvv a1; replace a2 := below_cell hvv a2; replace a3 := below_cell hvv a3; replace a4 := below_cell hvv a4; replace a5 := below_cell hvv a5; replace a6 := below_cell hvv a6; replace d0 := below_cell hvv d0; replace d1 := below_cell hvv d1; replace d2 := below_cell hvv d2; replace d3 := below_cell hvv d3; replace d4 := below_cell hvv d4; replace d5 := below_cell hvv d5; replace d6 := below_cell hvv d6; replace HX := Lib.hid ((HX.out).trans (hvv.mono (HX.out).size)); clear hvv)
      | (go_at_call 9; (with_reducible refine (HSa.out _ HX.out).mono ?_); rintro e vv ⟨rfl, hvv⟩; replace a0 := below_cell hvv a0; replace a1 := below_cell hvv a1; replace a2 := below_cell hvv a2; replace a3 := below_cell hvv a3; replace a4 := below_cell hvv a4; replace a5 := below_cell hvv a5; replace a6 := below_cell hvv a6; replace d0 := below_cell hvv d0; replace d1 := below_cell hvv d1; replace d2 := below_cell hvv d2; replace d3 := below_cell hvv d3; replace d4 := below_cell hvv d4; replace d5 := below_cell hvv d5; replace d6 := below_cell hvv d6; replace HX := Lib.hid ((HX.out).trans (hvv.mono (HX.out).size)); clear hvv)
      | fail)
    go_ret
    exact ⟨by rfl, HX.out⟩
end Go.Proofs.YtnfemojgecljiaaGreatDoor
