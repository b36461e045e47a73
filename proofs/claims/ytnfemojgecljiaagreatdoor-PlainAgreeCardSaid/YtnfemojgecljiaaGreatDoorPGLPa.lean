/- Layer 15: equality, order, truth and hashes agree: the law. Layer 15: equality, order, truth and hashes agree: the law. Layer 15: equality, order, truth and hashes agree: the law. -/
import Derived.Test.YtnfemojgecljiaaGreatDoorPGPlX
import Derived.Test.YtnfemojgecljiaaGreatDoorPLawPo
namespace Go.Proofs.YtnfemojgecljiaaGreatDoor
section
open Go Go.ChangeShapes Go.WideShapes Go.ChangeAt Go.RowKit
set_option linter.unusedVariables false
set_option linter.unusedSimpArgs false
set_option maxRecDepth 100000 in
set_option maxHeartbeats 16000000 in
theorem pa_f1 (kA : Int) (yA nA : Bool) (uA : Value) (sA : List Int) (bA : Nat) (xA : ByteArray) (pAi : Option Addr) (mA cAi : Nat) (kB : Int) (yB nB : Bool) (uB : Value) (sB : List Int) (bB : Nat) (xB : ByteArray) (pBi : Option Addr) (mB cBi : Nat) (w : World) (hrA : Rd w uA sA) (hrB : Rd w uB sB) (hfA : Fit sA) (hfB : Fit sB) (hbA : bA < 18446744073709551616) (hbB : bB < 18446744073709551616) (hmA0 : (mA : Int) ≤ 9223372036854775807) (hmB0 : (mB : Int) ≤ 9223372036854775807) (hxA : (xA.size : Int) ≤ 9223372036854775807) (hxB : (xB.size : Int) ≤ 9223372036854775807) (h1 : eqP (goodP kA yA nA sA bA xA mA) (goodP kB yB nB sB bB xB mB) (numP kA) (numP kB) (nuC kA kB bA bB (zP kA yA nA sA) (zP kB yB nB sB)) (nuB kA kB bA bB) kA kB xA xB = false) (h2 : saP (goodP kA yA nA sA bA xA mA) (goodP kB yB nB sB bB xB mB) (kA != kB) (kA == 3) ((bA : Int) == (bB : Int)) (nanB bA) (nanB bB) (yA == yB) (xA.toList == xB.toList) (cmpI (sg nA (val B18 sA)) (sg nB (val B18 sB))) = false) (h3 : kA = 3) (h4 : goodP kA yA nA sA bA xA mA = true) :
    Calls Tryz.prog 4 #[.agg #[.int .i64 kA, .bool yA, .bool nA, uA, .int .u64 (bA : Int), .string xA, .slice pAi mA cAi], .agg #[.int .i64 kB, .bool yB, .bool nB, uB, .int .u64 (bB : Int), .string xB, .slice pBi mB cBi]] w fun e w' => e = .returned (.bool true) ∧ Below w.heap.size w w' := by
  obtain ⟨pA, cA, rfl, hcA, hmA, hpA⟩ := rd_form hrA
  obtain ⟨pB, cB, rfl, hcB, hmB, hpB⟩ := rd_form hrB
  obtain ⟨W1, hW1⟩ : ∃ x, (w.alloc (.cells #[.int .i64 kA, .bool yA, .bool nA, .slice pA sA.length cA, .int .u64 (bA : Int), .string xA, .slice pAi mA cAi] 28)).alloc (.cells #[.int .i64 kB, .bool yB, .bool nB, .slice pB sB.length cB, .int .u64 (bB : Int), .string xB, .slice pBi mB cBi] 28) = x := ⟨_, rfl⟩
  have HX := Lib.hid (show Below w.heap.size w W1 by rw [← hW1]; exact ((Below.refl _ _).alloc (Nat.le_refl _) _).alloc (by simp) _)
  have HXA := Lib.hid (show Bx7 W1 (w.heap.size) (.int .i64 kA) (.bool yA) (.bool nA) (.slice pA sA.length cA) (.int .u64 (bA : Int)) (.string xA) (.slice pAi mA cAi) by rw [← hW1]; exact (Bx7.new w _ _ _ _ _ _ _ _ rfl).keep ((Below.refl _ _).alloc (Nat.le_refl _) _))
  have HXB := Lib.hid (show Bx7 W1 (w.heap.size + 1) (.int .i64 kB) (.bool yB) (.bool nB) (.slice pB sB.length cB) (.int .u64 (bB : Int)) (.string xB) (.slice pBi mB cBi) by rw [← hW1]; exact Bx7.new _ _ _ _ _ _ _ _ _ (by simp))
  have HRA := Lib.hid hrA
  have HRB := Lib.hid hrB
  have HK := Lib.hid (known15 W1)
  have HO := Lib.hid (fun (W : World) (hx : Below w.heap.size w W) => order_any15 kA yA nA _ sA bA xA pAi mA cAi kB yB nB _ sB bB xB pBi mB cBi W (HRA.out.keep hx) (HRB.out.keep hx) hfA hfB hbA hbB hmA0 hmB0 hxA hxB)
  have HO2 := Lib.hid (fun (W : World) (hx : Below w.heap.size w W) => order_any15 kB yB nB _ sB bB xB pBi mB cBi kA yA nA _ sA bA xA pAi mA cAi W (HRB.out.keep hx) (HRA.out.keep hx) hfB hfA hbB hbA hmB0 hmA0 hxB hxA)
  have HEq := Lib.hid (fun (W : World) (hx : Below w.heap.size w W) => equal_any kA yA nA _ sA bA xA pAi mA cAi kB yB nB _ sB bB xB pBi mB cBi W (HRA.out.keep hx) (HRB.out.keep hx) hfA hfB hbA hbB hmA0 hmB0 hxA hxB)
  have HEq2 := Lib.hid (fun (W : World) (hx : Below w.heap.size w W) => equal_any kB yB nB _ sB bB xB pBi mB cBi kA yA nA _ sA bA xA pAi mA cAi W (HRB.out.keep hx) (HRA.out.keep hx) hfB hfA hbB hbA hmB0 hmA0 hxB hxA)
  have HSa := Lib.hid (fun (W : World) (hx : Below w.heap.size w W) => same_any15 kA yA nA _ sA bA xA pAi mA cAi kB yB nB _ sB bB xB pBi mB cBi W (HRA.out.keep hx) (HRB.out.keep hx) hfA hfB hbA hbB hmA0 hmB0 hxA hxB)
  have HSa2 := Lib.hid (fun (W : World) (hx : Below w.heap.size w W) => same_any15 kB yB nB _ sB bB xB pBi mB cBi kA yA nA _ sA bA xA pAi mA cAi W (HRB.out.keep hx) (HRA.out.keep hx) hfB hfA hbB hbA hmB0 hmA0 hxB hxA)
  have HHa := Lib.hid (fun (W : World) (hx : Below w.heap.size w W) => hash15_any kA yA nA _ sA bA xA pAi mA cAi W hbA (HRA.out.keep hx) hfA hmA0 hxA)
  have HHb := Lib.hid (fun (W : World) (hx : Below w.heap.size w W) => hash15_any kB yB nB _ sB bB xB pBi mB cBi W hbB (HRB.out.keep hx) hfB hmB0 hxB)
  have HTa := Lib.hid (fun (W : World) (hx : Below w.heap.size w W) => truth_any kA yA nA _ sA bA xA pAi mA cAi W hbA (HRA.out.keep hx) hfA hmA0 hxA)
  have HTb := Lib.hid (fun (W : World) (hx : Below w.heap.size w W) => truth_any kB yB nB _ sB bB xB pBi mB cBi W hbB (HRB.out.keep hx) hfB hmB0 hxB)
  have HGd := Lib.hid (fun (W : World) (hx : Below w.heap.size w W) => rgood15_any kA yA nA _ sA bA xA pAi mA cAi W hbA (HRA.out.keep hx) hfA hmA0 hxA)
  have HN := Lib.hid (fun W => risNaN_any bA hbA W)
  have HAG := Lib.hid (fun (h1 : goodP kA yA nA sA bA xA mA = true) (h2 : goodP kB yB nB sB bB xB mB = true) (h : eqP true true (numP kA) (numP kB) (nuC kA kB bA bB (zP kA yA nA sA) (zP kB yB nB sB)) (nuB kA kB bA bB) kA kB xA xB = true) => eq_agree hfA hfB hbA hbB h1 h2 h)
  have HSG := Lib.hid (fun (h1 : goodP kA yA nA sA bA xA mA = true) (h2 : goodP kB yB nB sB bB xB mB = true) (h : saP true true (kA != kB) (kA == 3) ((bA : Int) == (bB : Int)) (nanB bA) (nanB bB) (yA == yB) (xA.toList == xB.toList) (cmpI (sg nA (val B18 sA)) (sg nB (val B18 sB))) = true) (hn : ((kA == 3) && nanB bA) = false) => sa_agree hfA hfB h1 h2 h hn)
  have hsl := compareBytes_lo xA.data.toList xB.data.toList
  have hnl := nuC_lo kA kB bA bB (zP kA yA nA sA) (zP kB yB nB sB)
  have hc2 := nuC_anti kB kA bB bA (zP kB yB nB sB) (zP kA yA nA sA)
  have hs2 := bytes_anti xB.data.toList xA.data.toList
  rw [hc2, hs2, nuB_sym kB kA, orB_sym, orE_sym] at HO2
  rw [hc2, nuB_sym kB kA, eqP_sym, Int.neg_neg] at HEq2
  rw [cmpI_anti, ← saP_sym] at HSa2
  have hgAe : goodP kA yA nA sA bA xA mA = goodP kA yA nA sA bA xA mA := rfl
  obtain ⟨gA, hgA⟩ : ∃ g, goodP kA yA nA sA bA xA mA = g := ⟨_, rfl⟩
  obtain ⟨gB, hgB⟩ : ∃ g, goodP kB yB nB sB bB xB mB = g := ⟨_, rfl⟩
  rw [hgA] at HO HO2 HEq HEq2 HSa HSa2 HHa HTa HGd
  rw [hgB] at HO HO2 HEq HEq2 HSa HSa2 HHb HTb
  have ha1 := orC_anti gA gB (kA == 4) (kB == 4) (numP kA) (numP kB) (nuC kA kB bA bB (zP kA yA nA sA) (zP kB yB nB sB)) (Lib.compareBytes xA.data.toList xB.data.toList)
  have hl1 := orC_lo gA gB (kA == 4) (kB == 4) (numP kA) (numP kB) (nuC kA kB bA bB (zP kA yA nA sA) (zP kB yB nB sB)) (Lib.compareBytes xA.data.toList xB.data.toList) hnl hsl
  have hl3 := orE_lo gA gB (kA == 4) (kB == 4) (numP kA) (numP kB)
  obtain ⟨o1, ho1⟩ : ∃ o, orC gA gB (kA == 4) (kB == 4) (numP kA) (numP kB) (nuC kA kB bA bB (zP kA yA nA sA) (zP kB yB nB sB)) (Lib.compareBytes xA.data.toList xB.data.toList) = o := ⟨_, rfl⟩
  obtain ⟨o2, ho2⟩ : ∃ o, orB gA gB (kA == 4) (kB == 4) (numP kA) (numP kB) (nuB kA kB bA bB) = o := ⟨_, rfl⟩
  obtain ⟨o3, ho3⟩ : ∃ o, orE gA gB (kA == 4) (kB == 4) (numP kA) (numP kB) = o := ⟨_, rfl⟩
  obtain ⟨o4, ho4⟩ : ∃ o, orC gB gA (kB == 4) (kA == 4) (numP kB) (numP kA) (-(nuC kA kB bA bB (zP kA yA nA sA) (zP kB yB nB sB))) (-(Lib.compareBytes xA.data.toList xB.data.toList)) = o := ⟨_, rfl⟩
  obtain ⟨qe, hqe⟩ : ∃ o, eqP gA gB (numP kA) (numP kB) (nuC kA kB bA bB (zP kA yA nA sA) (zP kB yB nB sB)) (nuB kA kB bA bB) kA kB xA xB = o := ⟨_, rfl⟩
  obtain ⟨qs, hqs⟩ : ∃ o, saP gA gB (kA != kB) (kA == 3) ((bA : Int) == (bB : Int)) (nanB bA) (nanB bB) (yA == yB) (xA.toList == xB.toList) (cmpI (sg nA (val B18 sA)) (sg nB (val B18 sB))) = o := ⟨_, rfl⟩
  obtain ⟨nn, hnn⟩ : ∃ o, nanB bA = o := ⟨_, rfl⟩
  rw [ho1, ho4] at ha1
  rw [ho1] at hl1
  rw [ho3] at hl3
  rw [ho1, ho2, ho3] at HO
  rw [ho4, ho2, ho3] at HO2
  rw [hqe] at HEq HEq2
  rw [hqs] at HSa HSa2
  rw [hnn] at HN
  have a0 := HXA.out.c0
  have a1 := HXA.out.c1
  have a2 := HXA.out.c2
  have a3 := HXA.out.c3
  have a4 := HXA.out.c4
  have a5 := HXA.out.c5
  have a6 := HXA.out.c6
  have d0 := HXB.out.c0
  have d1 := HXB.out.c1
  have d2 := HXB.out.c2
  have d3 := HXB.out.c3
  have d4 := HXB.out.c4
  have d5 := HXB.out.c5
  have d6 := HXB.out.c6
  have ho4' : o4 = -o1 := by omega
  rw [hgA, hgB, hqe] at h1
  rw [hgA, hgB, hqs] at h2
  rw [hgA] at h4
  subst h4
  subst h1
  subst h2
  have q3 : (kA == 3) = true := by simpa using h3
  clear HAG HSG HHa HHb HTa HTb hgA hgB hqe hqs hsl hnl hc2 hs2 ha1 ho1 ho2 ho3 ho4 hgAe hnn
  clear hfA hfB hrA hrB hpA hpB HRA HRB
  clear h3
  subst ho4'
  have hng : IntKind.i64.wrap o1 = o1 := IntWalk.i64_in o1 (by omega)
  go_enter Tryz.func4, Tryz.ntmps4
  go_upto_region 5 with (first
    | (go_at_call 5; (try rw [hW1]); (with_reducible refine HK.out.mono ?_); rintro e vv ⟨rfl, hvv⟩; replace a0 := below_cell hvv a0; replace a1 := below_cell hvv a1; replace a2 := below_cell hvv a2; replace a3 := below_cell hvv a3; replace a4 := below_cell hvv a4; replace a5 := below_cell hvv a5; replace a6 := below_cell hvv a6; replace d0 := below_cell hvv d0; replace d1 := below_cell hvv d1; replace d2 := below_cell hvv d2; replace d3 := below_cell hvv d3; replace d4 := below_cell hvv d4; replace d5 := below_cell hvv d5; replace d6 := below_cell hvv d6; replace HX := Lib.hid (HX.out.trans (hvv.mono HX.out.size)); clear hvv)
    | (go_at_call 6; (first | (with_reducible refine (HO.out _ HX.out).mono ?_) | (with_reducible refine (HO2.out _ HX.out).mono ?_)); rintro e vv ⟨rfl, hvv⟩; replace a0 := below_cell hvv a0; replace a1 := below_cell hvv a1; replace a2 := below_cell hvv a2; replace a3 := below_cell hvv a3; replace a4 := below_cell hvv a4; replace a5 := below_cell hvv a5; replace a6 := below_cell hvv a6; replace d0 := below_cell hvv d0; replace d1 := below_cell hvv d1; replace d2 := below_cell hvv d2; replace d3 := below_cell hvv d3; replace d4 := below_cell hvv d4; replace d5 := below_cell hvv d5; replace d6 := below_cell hvv d6; replace HX := Lib.hid (HX.out.trans (hvv.mono HX.out.size)); clear hvv)
    | fail)
  first | (go_region_held3 (fun w' => w'.cell? ⟨w.heap.size, 0, none⟩ = some (.int .i64 kA) ∧ w'.cell? ⟨w.heap.size, 1, none⟩ = some (.bool yA) ∧ w'.cell? ⟨w.heap.size, 2, none⟩ = some (.bool nA) ∧ w'.cell? ⟨w.heap.size, 3, none⟩ = some (.slice pA sA.length cA) ∧ w'.cell? ⟨w.heap.size, 4, none⟩ = some (.int .u64 (bA : Int)) ∧ w'.cell? ⟨w.heap.size, 5, none⟩ = some (.string xA) ∧ w'.cell? ⟨w.heap.size, 6, none⟩ = some (.slice pAi mA cAi) ∧ w'.cell? ⟨w.heap.size + 1, 0, none⟩ = some (.int .i64 kB) ∧ w'.cell? ⟨w.heap.size + 1, 1, none⟩ = some (.bool yB) ∧ w'.cell? ⟨w.heap.size + 1, 2, none⟩ = some (.bool nB) ∧ w'.cell? ⟨w.heap.size + 1, 3, none⟩ = some (.slice pB sB.length cB) ∧ w'.cell? ⟨w.heap.size + 1, 4, none⟩ = some (.int .u64 (bB : Int)) ∧ w'.cell? ⟨w.heap.size + 1, 5, none⟩ = some (.string xB) ∧ w'.cell? ⟨w.heap.size + 1, 6, none⟩ = some (.slice pBi mB cBi))
    (first | ((repeat' (first | with_reducible assumption | apply And.intro | with_reducible refine drew_cell ?_)); done) | fail)
    (first
         | (go_at_call 8; (first | (with_reducible refine (HEq.out _ (by first | exact HX.out | exact drewM HX.out)).mono ?_) | (with_reducible refine (HEq2.out _ (by first | exact HX.out | exact drewM HX.out)).mono ?_)); rintro e vv ⟨rfl, hvv⟩; replace a0 := below_cell hvv a0; replace a1 := below_cell hvv a1; replace a2 := below_cell hvv a2; replace a3 := below_cell hvv a3; replace a4 := below_cell hvv a4; replace a5 := below_cell hvv a5; replace a6 := below_cell hvv a6; replace d0 := below_cell hvv d0; replace d1 := below_cell hvv d1; replace d2 := below_cell hvv d2; replace d3 := below_cell hvv d3; replace d4 := below_cell hvv d4; replace d5 := below_cell hvv d5; replace d6 := below_cell hvv d6; replace HX := Lib.hid (by first | exact (drewM HX.out).trans (hvv.mono (drewM HX.out).size) | exact HX.out.trans (hvv.mono HX.out.size)); clear hvv)
         | (go_at_call 9; (first | (with_reducible refine (HSa.out _ (by first | exact HX.out | exact drewM HX.out)).mono ?_) | (with_reducible refine (HSa2.out _ (by first | exact HX.out | exact drewM HX.out)).mono ?_)); rintro e vv ⟨rfl, hvv⟩; replace a0 := below_cell hvv a0; replace a1 := below_cell hvv a1; replace a2 := below_cell hvv a2; replace a3 := below_cell hvv a3; replace a4 := below_cell hvv a4; replace a5 := below_cell hvv a5; replace a6 := below_cell hvv a6; replace d0 := below_cell hvv d0; replace d1 := below_cell hvv d1; replace d2 := below_cell hvv d2; replace d3 := below_cell hvv d3; replace d4 := below_cell hvv d4; replace d5 := below_cell hvv d5; replace d6 := below_cell hvv d6; replace HX := Lib.hid (by first | exact (drewM HX.out).trans (hvv.mono (drewM HX.out).size) | exact HX.out.trans (hvv.mono HX.out.size)); clear hvv)
         | fail)) | fail
  go_upto_region 7 with fail
  refine wp_region_held_drew (S := fun w' => w'.cell? ⟨w.heap.size, 0, none⟩ = some (.int .i64 kA) ∧ w'.cell? ⟨w.heap.size, 1, none⟩ = some (.bool yA) ∧ w'.cell? ⟨w.heap.size, 2, none⟩ = some (.bool nA) ∧ w'.cell? ⟨w.heap.size, 3, none⟩ = some (.slice pA sA.length cA) ∧ w'.cell? ⟨w.heap.size, 4, none⟩ = some (.int .u64 (bA : Int)) ∧ w'.cell? ⟨w.heap.size, 5, none⟩ = some (.string xA) ∧ w'.cell? ⟨w.heap.size, 6, none⟩ = some (.slice pAi mA cAi) ∧ w'.cell? ⟨w.heap.size + 1, 0, none⟩ = some (.int .i64 kB) ∧ w'.cell? ⟨w.heap.size + 1, 1, none⟩ = some (.bool yB) ∧ w'.cell? ⟨w.heap.size + 1, 2, none⟩ = some (.bool nB) ∧ w'.cell? ⟨w.heap.size + 1, 3, none⟩ = some (.slice pB sB.length cB) ∧ w'.cell? ⟨w.heap.size + 1, 4, none⟩ = some (.int .u64 (bB : Int)) ∧ w'.cell? ⟨w.heap.size + 1, 5, none⟩ = some (.string xB) ∧ w'.cell? ⟨w.heap.size + 1, 6, none⟩ = some (.slice pBi mB cBi)) (by kernel_rfl) ?_ (fun hHeld => ?_)
  · (try dsimp only)
    (first | ((repeat' (first | with_reducible assumption | apply And.intro | with_reducible refine drew_cell ?_)); done) | fail)
  refine wpAnyH_take (i := 0) (v := ?_) rfl (by kernel_rfl) (by kernel_rfl) (by kernel_rfl) (fun _ _ _ h => h) (Or.inl ⟨by rfl, ?_⟩) (by assumption) ?_
  rotate_left 1
  · intro w hSw
    (try dsimp only at hSw)
    go_simp
    (try with_reducible rfl)
  try simp only [List.getElem_toArray, List.getElem_cons_succ, List.getElem_cons_zero, Act.put, List.setIfInBounds_toArray, List.set_cons_zero, List.set_cons_succ]
  refine wpAnyH_take (i := 1) (v := ?_) rfl (by kernel_rfl) (by kernel_rfl) (by kernel_rfl) (fun _ _ _ h => h) (Or.inl ⟨by rfl, ?_⟩) (by assumption) ?_
  rotate_left 1
  · intro w hSw
    (try dsimp only at hSw)
    go_simp
    (try with_reducible rfl)
  try simp only [List.getElem_toArray, List.getElem_cons_succ, List.getElem_cons_zero, Act.put, List.setIfInBounds_toArray, List.set_cons_zero, List.set_cons_succ]
  refine wpAnyH_ready (rs := [2]) (by kernel_rfl) (by simp) ?_
  refine AllReadyH.cons rfl (fun K hK => ?_) AllReadyH.nil
  go_simp
  (go_at_call 8; (with_reducible refine (HEq.out _ (by first | exact HX.out | exact drewM HX.out)).mono ?_); rintro e vv ⟨rfl, hvv⟩; replace a0 := below_cell hvv a0; replace a1 := below_cell hvv a1; replace a2 := below_cell hvv a2; replace a3 := below_cell hvv a3; replace a4 := below_cell hvv a4; replace a5 := below_cell hvv a5; replace a6 := below_cell hvv a6; replace d0 := below_cell hvv d0; replace d1 := below_cell hvv d1; replace d2 := below_cell hvv d2; replace d3 := below_cell hvv d3; replace d4 := below_cell hvv d4; replace d5 := below_cell hvv d5; replace d6 := below_cell hvv d6; replace HX := Lib.hid (by first | exact (drewM HX.out).trans (hvv.mono (drewM HX.out).size) | exact HX.out.trans (hvv.mono HX.out.size)); clear hvv)
  (try go_wp2_with fail)
  refine hK.out _ _ ?_ (fun hHeld => ?_)
  · (try dsimp only)
    (first | ((repeat' (first | with_reducible assumption | apply And.intro | with_reducible refine drew_cell ?_)); done) | fail)
  clear hK K
  try simp only [List.getElem_toArray, List.getElem_cons_succ, List.getElem_cons_zero, Act.put, List.setIfInBounds_toArray, List.set_cons_zero, List.set_cons_succ]
  refine wpAnyH_take (i := 3) (v := ?_) rfl (by kernel_rfl) (by kernel_rfl) (by kernel_rfl) (fun _ _ _ h => h) (Or.inl ⟨by rfl, ?_⟩) (by assumption) ?_
  rotate_left 1
  · intro w hSw
    (try dsimp only at hSw)
    go_simp
    (try with_reducible rfl)
  try simp only [List.getElem_toArray, List.getElem_cons_succ, List.getElem_cons_zero, Act.put, List.setIfInBounds_toArray, List.set_cons_zero, List.set_cons_succ]
  refine wpAnyH_take (i := 4) (v := undef) rfl (by kernel_rfl) (by kernel_rfl) (by kernel_rfl) (fun _ _ _ h => h) (Or.inr ⟨by rfl, rfl⟩) (by assumption) ?_
  try simp only [List.getElem_toArray, List.getElem_cons_succ, List.getElem_cons_zero, Act.put, List.setIfInBounds_toArray, List.set_cons_zero, List.set_cons_succ]
  refine wpAnyH_take (i := 6) (v := undef) rfl (by kernel_rfl) (by kernel_rfl) (by kernel_rfl) (fun _ _ _ h => h) (Or.inr ⟨by rfl, rfl⟩) (by assumption) ?_
  try simp only [List.getElem_toArray, List.getElem_cons_succ, List.getElem_cons_zero, Act.put, List.setIfInBounds_toArray, List.set_cons_zero, List.set_cons_succ]
  refine wpAnyH_ready (rs := [5]) (by kernel_rfl) (by simp) ?_
  refine AllReadyH.cons rfl (fun K hK => ?_) AllReadyH.nil
  rw [if_neg (ne_true_of_eq_false (by rfl))]
  refine hK.out _ _ (by assumption) (fun hHeld => ?_)
  clear hK K
  try simp only [List.getElem_toArray, List.getElem_cons_succ, List.getElem_cons_zero, Act.put, List.setIfInBounds_toArray, List.set_cons_zero, List.set_cons_succ]
  refine wpAnyH_ready (rs := [7]) (by kernel_rfl) (by simp) ?_
  refine AllReadyH.cons rfl (fun K hK => ?_) AllReadyH.nil
  rw [if_neg (ne_true_of_eq_false (by rfl))]
  refine hK.out _ _ (by assumption) (fun hHeld => ?_)
  clear hK K
  try simp only [List.getElem_toArray, List.getElem_cons_succ, List.getElem_cons_zero, Act.put, List.setIfInBounds_toArray, List.set_cons_zero, List.set_cons_succ]
  refine wpAnyH_take (i := 8) (v := undef) rfl (by kernel_rfl) (by kernel_rfl) (by kernel_rfl) (fun _ _ _ h => h) (Or.inr ⟨by rfl, rfl⟩) (by assumption) ?_
  try simp only [List.getElem_toArray, List.getElem_cons_succ, List.getElem_cons_zero, Act.put, List.setIfInBounds_toArray, List.set_cons_zero, List.set_cons_succ]
  refine wpAnyH_take (i := 9) (v := undef) rfl (by kernel_rfl) (by kernel_rfl) (by kernel_rfl) (fun _ _ _ h => h) (Or.inr ⟨by rfl, rfl⟩) (by assumption) ?_
  try simp only [List.getElem_toArray, List.getElem_cons_succ, List.getElem_cons_zero, Act.put, List.setIfInBounds_toArray, List.set_cons_zero, List.set_cons_succ]
  refine wpAnyH_take (i := 10) (v := undef) rfl (by kernel_rfl) (by kernel_rfl) (by kernel_rfl) (fun _ _ _ h => h) (Or.inr ⟨by rfl, rfl⟩) (by assumption) ?_
  try simp only [List.getElem_toArray, List.getElem_cons_succ, List.getElem_cons_zero, Act.put, List.setIfInBounds_toArray, List.set_cons_zero, List.set_cons_succ]
  refine wpAnyH_take (i := 12) (v := undef) rfl (by kernel_rfl) (by kernel_rfl) (by kernel_rfl) (fun _ _ _ h => h) (Or.inr ⟨by rfl, rfl⟩) (by assumption) ?_
  try simp only [List.getElem_toArray, List.getElem_cons_succ, List.getElem_cons_zero, Act.put, List.setIfInBounds_toArray, List.set_cons_zero, List.set_cons_succ]
  refine wpAnyH_ready (rs := [11]) (by kernel_rfl) (by simp) ?_
  refine AllReadyH.cons rfl (fun K hK => ?_) AllReadyH.nil
  rw [if_neg (ne_true_of_eq_false (by rfl))]
  refine hK.out _ _ (by assumption) (fun hHeld => ?_)
  clear hK K
  try simp only [List.getElem_toArray, List.getElem_cons_succ, List.getElem_cons_zero, Act.put, List.setIfInBounds_toArray, List.set_cons_zero, List.set_cons_succ]
  refine wpAnyH_ready (rs := [13]) (by kernel_rfl) (by simp) ?_
  refine AllReadyH.cons rfl (fun K hK => ?_) AllReadyH.nil
  rw [if_neg (ne_true_of_eq_false (by rfl))]
  refine hK.out _ _ (by assumption) (fun hHeld => ?_)
  clear hK K
  try simp only [List.getElem_toArray, List.getElem_cons_succ, List.getElem_cons_zero, Act.put, List.setIfInBounds_toArray, List.set_cons_zero, List.set_cons_succ]
  refine wpAnyH_take (i := 14) (v := undef) rfl (by kernel_rfl) (by kernel_rfl) (by kernel_rfl) (fun _ _ _ h => h) (Or.inr ⟨by rfl, rfl⟩) (by assumption) ?_
  try simp only [List.getElem_toArray, List.getElem_cons_succ, List.getElem_cons_zero, Act.put, List.setIfInBounds_toArray, List.set_cons_zero, List.set_cons_succ]
  refine wpAnyH_take (i := 15) (v := undef) rfl (by kernel_rfl) (by kernel_rfl) (by kernel_rfl) (fun _ _ _ h => h) (Or.inr ⟨by rfl, rfl⟩) (by assumption) ?_
  try simp only [List.getElem_toArray, List.getElem_cons_succ, List.getElem_cons_zero, Act.put, List.setIfInBounds_toArray, List.set_cons_zero, List.set_cons_succ]
  refine wpAnyH_take (i := 16) (v := undef) rfl (by kernel_rfl) (by kernel_rfl) (by kernel_rfl) (fun _ _ _ h => h) (Or.inr ⟨by rfl, rfl⟩) (by assumption) ?_
  try simp only [List.getElem_toArray, List.getElem_cons_succ, List.getElem_cons_zero, Act.put, List.setIfInBounds_toArray, List.set_cons_zero, List.set_cons_succ]
  refine wpAnyH_take (i := 17) (v := undef) rfl (by kernel_rfl) (by kernel_rfl) (by kernel_rfl) (fun _ _ _ h => h) (Or.inr ⟨by rfl, rfl⟩) (by assumption) ?_
  try simp only [List.getElem_toArray, List.getElem_cons_succ, List.getElem_cons_zero, Act.put, List.setIfInBounds_toArray, List.set_cons_zero, List.set_cons_succ]
  refine wpAnyH_take (i := 18) (v := undef) rfl (by kernel_rfl) (by kernel_rfl) (by kernel_rfl) (fun _ _ _ h => h) (Or.inr ⟨by rfl, rfl⟩) (by assumption) ?_
  try simp only [List.getElem_toArray, List.getElem_cons_succ, List.getElem_cons_zero, Act.put, List.setIfInBounds_toArray, List.set_cons_zero, List.set_cons_succ]
  refine wpAnyH_take (i := 19) (v := undef) rfl (by kernel_rfl) (by kernel_rfl) (by kernel_rfl) (fun _ _ _ h => h) (Or.inr ⟨by rfl, rfl⟩) (by assumption) ?_
  try simp only [List.getElem_toArray, List.getElem_cons_succ, List.getElem_cons_zero, Act.put, List.setIfInBounds_toArray, List.set_cons_zero, List.set_cons_succ]
  refine wpAnyH_take (i := 20) (v := ?_) rfl (by kernel_rfl) (by kernel_rfl) (by kernel_rfl) (fun _ _ _ h => h) (Or.inl ⟨by rfl, ?_⟩) (by assumption) ?_
  rotate_left 1
  · intro w hSw
    (try dsimp only at hSw)
    go_simp
    (try with_reducible rfl)
  try simp only [List.getElem_toArray, List.getElem_cons_succ, List.getElem_cons_zero, Act.put, List.setIfInBounds_toArray, List.set_cons_zero, List.set_cons_succ]
  refine wpAnyH_done (by kernel_rfl) ?_ _
  go_wp2_with (first
    | (go_at_call 15; (with_reducible refine (HGd.out _ HX.out).mono ?_); rintro e vv ⟨rfl, hvv⟩; replace a0 := below_cell hvv a0; replace a1 := below_cell hvv a1; replace a2 := below_cell hvv a2; replace a3 := below_cell hvv a3; replace a4 := below_cell hvv a4; replace a5 := below_cell hvv a5; replace a6 := below_cell hvv a6; replace d0 := below_cell hvv d0; replace d1 := below_cell hvv d1; replace d2 := below_cell hvv d2; replace d3 := below_cell hvv d3; replace d4 := below_cell hvv d4; replace d5 := below_cell hvv d5; replace d6 := below_cell hvv d6; replace HX := Lib.hid (HX.out.trans (hvv.mono HX.out.size)); clear hvv)
    | (go_at_call 16; (with_reducible refine (HN.out _).mono ?_); rintro e w9 ⟨rfl, rfl⟩)
    | (go_at_call 9; (first | (with_reducible refine (HSa.out _ HX.out).mono ?_) | (with_reducible refine (HSa2.out _ HX.out).mono ?_)); rintro e vv ⟨rfl, hvv⟩; replace a0 := below_cell hvv a0; replace a1 := below_cell hvv a1; replace a2 := below_cell hvv a2; replace a3 := below_cell hvv a3; replace a4 := below_cell hvv a4; replace a5 := below_cell hvv a5; replace a6 := below_cell hvv a6; replace d0 := below_cell hvv d0; replace d1 := below_cell hvv d1; replace d2 := below_cell hvv d2; replace d3 := below_cell hvv d3; replace d4 := below_cell hvv d4; replace d5 := below_cell hvv d5; replace d6 := below_cell hvv d6; replace HX := Lib.hid (HX.out.trans (hvv.mono HX.out.size)); clear hvv)
    | (go_at_call 8; (first | (with_reducible refine (HEq.out _ HX.out).mono ?_) | (with_reducible refine (HEq2.out _ HX.out).mono ?_)); rintro e vv ⟨rfl, hvv⟩; replace a0 := below_cell hvv a0; replace a1 := below_cell hvv a1; replace a2 := below_cell hvv a2; replace a3 := below_cell hvv a3; replace a4 := below_cell hvv a4; replace a5 := below_cell hvv a5; replace a6 := below_cell hvv a6; replace d0 := below_cell hvv d0; replace d1 := below_cell hvv d1; replace d2 := below_cell hvv d2; replace d3 := below_cell hvv d3; replace d4 := below_cell hvv d4; replace d5 := below_cell hvv d5; replace d6 := below_cell hvv d6; replace HX := Lib.hid (HX.out.trans (hvv.mono HX.out.size)); clear hvv)
    | fail)
  all_goals go_ret
  all_goals exact ⟨by first | rfl | simp, HX.out⟩
end
section
open Go Go.ChangeShapes Go.WideShapes Go.ChangeAt Go.RowKit
set_option linter.unusedVariables false
set_option linter.unusedSimpArgs false
set_option maxRecDepth 100000 in
set_option maxHeartbeats 16000000 in
theorem pa_f2 (kA : Int) (yA nA : Bool) (uA : Value) (sA : List Int) (bA : Nat) (xA : ByteArray) (pAi : Option Addr) (mA cAi : Nat) (kB : Int) (yB nB : Bool) (uB : Value) (sB : List Int) (bB : Nat) (xB : ByteArray) (pBi : Option Addr) (mB cBi : Nat) (w : World) (hrA : Rd w uA sA) (hrB : Rd w uB sB) (hfA : Fit sA) (hfB : Fit sB) (hbA : bA < 18446744073709551616) (hbB : bB < 18446744073709551616) (hmA0 : (mA : Int) ≤ 9223372036854775807) (hmB0 : (mB : Int) ≤ 9223372036854775807) (hxA : (xA.size : Int) ≤ 9223372036854775807) (hxB : (xB.size : Int) ≤ 9223372036854775807) (h1 : eqP (goodP kA yA nA sA bA xA mA) (goodP kB yB nB sB bB xB mB) (numP kA) (numP kB) (nuC kA kB bA bB (zP kA yA nA sA) (zP kB yB nB sB)) (nuB kA kB bA bB) kA kB xA xB = false) (h2 : saP (goodP kA yA nA sA bA xA mA) (goodP kB yB nB sB bB xB mB) (kA != kB) (kA == 3) ((bA : Int) == (bB : Int)) (nanB bA) (nanB bB) (yA == yB) (xA.toList == xB.toList) (cmpI (sg nA (val B18 sA)) (sg nB (val B18 sB))) = false) (h3 : kA = 3) (h4 : goodP kA yA nA sA bA xA mA = false) :
    Calls Tryz.prog 4 #[.agg #[.int .i64 kA, .bool yA, .bool nA, uA, .int .u64 (bA : Int), .string xA, .slice pAi mA cAi], .agg #[.int .i64 kB, .bool yB, .bool nB, uB, .int .u64 (bB : Int), .string xB, .slice pBi mB cBi]] w fun e w' => e = .returned (.bool true) ∧ Below w.heap.size w w' := by
  obtain ⟨pA, cA, rfl, hcA, hmA, hpA⟩ := rd_form hrA
  obtain ⟨pB, cB, rfl, hcB, hmB, hpB⟩ := rd_form hrB
  obtain ⟨W1, hW1⟩ : ∃ x, (w.alloc (.cells #[.int .i64 kA, .bool yA, .bool nA, .slice pA sA.length cA, .int .u64 (bA : Int), .string xA, .slice pAi mA cAi] 28)).alloc (.cells #[.int .i64 kB, .bool yB, .bool nB, .slice pB sB.length cB, .int .u64 (bB : Int), .string xB, .slice pBi mB cBi] 28) = x := ⟨_, rfl⟩
  have HX := Lib.hid (show Below w.heap.size w W1 by rw [← hW1]; exact ((Below.refl _ _).alloc (Nat.le_refl _) _).alloc (by simp) _)
  have HXA := Lib.hid (show Bx7 W1 (w.heap.size) (.int .i64 kA) (.bool yA) (.bool nA) (.slice pA sA.length cA) (.int .u64 (bA : Int)) (.string xA) (.slice pAi mA cAi) by rw [← hW1]; exact (Bx7.new w _ _ _ _ _ _ _ _ rfl).keep ((Below.refl _ _).alloc (Nat.le_refl _) _))
  have HXB := Lib.hid (show Bx7 W1 (w.heap.size + 1) (.int .i64 kB) (.bool yB) (.bool nB) (.slice pB sB.length cB) (.int .u64 (bB : Int)) (.string xB) (.slice pBi mB cBi) by rw [← hW1]; exact Bx7.new _ _ _ _ _ _ _ _ _ (by simp))
  have HRA := Lib.hid hrA
  have HRB := Lib.hid hrB
  have HK := Lib.hid (known15 W1)
  have HO := Lib.hid (fun (W : World) (hx : Below w.heap.size w W) => order_any15 kA yA nA _ sA bA xA pAi mA cAi kB yB nB _ sB bB xB pBi mB cBi W (HRA.out.keep hx) (HRB.out.keep hx) hfA hfB hbA hbB hmA0 hmB0 hxA hxB)
  have HO2 := Lib.hid (fun (W : World) (hx : Below w.heap.size w W) => order_any15 kB yB nB _ sB bB xB pBi mB cBi kA yA nA _ sA bA xA pAi mA cAi W (HRB.out.keep hx) (HRA.out.keep hx) hfB hfA hbB hbA hmB0 hmA0 hxB hxA)
  have HEq := Lib.hid (fun (W : World) (hx : Below w.heap.size w W) => equal_any kA yA nA _ sA bA xA pAi mA cAi kB yB nB _ sB bB xB pBi mB cBi W (HRA.out.keep hx) (HRB.out.keep hx) hfA hfB hbA hbB hmA0 hmB0 hxA hxB)
  have HEq2 := Lib.hid (fun (W : World) (hx : Below w.heap.size w W) => equal_any kB yB nB _ sB bB xB pBi mB cBi kA yA nA _ sA bA xA pAi mA cAi W (HRB.out.keep hx) (HRA.out.keep hx) hfB hfA hbB hbA hmB0 hmA0 hxB hxA)
  have HSa := Lib.hid (fun (W : World) (hx : Below w.heap.size w W) => same_any15 kA yA nA _ sA bA xA pAi mA cAi kB yB nB _ sB bB xB pBi mB cBi W (HRA.out.keep hx) (HRB.out.keep hx) hfA hfB hbA hbB hmA0 hmB0 hxA hxB)
  have HSa2 := Lib.hid (fun (W : World) (hx : Below w.heap.size w W) => same_any15 kB yB nB _ sB bB xB pBi mB cBi kA yA nA _ sA bA xA pAi mA cAi W (HRB.out.keep hx) (HRA.out.keep hx) hfB hfA hbB hbA hmB0 hmA0 hxB hxA)
  have HHa := Lib.hid (fun (W : World) (hx : Below w.heap.size w W) => hash15_any kA yA nA _ sA bA xA pAi mA cAi W hbA (HRA.out.keep hx) hfA hmA0 hxA)
  have HHb := Lib.hid (fun (W : World) (hx : Below w.heap.size w W) => hash15_any kB yB nB _ sB bB xB pBi mB cBi W hbB (HRB.out.keep hx) hfB hmB0 hxB)
  have HTa := Lib.hid (fun (W : World) (hx : Below w.heap.size w W) => truth_any kA yA nA _ sA bA xA pAi mA cAi W hbA (HRA.out.keep hx) hfA hmA0 hxA)
  have HTb := Lib.hid (fun (W : World) (hx : Below w.heap.size w W) => truth_any kB yB nB _ sB bB xB pBi mB cBi W hbB (HRB.out.keep hx) hfB hmB0 hxB)
  have HGd := Lib.hid (fun (W : World) (hx : Below w.heap.size w W) => rgood15_any kA yA nA _ sA bA xA pAi mA cAi W hbA (HRA.out.keep hx) hfA hmA0 hxA)
  have HN := Lib.hid (fun W => risNaN_any bA hbA W)
  have HAG := Lib.hid (fun (h1 : goodP kA yA nA sA bA xA mA = true) (h2 : goodP kB yB nB sB bB xB mB = true) (h : eqP true true (numP kA) (numP kB) (nuC kA kB bA bB (zP kA yA nA sA) (zP kB yB nB sB)) (nuB kA kB bA bB) kA kB xA xB = true) => eq_agree hfA hfB hbA hbB h1 h2 h)
  have HSG := Lib.hid (fun (h1 : goodP kA yA nA sA bA xA mA = true) (h2 : goodP kB yB nB sB bB xB mB = true) (h : saP true true (kA != kB) (kA == 3) ((bA : Int) == (bB : Int)) (nanB bA) (nanB bB) (yA == yB) (xA.toList == xB.toList) (cmpI (sg nA (val B18 sA)) (sg nB (val B18 sB))) = true) (hn : ((kA == 3) && nanB bA) = false) => sa_agree hfA hfB h1 h2 h hn)
  have hsl := compareBytes_lo xA.data.toList xB.data.toList
  have hnl := nuC_lo kA kB bA bB (zP kA yA nA sA) (zP kB yB nB sB)
  have hc2 := nuC_anti kB kA bB bA (zP kB yB nB sB) (zP kA yA nA sA)
  have hs2 := bytes_anti xB.data.toList xA.data.toList
  rw [hc2, hs2, nuB_sym kB kA, orB_sym, orE_sym] at HO2
  rw [hc2, nuB_sym kB kA, eqP_sym, Int.neg_neg] at HEq2
  rw [cmpI_anti, ← saP_sym] at HSa2
  have hgAe : goodP kA yA nA sA bA xA mA = goodP kA yA nA sA bA xA mA := rfl
  obtain ⟨gA, hgA⟩ : ∃ g, goodP kA yA nA sA bA xA mA = g := ⟨_, rfl⟩
  obtain ⟨gB, hgB⟩ : ∃ g, goodP kB yB nB sB bB xB mB = g := ⟨_, rfl⟩
  rw [hgA] at HO HO2 HEq HEq2 HSa HSa2 HHa HTa HGd
  rw [hgB] at HO HO2 HEq HEq2 HSa HSa2 HHb HTb
  have ha1 := orC_anti gA gB (kA == 4) (kB == 4) (numP kA) (numP kB) (nuC kA kB bA bB (zP kA yA nA sA) (zP kB yB nB sB)) (Lib.compareBytes xA.data.toList xB.data.toList)
  have hl1 := orC_lo gA gB (kA == 4) (kB == 4) (numP kA) (numP kB) (nuC kA kB bA bB (zP kA yA nA sA) (zP kB yB nB sB)) (Lib.compareBytes xA.data.toList xB.data.toList) hnl hsl
  have hl3 := orE_lo gA gB (kA == 4) (kB == 4) (numP kA) (numP kB)
  obtain ⟨o1, ho1⟩ : ∃ o, orC gA gB (kA == 4) (kB == 4) (numP kA) (numP kB) (nuC kA kB bA bB (zP kA yA nA sA) (zP kB yB nB sB)) (Lib.compareBytes xA.data.toList xB.data.toList) = o := ⟨_, rfl⟩
  obtain ⟨o2, ho2⟩ : ∃ o, orB gA gB (kA == 4) (kB == 4) (numP kA) (numP kB) (nuB kA kB bA bB) = o := ⟨_, rfl⟩
  obtain ⟨o3, ho3⟩ : ∃ o, orE gA gB (kA == 4) (kB == 4) (numP kA) (numP kB) = o := ⟨_, rfl⟩
  obtain ⟨o4, ho4⟩ : ∃ o, orC gB gA (kB == 4) (kA == 4) (numP kB) (numP kA) (-(nuC kA kB bA bB (zP kA yA nA sA) (zP kB yB nB sB))) (-(Lib.compareBytes xA.data.toList xB.data.toList)) = o := ⟨_, rfl⟩
  obtain ⟨qe, hqe⟩ : ∃ o, eqP gA gB (numP kA) (numP kB) (nuC kA kB bA bB (zP kA yA nA sA) (zP kB yB nB sB)) (nuB kA kB bA bB) kA kB xA xB = o := ⟨_, rfl⟩
  obtain ⟨qs, hqs⟩ : ∃ o, saP gA gB (kA != kB) (kA == 3) ((bA : Int) == (bB : Int)) (nanB bA) (nanB bB) (yA == yB) (xA.toList == xB.toList) (cmpI (sg nA (val B18 sA)) (sg nB (val B18 sB))) = o := ⟨_, rfl⟩
  obtain ⟨nn, hnn⟩ : ∃ o, nanB bA = o := ⟨_, rfl⟩
  rw [ho1, ho4] at ha1
  rw [ho1] at hl1
  rw [ho3] at hl3
  rw [ho1, ho2, ho3] at HO
  rw [ho4, ho2, ho3] at HO2
  rw [hqe] at HEq HEq2
  rw [hqs] at HSa HSa2
  rw [hnn] at HN
  have a0 := HXA.out.c0
  have a1 := HXA.out.c1
  have a2 := HXA.out.c2
  have a3 := HXA.out.c3
  have a4 := HXA.out.c4
  have a5 := HXA.out.c5
  have a6 := HXA.out.c6
  have d0 := HXB.out.c0
  have d1 := HXB.out.c1
  have d2 := HXB.out.c2
  have d3 := HXB.out.c3
  have d4 := HXB.out.c4
  have d5 := HXB.out.c5
  have d6 := HXB.out.c6
  have ho4' : o4 = -o1 := by omega
  rw [hgA, hgB, hqe] at h1
  rw [hgA, hgB, hqs] at h2
  rw [hgA] at h4
  subst h4
  subst h1
  subst h2
  have q3 : (kA == 3) = true := by simpa using h3
  clear HAG HSG HHa HHb HTa HTb hgA hgB hqe hqs hsl hnl hc2 hs2 ha1 ho1 ho2 ho3 ho4 hgAe hnn
  clear hfA hfB hrA hrB hpA hpB HRA HRB
  clear h3
  subst ho4'
  have hng : IntKind.i64.wrap o1 = o1 := IntWalk.i64_in o1 (by omega)
  go_enter Tryz.func4, Tryz.ntmps4
  go_upto_region 5 with (first
    | (go_at_call 5; (try rw [hW1]); (with_reducible refine HK.out.mono ?_); rintro e vv ⟨rfl, hvv⟩; replace a0 := below_cell hvv a0; replace a1 := below_cell hvv a1; replace a2 := below_cell hvv a2; replace a3 := below_cell hvv a3; replace a4 := below_cell hvv a4; replace a5 := below_cell hvv a5; replace a6 := below_cell hvv a6; replace d0 := below_cell hvv d0; replace d1 := below_cell hvv d1; replace d2 := below_cell hvv d2; replace d3 := below_cell hvv d3; replace d4 := below_cell hvv d4; replace d5 := below_cell hvv d5; replace d6 := below_cell hvv d6; replace HX := Lib.hid (HX.out.trans (hvv.mono HX.out.size)); clear hvv)
    | (go_at_call 6; (first | (with_reducible refine (HO.out _ HX.out).mono ?_) | (with_reducible refine (HO2.out _ HX.out).mono ?_)); rintro e vv ⟨rfl, hvv⟩; replace a0 := below_cell hvv a0; replace a1 := below_cell hvv a1; replace a2 := below_cell hvv a2; replace a3 := below_cell hvv a3; replace a4 := below_cell hvv a4; replace a5 := below_cell hvv a5; replace a6 := below_cell hvv a6; replace d0 := below_cell hvv d0; replace d1 := below_cell hvv d1; replace d2 := below_cell hvv d2; replace d3 := below_cell hvv d3; replace d4 := below_cell hvv d4; replace d5 := below_cell hvv d5; replace d6 := below_cell hvv d6; replace HX := Lib.hid (HX.out.trans (hvv.mono HX.out.size)); clear hvv)
    | fail)
  first | (go_region_held3 (fun w' => w'.cell? ⟨w.heap.size, 0, none⟩ = some (.int .i64 kA) ∧ w'.cell? ⟨w.heap.size, 1, none⟩ = some (.bool yA) ∧ w'.cell? ⟨w.heap.size, 2, none⟩ = some (.bool nA) ∧ w'.cell? ⟨w.heap.size, 3, none⟩ = some (.slice pA sA.length cA) ∧ w'.cell? ⟨w.heap.size, 4, none⟩ = some (.int .u64 (bA : Int)) ∧ w'.cell? ⟨w.heap.size, 5, none⟩ = some (.string xA) ∧ w'.cell? ⟨w.heap.size, 6, none⟩ = some (.slice pAi mA cAi) ∧ w'.cell? ⟨w.heap.size + 1, 0, none⟩ = some (.int .i64 kB) ∧ w'.cell? ⟨w.heap.size + 1, 1, none⟩ = some (.bool yB) ∧ w'.cell? ⟨w.heap.size + 1, 2, none⟩ = some (.bool nB) ∧ w'.cell? ⟨w.heap.size + 1, 3, none⟩ = some (.slice pB sB.length cB) ∧ w'.cell? ⟨w.heap.size + 1, 4, none⟩ = some (.int .u64 (bB : Int)) ∧ w'.cell? ⟨w.heap.size + 1, 5, none⟩ = some (.string xB) ∧ w'.cell? ⟨w.heap.size + 1, 6, none⟩ = some (.slice pBi mB cBi))
    (first | ((repeat' (first | with_reducible assumption | apply And.intro | with_reducible refine drew_cell ?_)); done) | fail)
    (first
         | (go_at_call 8; (first | (with_reducible refine (HEq.out _ (by first | exact HX.out | exact drewM HX.out)).mono ?_) | (with_reducible refine (HEq2.out _ (by first | exact HX.out | exact drewM HX.out)).mono ?_)); rintro e vv ⟨rfl, hvv⟩; replace a0 := below_cell hvv a0; replace a1 := below_cell hvv a1; replace a2 := below_cell hvv a2; replace a3 := below_cell hvv a3; replace a4 := below_cell hvv a4; replace a5 := below_cell hvv a5; replace a6 := below_cell hvv a6; replace d0 := below_cell hvv d0; replace d1 := below_cell hvv d1; replace d2 := below_cell hvv d2; replace d3 := below_cell hvv d3; replace d4 := below_cell hvv d4; replace d5 := below_cell hvv d5; replace d6 := below_cell hvv d6; replace HX := Lib.hid (by first | exact (drewM HX.out).trans (hvv.mono (drewM HX.out).size) | exact HX.out.trans (hvv.mono HX.out.size)); clear hvv)
         | (go_at_call 9; (first | (with_reducible refine (HSa.out _ (by first | exact HX.out | exact drewM HX.out)).mono ?_) | (with_reducible refine (HSa2.out _ (by first | exact HX.out | exact drewM HX.out)).mono ?_)); rintro e vv ⟨rfl, hvv⟩; replace a0 := below_cell hvv a0; replace a1 := below_cell hvv a1; replace a2 := below_cell hvv a2; replace a3 := below_cell hvv a3; replace a4 := below_cell hvv a4; replace a5 := below_cell hvv a5; replace a6 := below_cell hvv a6; replace d0 := below_cell hvv d0; replace d1 := below_cell hvv d1; replace d2 := below_cell hvv d2; replace d3 := below_cell hvv d3; replace d4 := below_cell hvv d4; replace d5 := below_cell hvv d5; replace d6 := below_cell hvv d6; replace HX := Lib.hid (by first | exact (drewM HX.out).trans (hvv.mono (drewM HX.out).size) | exact HX.out.trans (hvv.mono HX.out.size)); clear hvv)
         | fail)) | fail
  go_upto_region 7 with fail
  refine wp_region_held_drew (S := fun w' => w'.cell? ⟨w.heap.size, 0, none⟩ = some (.int .i64 kA) ∧ w'.cell? ⟨w.heap.size, 1, none⟩ = some (.bool yA) ∧ w'.cell? ⟨w.heap.size, 2, none⟩ = some (.bool nA) ∧ w'.cell? ⟨w.heap.size, 3, none⟩ = some (.slice pA sA.length cA) ∧ w'.cell? ⟨w.heap.size, 4, none⟩ = some (.int .u64 (bA : Int)) ∧ w'.cell? ⟨w.heap.size, 5, none⟩ = some (.string xA) ∧ w'.cell? ⟨w.heap.size, 6, none⟩ = some (.slice pAi mA cAi) ∧ w'.cell? ⟨w.heap.size + 1, 0, none⟩ = some (.int .i64 kB) ∧ w'.cell? ⟨w.heap.size + 1, 1, none⟩ = some (.bool yB) ∧ w'.cell? ⟨w.heap.size + 1, 2, none⟩ = some (.bool nB) ∧ w'.cell? ⟨w.heap.size + 1, 3, none⟩ = some (.slice pB sB.length cB) ∧ w'.cell? ⟨w.heap.size + 1, 4, none⟩ = some (.int .u64 (bB : Int)) ∧ w'.cell? ⟨w.heap.size + 1, 5, none⟩ = some (.string xB) ∧ w'.cell? ⟨w.heap.size + 1, 6, none⟩ = some (.slice pBi mB cBi)) (by kernel_rfl) ?_ (fun hHeld => ?_)
  · (try dsimp only)
    (first | ((repeat' (first | with_reducible assumption | apply And.intro | with_reducible refine drew_cell ?_)); done) | fail)
  refine wpAnyH_take (i := 0) (v := ?_) rfl (by kernel_rfl) (by kernel_rfl) (by kernel_rfl) (fun _ _ _ h => h) (Or.inl ⟨by rfl, ?_⟩) (by assumption) ?_
  rotate_left 1
  · intro w hSw
    (try dsimp only at hSw)
    go_simp
    (try with_reducible rfl)
  try simp only [List.getElem_toArray, List.getElem_cons_succ, List.getElem_cons_zero, Act.put, List.setIfInBounds_toArray, List.set_cons_zero, List.set_cons_succ]
  refine wpAnyH_take (i := 1) (v := ?_) rfl (by kernel_rfl) (by kernel_rfl) (by kernel_rfl) (fun _ _ _ h => h) (Or.inl ⟨by rfl, ?_⟩) (by assumption) ?_
  rotate_left 1
  · intro w hSw
    (try dsimp only at hSw)
    go_simp
    (try with_reducible rfl)
  try simp only [List.getElem_toArray, List.getElem_cons_succ, List.getElem_cons_zero, Act.put, List.setIfInBounds_toArray, List.set_cons_zero, List.set_cons_succ]
  refine wpAnyH_ready (rs := [2]) (by kernel_rfl) (by simp) ?_
  refine AllReadyH.cons rfl (fun K hK => ?_) AllReadyH.nil
  go_simp
  (go_at_call 8; (with_reducible refine (HEq.out _ (by first | exact HX.out | exact drewM HX.out)).mono ?_); rintro e vv ⟨rfl, hvv⟩; replace a0 := below_cell hvv a0; replace a1 := below_cell hvv a1; replace a2 := below_cell hvv a2; replace a3 := below_cell hvv a3; replace a4 := below_cell hvv a4; replace a5 := below_cell hvv a5; replace a6 := below_cell hvv a6; replace d0 := below_cell hvv d0; replace d1 := below_cell hvv d1; replace d2 := below_cell hvv d2; replace d3 := below_cell hvv d3; replace d4 := below_cell hvv d4; replace d5 := below_cell hvv d5; replace d6 := below_cell hvv d6; replace HX := Lib.hid (by first | exact (drewM HX.out).trans (hvv.mono (drewM HX.out).size) | exact HX.out.trans (hvv.mono HX.out.size)); clear hvv)
  (try go_wp2_with fail)
  refine hK.out _ _ ?_ (fun hHeld => ?_)
  · (try dsimp only)
    (first | ((repeat' (first | with_reducible assumption | apply And.intro | with_reducible refine drew_cell ?_)); done) | fail)
  clear hK K
  try simp only [List.getElem_toArray, List.getElem_cons_succ, List.getElem_cons_zero, Act.put, List.setIfInBounds_toArray, List.set_cons_zero, List.set_cons_succ]
  refine wpAnyH_take (i := 3) (v := ?_) rfl (by kernel_rfl) (by kernel_rfl) (by kernel_rfl) (fun _ _ _ h => h) (Or.inl ⟨by rfl, ?_⟩) (by assumption) ?_
  rotate_left 1
  · intro w hSw
    (try dsimp only at hSw)
    go_simp
    (try with_reducible rfl)
  try simp only [List.getElem_toArray, List.getElem_cons_succ, List.getElem_cons_zero, Act.put, List.setIfInBounds_toArray, List.set_cons_zero, List.set_cons_succ]
  refine wpAnyH_take (i := 4) (v := undef) rfl (by kernel_rfl) (by kernel_rfl) (by kernel_rfl) (fun _ _ _ h => h) (Or.inr ⟨by rfl, rfl⟩) (by assumption) ?_
  try simp only [List.getElem_toArray, List.getElem_cons_succ, List.getElem_cons_zero, Act.put, List.setIfInBounds_toArray, List.set_cons_zero, List.set_cons_succ]
  refine wpAnyH_take (i := 6) (v := undef) rfl (by kernel_rfl) (by kernel_rfl) (by kernel_rfl) (fun _ _ _ h => h) (Or.inr ⟨by rfl, rfl⟩) (by assumption) ?_
  try simp only [List.getElem_toArray, List.getElem_cons_succ, List.getElem_cons_zero, Act.put, List.setIfInBounds_toArray, List.set_cons_zero, List.set_cons_succ]
  refine wpAnyH_ready (rs := [5]) (by kernel_rfl) (by simp) ?_
  refine AllReadyH.cons rfl (fun K hK => ?_) AllReadyH.nil
  rw [if_neg (ne_true_of_eq_false (by rfl))]
  refine hK.out _ _ (by assumption) (fun hHeld => ?_)
  clear hK K
  try simp only [List.getElem_toArray, List.getElem_cons_succ, List.getElem_cons_zero, Act.put, List.setIfInBounds_toArray, List.set_cons_zero, List.set_cons_succ]
  refine wpAnyH_ready (rs := [7]) (by kernel_rfl) (by simp) ?_
  refine AllReadyH.cons rfl (fun K hK => ?_) AllReadyH.nil
  rw [if_neg (ne_true_of_eq_false (by rfl))]
  refine hK.out _ _ (by assumption) (fun hHeld => ?_)
  clear hK K
  try simp only [List.getElem_toArray, List.getElem_cons_succ, List.getElem_cons_zero, Act.put, List.setIfInBounds_toArray, List.set_cons_zero, List.set_cons_succ]
  refine wpAnyH_take (i := 8) (v := undef) rfl (by kernel_rfl) (by kernel_rfl) (by kernel_rfl) (fun _ _ _ h => h) (Or.inr ⟨by rfl, rfl⟩) (by assumption) ?_
  try simp only [List.getElem_toArray, List.getElem_cons_succ, List.getElem_cons_zero, Act.put, List.setIfInBounds_toArray, List.set_cons_zero, List.set_cons_succ]
  refine wpAnyH_take (i := 9) (v := undef) rfl (by kernel_rfl) (by kernel_rfl) (by kernel_rfl) (fun _ _ _ h => h) (Or.inr ⟨by rfl, rfl⟩) (by assumption) ?_
  try simp only [List.getElem_toArray, List.getElem_cons_succ, List.getElem_cons_zero, Act.put, List.setIfInBounds_toArray, List.set_cons_zero, List.set_cons_succ]
  refine wpAnyH_take (i := 10) (v := undef) rfl (by kernel_rfl) (by kernel_rfl) (by kernel_rfl) (fun _ _ _ h => h) (Or.inr ⟨by rfl, rfl⟩) (by assumption) ?_
  try simp only [List.getElem_toArray, List.getElem_cons_succ, List.getElem_cons_zero, Act.put, List.setIfInBounds_toArray, List.set_cons_zero, List.set_cons_succ]
  refine wpAnyH_take (i := 12) (v := undef) rfl (by kernel_rfl) (by kernel_rfl) (by kernel_rfl) (fun _ _ _ h => h) (Or.inr ⟨by rfl, rfl⟩) (by assumption) ?_
  try simp only [List.getElem_toArray, List.getElem_cons_succ, List.getElem_cons_zero, Act.put, List.setIfInBounds_toArray, List.set_cons_zero, List.set_cons_succ]
  refine wpAnyH_ready (rs := [11]) (by kernel_rfl) (by simp) ?_
  refine AllReadyH.cons rfl (fun K hK => ?_) AllReadyH.nil
  rw [if_neg (ne_true_of_eq_false (by rfl))]
  refine hK.out _ _ (by assumption) (fun hHeld => ?_)
  clear hK K
  try simp only [List.getElem_toArray, List.getElem_cons_succ, List.getElem_cons_zero, Act.put, List.setIfInBounds_toArray, List.set_cons_zero, List.set_cons_succ]
  refine wpAnyH_ready (rs := [13]) (by kernel_rfl) (by simp) ?_
  refine AllReadyH.cons rfl (fun K hK => ?_) AllReadyH.nil
  rw [if_neg (ne_true_of_eq_false (by rfl))]
  refine hK.out _ _ (by assumption) (fun hHeld => ?_)
  clear hK K
  try simp only [List.getElem_toArray, List.getElem_cons_succ, List.getElem_cons_zero, Act.put, List.setIfInBounds_toArray, List.set_cons_zero, List.set_cons_succ]
  refine wpAnyH_take (i := 14) (v := undef) rfl (by kernel_rfl) (by kernel_rfl) (by kernel_rfl) (fun _ _ _ h => h) (Or.inr ⟨by rfl, rfl⟩) (by assumption) ?_
  try simp only [List.getElem_toArray, List.getElem_cons_succ, List.getElem_cons_zero, Act.put, List.setIfInBounds_toArray, List.set_cons_zero, List.set_cons_succ]
  refine wpAnyH_take (i := 15) (v := undef) rfl (by kernel_rfl) (by kernel_rfl) (by kernel_rfl) (fun _ _ _ h => h) (Or.inr ⟨by rfl, rfl⟩) (by assumption) ?_
  try simp only [List.getElem_toArray, List.getElem_cons_succ, List.getElem_cons_zero, Act.put, List.setIfInBounds_toArray, List.set_cons_zero, List.set_cons_succ]
  refine wpAnyH_take (i := 16) (v := undef) rfl (by kernel_rfl) (by kernel_rfl) (by kernel_rfl) (fun _ _ _ h => h) (Or.inr ⟨by rfl, rfl⟩) (by assumption) ?_
  try simp only [List.getElem_toArray, List.getElem_cons_succ, List.getElem_cons_zero, Act.put, List.setIfInBounds_toArray, List.set_cons_zero, List.set_cons_succ]
  refine wpAnyH_take (i := 17) (v := undef) rfl (by kernel_rfl) (by kernel_rfl) (by kernel_rfl) (fun _ _ _ h => h) (Or.inr ⟨by rfl, rfl⟩) (by assumption) ?_
  try simp only [List.getElem_toArray, List.getElem_cons_succ, List.getElem_cons_zero, Act.put, List.setIfInBounds_toArray, List.set_cons_zero, List.set_cons_succ]
  refine wpAnyH_take (i := 18) (v := undef) rfl (by kernel_rfl) (by kernel_rfl) (by kernel_rfl) (fun _ _ _ h => h) (Or.inr ⟨by rfl, rfl⟩) (by assumption) ?_
  try simp only [List.getElem_toArray, List.getElem_cons_succ, List.getElem_cons_zero, Act.put, List.setIfInBounds_toArray, List.set_cons_zero, List.set_cons_succ]
  refine wpAnyH_take (i := 19) (v := undef) rfl (by kernel_rfl) (by kernel_rfl) (by kernel_rfl) (fun _ _ _ h => h) (Or.inr ⟨by rfl, rfl⟩) (by assumption) ?_
  try simp only [List.getElem_toArray, List.getElem_cons_succ, List.getElem_cons_zero, Act.put, List.setIfInBounds_toArray, List.set_cons_zero, List.set_cons_succ]
  refine wpAnyH_take (i := 20) (v := ?_) rfl (by kernel_rfl) (by kernel_rfl) (by kernel_rfl) (fun _ _ _ h => h) (Or.inl ⟨by rfl, ?_⟩) (by assumption) ?_
  rotate_left 1
  · intro w hSw
    (try dsimp only at hSw)
    go_simp
    (try with_reducible rfl)
  try simp only [List.getElem_toArray, List.getElem_cons_succ, List.getElem_cons_zero, Act.put, List.setIfInBounds_toArray, List.set_cons_zero, List.set_cons_succ]
  refine wpAnyH_done (by kernel_rfl) ?_ _
  go_wp2_with (first
    | (go_at_call 15; (with_reducible refine (HGd.out _ HX.out).mono ?_); rintro e vv ⟨rfl, hvv⟩; replace a0 := below_cell hvv a0; replace a1 := below_cell hvv a1; replace a2 := below_cell hvv a2; replace a3 := below_cell hvv a3; replace a4 := below_cell hvv a4; replace a5 := below_cell hvv a5; replace a6 := below_cell hvv a6; replace d0 := below_cell hvv d0; replace d1 := below_cell hvv d1; replace d2 := below_cell hvv d2; replace d3 := below_cell hvv d3; replace d4 := below_cell hvv d4; replace d5 := below_cell hvv d5; replace d6 := below_cell hvv d6; replace HX := Lib.hid (HX.out.trans (hvv.mono HX.out.size)); clear hvv)
    | (go_at_call 16; (with_reducible refine (HN.out _).mono ?_); rintro e w9 ⟨rfl, rfl⟩)
    | (go_at_call 9; (first | (with_reducible refine (HSa.out _ HX.out).mono ?_) | (with_reducible refine (HSa2.out _ HX.out).mono ?_)); rintro e vv ⟨rfl, hvv⟩; replace a0 := below_cell hvv a0; replace a1 := below_cell hvv a1; replace a2 := below_cell hvv a2; replace a3 := below_cell hvv a3; replace a4 := below_cell hvv a4; replace a5 := below_cell hvv a5; replace a6 := below_cell hvv a6; replace d0 := below_cell hvv d0; replace d1 := below_cell hvv d1; replace d2 := below_cell hvv d2; replace d3 := below_cell hvv d3; replace d4 := below_cell hvv d4; replace d5 := below_cell hvv d5; replace d6 := below_cell hvv d6; replace HX := Lib.hid (HX.out.trans (hvv.mono HX.out.size)); clear hvv)
    | (go_at_call 8; (first | (with_reducible refine (HEq.out _ HX.out).mono ?_) | (with_reducible refine (HEq2.out _ HX.out).mono ?_)); rintro e vv ⟨rfl, hvv⟩; replace a0 := below_cell hvv a0; replace a1 := below_cell hvv a1; replace a2 := below_cell hvv a2; replace a3 := below_cell hvv a3; replace a4 := below_cell hvv a4; replace a5 := below_cell hvv a5; replace a6 := below_cell hvv a6; replace d0 := below_cell hvv d0; replace d1 := below_cell hvv d1; replace d2 := below_cell hvv d2; replace d3 := below_cell hvv d3; replace d4 := below_cell hvv d4; replace d5 := below_cell hvv d5; replace d6 := below_cell hvv d6; replace HX := Lib.hid (HX.out.trans (hvv.mono HX.out.size)); clear hvv)
    | fail)
  all_goals go_ret
  all_goals exact ⟨by first | rfl | simp, HX.out⟩
end
section
open Go Go.ChangeShapes Go.WideShapes Go.ChangeAt Go.RowKit
set_option linter.unusedVariables false
set_option linter.unusedSimpArgs false
set_option maxRecDepth 100000 in
set_option maxHeartbeats 16000000 in
theorem pa_f3 (kA : Int) (yA nA : Bool) (uA : Value) (sA : List Int) (bA : Nat) (xA : ByteArray) (pAi : Option Addr) (mA cAi : Nat) (kB : Int) (yB nB : Bool) (uB : Value) (sB : List Int) (bB : Nat) (xB : ByteArray) (pBi : Option Addr) (mB cBi : Nat) (w : World) (hrA : Rd w uA sA) (hrB : Rd w uB sB) (hfA : Fit sA) (hfB : Fit sB) (hbA : bA < 18446744073709551616) (hbB : bB < 18446744073709551616) (hmA0 : (mA : Int) ≤ 9223372036854775807) (hmB0 : (mB : Int) ≤ 9223372036854775807) (hxA : (xA.size : Int) ≤ 9223372036854775807) (hxB : (xB.size : Int) ≤ 9223372036854775807) (h1 : eqP (goodP kA yA nA sA bA xA mA) (goodP kB yB nB sB bB xB mB) (numP kA) (numP kB) (nuC kA kB bA bB (zP kA yA nA sA) (zP kB yB nB sB)) (nuB kA kB bA bB) kA kB xA xB = false) (h2 : saP (goodP kA yA nA sA bA xA mA) (goodP kB yB nB sB bB xB mB) (kA != kB) (kA == 3) ((bA : Int) == (bB : Int)) (nanB bA) (nanB bB) (yA == yB) (xA.toList == xB.toList) (cmpI (sg nA (val B18 sA)) (sg nB (val B18 sB))) = false) (h3 : kA ≠ 3) :
    Calls Tryz.prog 4 #[.agg #[.int .i64 kA, .bool yA, .bool nA, uA, .int .u64 (bA : Int), .string xA, .slice pAi mA cAi], .agg #[.int .i64 kB, .bool yB, .bool nB, uB, .int .u64 (bB : Int), .string xB, .slice pBi mB cBi]] w fun e w' => e = .returned (.bool true) ∧ Below w.heap.size w w' := by
  obtain ⟨pA, cA, rfl, hcA, hmA, hpA⟩ := rd_form hrA
  obtain ⟨pB, cB, rfl, hcB, hmB, hpB⟩ := rd_form hrB
  obtain ⟨W1, hW1⟩ : ∃ x, (w.alloc (.cells #[.int .i64 kA, .bool yA, .bool nA, .slice pA sA.length cA, .int .u64 (bA : Int), .string xA, .slice pAi mA cAi] 28)).alloc (.cells #[.int .i64 kB, .bool yB, .bool nB, .slice pB sB.length cB, .int .u64 (bB : Int), .string xB, .slice pBi mB cBi] 28) = x := ⟨_, rfl⟩
  have HX := Lib.hid (show Below w.heap.size w W1 by rw [← hW1]; exact ((Below.refl _ _).alloc (Nat.le_refl _) _).alloc (by simp) _)
  have HXA := Lib.hid (show Bx7 W1 (w.heap.size) (.int .i64 kA) (.bool yA) (.bool nA) (.slice pA sA.length cA) (.int .u64 (bA : Int)) (.string xA) (.slice pAi mA cAi) by rw [← hW1]; exact (Bx7.new w _ _ _ _ _ _ _ _ rfl).keep ((Below.refl _ _).alloc (Nat.le_refl _) _))
  have HXB := Lib.hid (show Bx7 W1 (w.heap.size + 1) (.int .i64 kB) (.bool yB) (.bool nB) (.slice pB sB.length cB) (.int .u64 (bB : Int)) (.string xB) (.slice pBi mB cBi) by rw [← hW1]; exact Bx7.new _ _ _ _ _ _ _ _ _ (by simp))
  have HRA := Lib.hid hrA
  have HRB := Lib.hid hrB
  have HK := Lib.hid (known15 W1)
  have HO := Lib.hid (fun (W : World) (hx : Below w.heap.size w W) => order_any15 kA yA nA _ sA bA xA pAi mA cAi kB yB nB _ sB bB xB pBi mB cBi W (HRA.out.keep hx) (HRB.out.keep hx) hfA hfB hbA hbB hmA0 hmB0 hxA hxB)
  have HO2 := Lib.hid (fun (W : World) (hx : Below w.heap.size w W) => order_any15 kB yB nB _ sB bB xB pBi mB cBi kA yA nA _ sA bA xA pAi mA cAi W (HRB.out.keep hx) (HRA.out.keep hx) hfB hfA hbB hbA hmB0 hmA0 hxB hxA)
  have HEq := Lib.hid (fun (W : World) (hx : Below w.heap.size w W) => equal_any kA yA nA _ sA bA xA pAi mA cAi kB yB nB _ sB bB xB pBi mB cBi W (HRA.out.keep hx) (HRB.out.keep hx) hfA hfB hbA hbB hmA0 hmB0 hxA hxB)
  have HEq2 := Lib.hid (fun (W : World) (hx : Below w.heap.size w W) => equal_any kB yB nB _ sB bB xB pBi mB cBi kA yA nA _ sA bA xA pAi mA cAi W (HRB.out.keep hx) (HRA.out.keep hx) hfB hfA hbB hbA hmB0 hmA0 hxB hxA)
  have HSa := Lib.hid (fun (W : World) (hx : Below w.heap.size w W) => same_any15 kA yA nA _ sA bA xA pAi mA cAi kB yB nB _ sB bB xB pBi mB cBi W (HRA.out.keep hx) (HRB.out.keep hx) hfA hfB hbA hbB hmA0 hmB0 hxA hxB)
  have HSa2 := Lib.hid (fun (W : World) (hx : Below w.heap.size w W) => same_any15 kB yB nB _ sB bB xB pBi mB cBi kA yA nA _ sA bA xA pAi mA cAi W (HRB.out.keep hx) (HRA.out.keep hx) hfB hfA hbB hbA hmB0 hmA0 hxB hxA)
  have HHa := Lib.hid (fun (W : World) (hx : Below w.heap.size w W) => hash15_any kA yA nA _ sA bA xA pAi mA cAi W hbA (HRA.out.keep hx) hfA hmA0 hxA)
  have HHb := Lib.hid (fun (W : World) (hx : Below w.heap.size w W) => hash15_any kB yB nB _ sB bB xB pBi mB cBi W hbB (HRB.out.keep hx) hfB hmB0 hxB)
  have HTa := Lib.hid (fun (W : World) (hx : Below w.heap.size w W) => truth_any kA yA nA _ sA bA xA pAi mA cAi W hbA (HRA.out.keep hx) hfA hmA0 hxA)
  have HTb := Lib.hid (fun (W : World) (hx : Below w.heap.size w W) => truth_any kB yB nB _ sB bB xB pBi mB cBi W hbB (HRB.out.keep hx) hfB hmB0 hxB)
  have HGd := Lib.hid (fun (W : World) (hx : Below w.heap.size w W) => rgood15_any kA yA nA _ sA bA xA pAi mA cAi W hbA (HRA.out.keep hx) hfA hmA0 hxA)
  have HN := Lib.hid (fun W => risNaN_any bA hbA W)
  have HAG := Lib.hid (fun (h1 : goodP kA yA nA sA bA xA mA = true) (h2 : goodP kB yB nB sB bB xB mB = true) (h : eqP true true (numP kA) (numP kB) (nuC kA kB bA bB (zP kA yA nA sA) (zP kB yB nB sB)) (nuB kA kB bA bB) kA kB xA xB = true) => eq_agree hfA hfB hbA hbB h1 h2 h)
  have HSG := Lib.hid (fun (h1 : goodP kA yA nA sA bA xA mA = true) (h2 : goodP kB yB nB sB bB xB mB = true) (h : saP true true (kA != kB) (kA == 3) ((bA : Int) == (bB : Int)) (nanB bA) (nanB bB) (yA == yB) (xA.toList == xB.toList) (cmpI (sg nA (val B18 sA)) (sg nB (val B18 sB))) = true) (hn : ((kA == 3) && nanB bA) = false) => sa_agree hfA hfB h1 h2 h hn)
  have hsl := compareBytes_lo xA.data.toList xB.data.toList
  have hnl := nuC_lo kA kB bA bB (zP kA yA nA sA) (zP kB yB nB sB)
  have hc2 := nuC_anti kB kA bB bA (zP kB yB nB sB) (zP kA yA nA sA)
  have hs2 := bytes_anti xB.data.toList xA.data.toList
  rw [hc2, hs2, nuB_sym kB kA, orB_sym, orE_sym] at HO2
  rw [hc2, nuB_sym kB kA, eqP_sym, Int.neg_neg] at HEq2
  rw [cmpI_anti, ← saP_sym] at HSa2
  have hgAe : goodP kA yA nA sA bA xA mA = goodP kA yA nA sA bA xA mA := rfl
  obtain ⟨gA, hgA⟩ : ∃ g, goodP kA yA nA sA bA xA mA = g := ⟨_, rfl⟩
  obtain ⟨gB, hgB⟩ : ∃ g, goodP kB yB nB sB bB xB mB = g := ⟨_, rfl⟩
  rw [hgA] at HO HO2 HEq HEq2 HSa HSa2 HHa HTa HGd
  rw [hgB] at HO HO2 HEq HEq2 HSa HSa2 HHb HTb
  have ha1 := orC_anti gA gB (kA == 4) (kB == 4) (numP kA) (numP kB) (nuC kA kB bA bB (zP kA yA nA sA) (zP kB yB nB sB)) (Lib.compareBytes xA.data.toList xB.data.toList)
  have hl1 := orC_lo gA gB (kA == 4) (kB == 4) (numP kA) (numP kB) (nuC kA kB bA bB (zP kA yA nA sA) (zP kB yB nB sB)) (Lib.compareBytes xA.data.toList xB.data.toList) hnl hsl
  have hl3 := orE_lo gA gB (kA == 4) (kB == 4) (numP kA) (numP kB)
  obtain ⟨o1, ho1⟩ : ∃ o, orC gA gB (kA == 4) (kB == 4) (numP kA) (numP kB) (nuC kA kB bA bB (zP kA yA nA sA) (zP kB yB nB sB)) (Lib.compareBytes xA.data.toList xB.data.toList) = o := ⟨_, rfl⟩
  obtain ⟨o2, ho2⟩ : ∃ o, orB gA gB (kA == 4) (kB == 4) (numP kA) (numP kB) (nuB kA kB bA bB) = o := ⟨_, rfl⟩
  obtain ⟨o3, ho3⟩ : ∃ o, orE gA gB (kA == 4) (kB == 4) (numP kA) (numP kB) = o := ⟨_, rfl⟩
  obtain ⟨o4, ho4⟩ : ∃ o, orC gB gA (kB == 4) (kA == 4) (numP kB) (numP kA) (-(nuC kA kB bA bB (zP kA yA nA sA) (zP kB yB nB sB))) (-(Lib.compareBytes xA.data.toList xB.data.toList)) = o := ⟨_, rfl⟩
  obtain ⟨qe, hqe⟩ : ∃ o, eqP gA gB (numP kA) (numP kB) (nuC kA kB bA bB (zP kA yA nA sA) (zP kB yB nB sB)) (nuB kA kB bA bB) kA kB xA xB = o := ⟨_, rfl⟩
  obtain ⟨qs, hqs⟩ : ∃ o, saP gA gB (kA != kB) (kA == 3) ((bA : Int) == (bB : Int)) (nanB bA) (nanB bB) (yA == yB) (xA.toList == xB.toList) (cmpI (sg nA (val B18 sA)) (sg nB (val B18 sB))) = o := ⟨_, rfl⟩
  obtain ⟨nn, hnn⟩ : ∃ o, nanB bA = o := ⟨_, rfl⟩
  rw [ho1, ho4] at ha1
  rw [ho1] at hl1
  rw [ho3] at hl3
  rw [ho1, ho2, ho3] at HO
  rw [ho4, ho2, ho3] at HO2
  rw [hqe] at HEq HEq2
  rw [hqs] at HSa HSa2
  rw [hnn] at HN
  have a0 := HXA.out.c0
  have a1 := HXA.out.c1
  have a2 := HXA.out.c2
  have a3 := HXA.out.c3
  have a4 := HXA.out.c4
  have a5 := HXA.out.c5
  have a6 := HXA.out.c6
  have d0 := HXB.out.c0
  have d1 := HXB.out.c1
  have d2 := HXB.out.c2
  have d3 := HXB.out.c3
  have d4 := HXB.out.c4
  have d5 := HXB.out.c5
  have d6 := HXB.out.c6
  have ho4' : o4 = -o1 := by omega
  rw [hgA, hgB, hqe] at h1
  rw [hgA, hgB, hqs] at h2
  subst h1
  subst h2
  have q3 : (kA == 3) = false := by simpa using h3
  clear HAG HSG HHa HHb HTa HTb hgA hgB hqe hqs hsl hnl hc2 hs2 ha1 ho1 ho2 ho3 ho4 hgAe hnn
  clear hfA hfB hrA hrB hpA hpB HRA HRB
  clear h3
  subst ho4'
  have hng : IntKind.i64.wrap o1 = o1 := IntWalk.i64_in o1 (by omega)
  go_enter Tryz.func4, Tryz.ntmps4
  go_upto_region 5 with (first
    | (go_at_call 5; (try rw [hW1]); (with_reducible refine HK.out.mono ?_); rintro e vv ⟨rfl, hvv⟩; replace a0 := below_cell hvv a0; replace a1 := below_cell hvv a1; replace a2 := below_cell hvv a2; replace a3 := below_cell hvv a3; replace a4 := below_cell hvv a4; replace a5 := below_cell hvv a5; replace a6 := below_cell hvv a6; replace d0 := below_cell hvv d0; replace d1 := below_cell hvv d1; replace d2 := below_cell hvv d2; replace d3 := below_cell hvv d3; replace d4 := below_cell hvv d4; replace d5 := below_cell hvv d5; replace d6 := below_cell hvv d6; replace HX := Lib.hid (HX.out.trans (hvv.mono HX.out.size)); clear hvv)
    | (go_at_call 6; (first | (with_reducible refine (HO.out _ HX.out).mono ?_) | (with_reducible refine (HO2.out _ HX.out).mono ?_)); rintro e vv ⟨rfl, hvv⟩; replace a0 := below_cell hvv a0; replace a1 := below_cell hvv a1; replace a2 := below_cell hvv a2; replace a3 := below_cell hvv a3; replace a4 := below_cell hvv a4; replace a5 := below_cell hvv a5; replace a6 := below_cell hvv a6; replace d0 := below_cell hvv d0; replace d1 := below_cell hvv d1; replace d2 := below_cell hvv d2; replace d3 := below_cell hvv d3; replace d4 := below_cell hvv d4; replace d5 := below_cell hvv d5; replace d6 := below_cell hvv d6; replace HX := Lib.hid (HX.out.trans (hvv.mono HX.out.size)); clear hvv)
    | fail)
  first | (go_region_held3 (fun w' => w'.cell? ⟨w.heap.size, 0, none⟩ = some (.int .i64 kA) ∧ w'.cell? ⟨w.heap.size, 1, none⟩ = some (.bool yA) ∧ w'.cell? ⟨w.heap.size, 2, none⟩ = some (.bool nA) ∧ w'.cell? ⟨w.heap.size, 3, none⟩ = some (.slice pA sA.length cA) ∧ w'.cell? ⟨w.heap.size, 4, none⟩ = some (.int .u64 (bA : Int)) ∧ w'.cell? ⟨w.heap.size, 5, none⟩ = some (.string xA) ∧ w'.cell? ⟨w.heap.size, 6, none⟩ = some (.slice pAi mA cAi) ∧ w'.cell? ⟨w.heap.size + 1, 0, none⟩ = some (.int .i64 kB) ∧ w'.cell? ⟨w.heap.size + 1, 1, none⟩ = some (.bool yB) ∧ w'.cell? ⟨w.heap.size + 1, 2, none⟩ = some (.bool nB) ∧ w'.cell? ⟨w.heap.size + 1, 3, none⟩ = some (.slice pB sB.length cB) ∧ w'.cell? ⟨w.heap.size + 1, 4, none⟩ = some (.int .u64 (bB : Int)) ∧ w'.cell? ⟨w.heap.size + 1, 5, none⟩ = some (.string xB) ∧ w'.cell? ⟨w.heap.size + 1, 6, none⟩ = some (.slice pBi mB cBi))
    (first | ((repeat' (first | with_reducible assumption | apply And.intro | with_reducible refine drew_cell ?_)); done) | fail)
    (first
         | (go_at_call 8; (first | (with_reducible refine (HEq.out _ (by first | exact HX.out | exact drewM HX.out)).mono ?_) | (with_reducible refine (HEq2.out _ (by first | exact HX.out | exact drewM HX.out)).mono ?_)); rintro e vv ⟨rfl, hvv⟩; replace a0 := below_cell hvv a0; replace a1 := below_cell hvv a1; replace a2 := below_cell hvv a2; replace a3 := below_cell hvv a3; replace a4 := below_cell hvv a4; replace a5 := below_cell hvv a5; replace a6 := below_cell hvv a6; replace d0 := below_cell hvv d0; replace d1 := below_cell hvv d1; replace d2 := below_cell hvv d2; replace d3 := below_cell hvv d3; replace d4 := below_cell hvv d4; replace d5 := below_cell hvv d5; replace d6 := below_cell hvv d6; replace HX := Lib.hid (by first | exact (drewM HX.out).trans (hvv.mono (drewM HX.out).size) | exact HX.out.trans (hvv.mono HX.out.size)); clear hvv)
         | (go_at_call 9; (first | (with_reducible refine (HSa.out _ (by first | exact HX.out | exact drewM HX.out)).mono ?_) | (with_reducible refine (HSa2.out _ (by first | exact HX.out | exact drewM HX.out)).mono ?_)); rintro e vv ⟨rfl, hvv⟩; replace a0 := below_cell hvv a0; replace a1 := below_cell hvv a1; replace a2 := below_cell hvv a2; replace a3 := below_cell hvv a3; replace a4 := below_cell hvv a4; replace a5 := below_cell hvv a5; replace a6 := below_cell hvv a6; replace d0 := below_cell hvv d0; replace d1 := below_cell hvv d1; replace d2 := below_cell hvv d2; replace d3 := below_cell hvv d3; replace d4 := below_cell hvv d4; replace d5 := below_cell hvv d5; replace d6 := below_cell hvv d6; replace HX := Lib.hid (by first | exact (drewM HX.out).trans (hvv.mono (drewM HX.out).size) | exact HX.out.trans (hvv.mono HX.out.size)); clear hvv)
         | fail)) | fail
  go_upto_region 7 with fail
  refine wp_region_held_drew (S := fun w' => w'.cell? ⟨w.heap.size, 0, none⟩ = some (.int .i64 kA) ∧ w'.cell? ⟨w.heap.size, 1, none⟩ = some (.bool yA) ∧ w'.cell? ⟨w.heap.size, 2, none⟩ = some (.bool nA) ∧ w'.cell? ⟨w.heap.size, 3, none⟩ = some (.slice pA sA.length cA) ∧ w'.cell? ⟨w.heap.size, 4, none⟩ = some (.int .u64 (bA : Int)) ∧ w'.cell? ⟨w.heap.size, 5, none⟩ = some (.string xA) ∧ w'.cell? ⟨w.heap.size, 6, none⟩ = some (.slice pAi mA cAi) ∧ w'.cell? ⟨w.heap.size + 1, 0, none⟩ = some (.int .i64 kB) ∧ w'.cell? ⟨w.heap.size + 1, 1, none⟩ = some (.bool yB) ∧ w'.cell? ⟨w.heap.size + 1, 2, none⟩ = some (.bool nB) ∧ w'.cell? ⟨w.heap.size + 1, 3, none⟩ = some (.slice pB sB.length cB) ∧ w'.cell? ⟨w.heap.size + 1, 4, none⟩ = some (.int .u64 (bB : Int)) ∧ w'.cell? ⟨w.heap.size + 1, 5, none⟩ = some (.string xB) ∧ w'.cell? ⟨w.heap.size + 1, 6, none⟩ = some (.slice pBi mB cBi)) (by kernel_rfl) ?_ (fun hHeld => ?_)
  · (try dsimp only)
    (first | ((repeat' (first | with_reducible assumption | apply And.intro | with_reducible refine drew_cell ?_)); done) | fail)
  refine wpAnyH_take (i := 0) (v := ?_) rfl (by kernel_rfl) (by kernel_rfl) (by kernel_rfl) (fun _ _ _ h => h) (Or.inl ⟨by rfl, ?_⟩) (by assumption) ?_
  rotate_left 1
  · intro w hSw
    (try dsimp only at hSw)
    go_simp
    (try with_reducible rfl)
  try simp only [List.getElem_toArray, List.getElem_cons_succ, List.getElem_cons_zero, Act.put, List.setIfInBounds_toArray, List.set_cons_zero, List.set_cons_succ]
  refine wpAnyH_take (i := 1) (v := ?_) rfl (by kernel_rfl) (by kernel_rfl) (by kernel_rfl) (fun _ _ _ h => h) (Or.inl ⟨by rfl, ?_⟩) (by assumption) ?_
  rotate_left 1
  · intro w hSw
    (try dsimp only at hSw)
    go_simp
    (try with_reducible rfl)
  try simp only [List.getElem_toArray, List.getElem_cons_succ, List.getElem_cons_zero, Act.put, List.setIfInBounds_toArray, List.set_cons_zero, List.set_cons_succ]
  refine wpAnyH_ready (rs := [2]) (by kernel_rfl) (by simp) ?_
  refine AllReadyH.cons rfl (fun K hK => ?_) AllReadyH.nil
  go_simp
  (go_at_call 8; (with_reducible refine (HEq.out _ (by first | exact HX.out | exact drewM HX.out)).mono ?_); rintro e vv ⟨rfl, hvv⟩; replace a0 := below_cell hvv a0; replace a1 := below_cell hvv a1; replace a2 := below_cell hvv a2; replace a3 := below_cell hvv a3; replace a4 := below_cell hvv a4; replace a5 := below_cell hvv a5; replace a6 := below_cell hvv a6; replace d0 := below_cell hvv d0; replace d1 := below_cell hvv d1; replace d2 := below_cell hvv d2; replace d3 := below_cell hvv d3; replace d4 := below_cell hvv d4; replace d5 := below_cell hvv d5; replace d6 := below_cell hvv d6; replace HX := Lib.hid (by first | exact (drewM HX.out).trans (hvv.mono (drewM HX.out).size) | exact HX.out.trans (hvv.mono HX.out.size)); clear hvv)
  (try go_wp2_with fail)
  refine hK.out _ _ ?_ (fun hHeld => ?_)
  · (try dsimp only)
    (first | ((repeat' (first | with_reducible assumption | apply And.intro | with_reducible refine drew_cell ?_)); done) | fail)
  clear hK K
  try simp only [List.getElem_toArray, List.getElem_cons_succ, List.getElem_cons_zero, Act.put, List.setIfInBounds_toArray, List.set_cons_zero, List.set_cons_succ]
  refine wpAnyH_take (i := 3) (v := ?_) rfl (by kernel_rfl) (by kernel_rfl) (by kernel_rfl) (fun _ _ _ h => h) (Or.inl ⟨by rfl, ?_⟩) (by assumption) ?_
  rotate_left 1
  · intro w hSw
    (try dsimp only at hSw)
    go_simp
    (try with_reducible rfl)
  try simp only [List.getElem_toArray, List.getElem_cons_succ, List.getElem_cons_zero, Act.put, List.setIfInBounds_toArray, List.set_cons_zero, List.set_cons_succ]
  refine wpAnyH_take (i := 4) (v := undef) rfl (by kernel_rfl) (by kernel_rfl) (by kernel_rfl) (fun _ _ _ h => h) (Or.inr ⟨by rfl, rfl⟩) (by assumption) ?_
  try simp only [List.getElem_toArray, List.getElem_cons_succ, List.getElem_cons_zero, Act.put, List.setIfInBounds_toArray, List.set_cons_zero, List.set_cons_succ]
  refine wpAnyH_take (i := 6) (v := undef) rfl (by kernel_rfl) (by kernel_rfl) (by kernel_rfl) (fun _ _ _ h => h) (Or.inr ⟨by rfl, rfl⟩) (by assumption) ?_
  try simp only [List.getElem_toArray, List.getElem_cons_succ, List.getElem_cons_zero, Act.put, List.setIfInBounds_toArray, List.set_cons_zero, List.set_cons_succ]
  refine wpAnyH_ready (rs := [5]) (by kernel_rfl) (by simp) ?_
  refine AllReadyH.cons rfl (fun K hK => ?_) AllReadyH.nil
  rw [if_neg (ne_true_of_eq_false (by rfl))]
  refine hK.out _ _ (by assumption) (fun hHeld => ?_)
  clear hK K
  try simp only [List.getElem_toArray, List.getElem_cons_succ, List.getElem_cons_zero, Act.put, List.setIfInBounds_toArray, List.set_cons_zero, List.set_cons_succ]
  refine wpAnyH_ready (rs := [7]) (by kernel_rfl) (by simp) ?_
  refine AllReadyH.cons rfl (fun K hK => ?_) AllReadyH.nil
  rw [if_neg (ne_true_of_eq_false (by rfl))]
  refine hK.out _ _ (by assumption) (fun hHeld => ?_)
  clear hK K
  try simp only [List.getElem_toArray, List.getElem_cons_succ, List.getElem_cons_zero, Act.put, List.setIfInBounds_toArray, List.set_cons_zero, List.set_cons_succ]
  refine wpAnyH_take (i := 8) (v := undef) rfl (by kernel_rfl) (by kernel_rfl) (by kernel_rfl) (fun _ _ _ h => h) (Or.inr ⟨by rfl, rfl⟩) (by assumption) ?_
  try simp only [List.getElem_toArray, List.getElem_cons_succ, List.getElem_cons_zero, Act.put, List.setIfInBounds_toArray, List.set_cons_zero, List.set_cons_succ]
  refine wpAnyH_take (i := 9) (v := undef) rfl (by kernel_rfl) (by kernel_rfl) (by kernel_rfl) (fun _ _ _ h => h) (Or.inr ⟨by rfl, rfl⟩) (by assumption) ?_
  try simp only [List.getElem_toArray, List.getElem_cons_succ, List.getElem_cons_zero, Act.put, List.setIfInBounds_toArray, List.set_cons_zero, List.set_cons_succ]
  refine wpAnyH_take (i := 10) (v := undef) rfl (by kernel_rfl) (by kernel_rfl) (by kernel_rfl) (fun _ _ _ h => h) (Or.inr ⟨by rfl, rfl⟩) (by assumption) ?_
  try simp only [List.getElem_toArray, List.getElem_cons_succ, List.getElem_cons_zero, Act.put, List.setIfInBounds_toArray, List.set_cons_zero, List.set_cons_succ]
  refine wpAnyH_take (i := 12) (v := undef) rfl (by kernel_rfl) (by kernel_rfl) (by kernel_rfl) (fun _ _ _ h => h) (Or.inr ⟨by rfl, rfl⟩) (by assumption) ?_
  try simp only [List.getElem_toArray, List.getElem_cons_succ, List.getElem_cons_zero, Act.put, List.setIfInBounds_toArray, List.set_cons_zero, List.set_cons_succ]
  refine wpAnyH_ready (rs := [11]) (by kernel_rfl) (by simp) ?_
  refine AllReadyH.cons rfl (fun K hK => ?_) AllReadyH.nil
  rw [if_neg (ne_true_of_eq_false (by rfl))]
  refine hK.out _ _ (by assumption) (fun hHeld => ?_)
  clear hK K
  try simp only [List.getElem_toArray, List.getElem_cons_succ, List.getElem_cons_zero, Act.put, List.setIfInBounds_toArray, List.set_cons_zero, List.set_cons_succ]
  refine wpAnyH_ready (rs := [13]) (by kernel_rfl) (by simp) ?_
  refine AllReadyH.cons rfl (fun K hK => ?_) AllReadyH.nil
  rw [if_neg (ne_true_of_eq_false (by rfl))]
  refine hK.out _ _ (by assumption) (fun hHeld => ?_)
  clear hK K
  try simp only [List.getElem_toArray, List.getElem_cons_succ, List.getElem_cons_zero, Act.put, List.setIfInBounds_toArray, List.set_cons_zero, List.set_cons_succ]
  refine wpAnyH_take (i := 14) (v := undef) rfl (by kernel_rfl) (by kernel_rfl) (by kernel_rfl) (fun _ _ _ h => h) (Or.inr ⟨by rfl, rfl⟩) (by assumption) ?_
  try simp only [List.getElem_toArray, List.getElem_cons_succ, List.getElem_cons_zero, Act.put, List.setIfInBounds_toArray, List.set_cons_zero, List.set_cons_succ]
  refine wpAnyH_take (i := 15) (v := undef) rfl (by kernel_rfl) (by kernel_rfl) (by kernel_rfl) (fun _ _ _ h => h) (Or.inr ⟨by rfl, rfl⟩) (by assumption) ?_
  try simp only [List.getElem_toArray, List.getElem_cons_succ, List.getElem_cons_zero, Act.put, List.setIfInBounds_toArray, List.set_cons_zero, List.set_cons_succ]
  refine wpAnyH_take (i := 16) (v := undef) rfl (by kernel_rfl) (by kernel_rfl) (by kernel_rfl) (fun _ _ _ h => h) (Or.inr ⟨by rfl, rfl⟩) (by assumption) ?_
  try simp only [List.getElem_toArray, List.getElem_cons_succ, List.getElem_cons_zero, Act.put, List.setIfInBounds_toArray, List.set_cons_zero, List.set_cons_succ]
  refine wpAnyH_take (i := 17) (v := undef) rfl (by kernel_rfl) (by kernel_rfl) (by kernel_rfl) (fun _ _ _ h => h) (Or.inr ⟨by rfl, rfl⟩) (by assumption) ?_
  try simp only [List.getElem_toArray, List.getElem_cons_succ, List.getElem_cons_zero, Act.put, List.setIfInBounds_toArray, List.set_cons_zero, List.set_cons_succ]
  refine wpAnyH_take (i := 18) (v := undef) rfl (by kernel_rfl) (by kernel_rfl) (by kernel_rfl) (fun _ _ _ h => h) (Or.inr ⟨by rfl, rfl⟩) (by assumption) ?_
  try simp only [List.getElem_toArray, List.getElem_cons_succ, List.getElem_cons_zero, Act.put, List.setIfInBounds_toArray, List.set_cons_zero, List.set_cons_succ]
  refine wpAnyH_take (i := 19) (v := undef) rfl (by kernel_rfl) (by kernel_rfl) (by kernel_rfl) (fun _ _ _ h => h) (Or.inr ⟨by rfl, rfl⟩) (by assumption) ?_
  try simp only [List.getElem_toArray, List.getElem_cons_succ, List.getElem_cons_zero, Act.put, List.setIfInBounds_toArray, List.set_cons_zero, List.set_cons_succ]
  refine wpAnyH_take (i := 20) (v := ?_) rfl (by kernel_rfl) (by kernel_rfl) (by kernel_rfl) (fun _ _ _ h => h) (Or.inl ⟨by rfl, ?_⟩) (by assumption) ?_
  rotate_left 1
  · intro w hSw
    (try dsimp only at hSw)
    go_simp
    (try with_reducible rfl)
  try simp only [List.getElem_toArray, List.getElem_cons_succ, List.getElem_cons_zero, Act.put, List.setIfInBounds_toArray, List.set_cons_zero, List.set_cons_succ]
  refine wpAnyH_done (by kernel_rfl) ?_ _
  go_wp2_with (first
    | (go_at_call 15; (with_reducible refine (HGd.out _ HX.out).mono ?_); rintro e vv ⟨rfl, hvv⟩; replace a0 := below_cell hvv a0; replace a1 := below_cell hvv a1; replace a2 := below_cell hvv a2; replace a3 := below_cell hvv a3; replace a4 := below_cell hvv a4; replace a5 := below_cell hvv a5; replace a6 := below_cell hvv a6; replace d0 := below_cell hvv d0; replace d1 := below_cell hvv d1; replace d2 := below_cell hvv d2; replace d3 := below_cell hvv d3; replace d4 := below_cell hvv d4; replace d5 := below_cell hvv d5; replace d6 := below_cell hvv d6; replace HX := Lib.hid (HX.out.trans (hvv.mono HX.out.size)); clear hvv)
    | (go_at_call 16; (with_reducible refine (HN.out _).mono ?_); rintro e w9 ⟨rfl, rfl⟩)
    | (go_at_call 9; (first | (with_reducible refine (HSa.out _ HX.out).mono ?_) | (with_reducible refine (HSa2.out _ HX.out).mono ?_)); rintro e vv ⟨rfl, hvv⟩; replace a0 := below_cell hvv a0; replace a1 := below_cell hvv a1; replace a2 := below_cell hvv a2; replace a3 := below_cell hvv a3; replace a4 := below_cell hvv a4; replace a5 := below_cell hvv a5; replace a6 := below_cell hvv a6; replace d0 := below_cell hvv d0; replace d1 := below_cell hvv d1; replace d2 := below_cell hvv d2; replace d3 := below_cell hvv d3; replace d4 := below_cell hvv d4; replace d5 := below_cell hvv d5; replace d6 := below_cell hvv d6; replace HX := Lib.hid (HX.out.trans (hvv.mono HX.out.size)); clear hvv)
    | (go_at_call 8; (first | (with_reducible refine (HEq.out _ HX.out).mono ?_) | (with_reducible refine (HEq2.out _ HX.out).mono ?_)); rintro e vv ⟨rfl, hvv⟩; replace a0 := below_cell hvv a0; replace a1 := below_cell hvv a1; replace a2 := below_cell hvv a2; replace a3 := below_cell hvv a3; replace a4 := below_cell hvv a4; replace a5 := below_cell hvv a5; replace a6 := below_cell hvv a6; replace d0 := below_cell hvv d0; replace d1 := below_cell hvv d1; replace d2 := below_cell hvv d2; replace d3 := below_cell hvv d3; replace d4 := below_cell hvv d4; replace d5 := below_cell hvv d5; replace d6 := below_cell hvv d6; replace HX := Lib.hid (HX.out.trans (hvv.mono HX.out.size)); clear hvv)
    | fail)
  all_goals go_ret
  all_goals exact ⟨by first | rfl | simp, HX.out⟩
end
end Go.Proofs.YtnfemojgecljiaaGreatDoor
