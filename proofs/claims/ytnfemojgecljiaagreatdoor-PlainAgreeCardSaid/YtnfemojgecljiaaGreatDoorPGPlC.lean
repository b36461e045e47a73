/- Layer 15: the order of two numbers: the program's and the document's. Layer 15: the document's order of two numbers. -/
import Derived.Test.YtnfemojgecljiaaGreatDoorPGPlA
import Derived.Test.YtnfemojgecljiaaGreatDoorPRlCr
import Derived.Test.YtnfemojgecljiaaGreatDoorPGRlC
import Derived.Test.YtnfemojgecljiaaGreatDoorPGWc
import Derived.Test.YtnfemojgecljiaaGreatDoorPGWf
namespace Go.Proofs.YtnfemojgecljiaaGreatDoor
section
open Go Go.ChangeShapes Go.WideShapes Go.ChangeAt Go.RowKit
set_option linter.unusedVariables false
set_option linter.unusedSimpArgs false
theorem drewM {B : Nat} {w w' : World} (h : Below B w w') : Below B w w'.drew := ⟨h.os, h.tape, h.output, h.size, h.block⟩
/-- A float beside a number. -/
def cbW (a : Nat) (z : Int) : Int := if nanB a = true then 0 else if infB a = true then (if negB a = true then -1 else 1) else cbZ a z
theorem cb_good {a : Nat} {n : Bool} {ws : List Int} {z : Int} (h : Sgn B18 n ws z) (hl : ws.length ≤ 30) : cbV a n ws = cbW a z ∧ cbB a n ws = !nanB a := by
  have h1 := goodB_of h hl
  have h2 : sg n (val B18 ws) = z := h.eq.symm
  unfold cbV cbB cbW
  rw [h1, h2]
  simp
theorem cbW_lo (a : Nat) (z : Int) : -1 ≤ cbW a z ∧ cbW a z ≤ 1 := by
  unfold cbW cbZ
  have h := cmpI_lo (trZ a) z
  generalize cmpI (trZ a) z = q at h
  split
  · omega
  · split
    · split <;> omega
    · split
      · exact h
      · split
        · split <;> omega
        · omega
theorem cmpBig_z (a : Nat) (ha : a < 18446744073709551616) (n1 : Bool) (u1 : Value) (xs : List Int) (z : Int) (w : World) (hr1 : Rd w u1 xs) (hs : Sgn B18 n1 xs z) (hl : xs.length ≤ 30) :
    Calls Tryz.prog 53 #[.int .u64 (a : Int), .agg #[.bool n1, u1]] w fun e w' => e = .returned (.tuple #[.int .i64 (cbW a z), .bool (!nanB a)]) ∧ Below w.heap.size w w' := by
  obtain ⟨h1, h2⟩ := cb_good (a := a) hs hl
  have h := cmpBig_any a ha n1 u1 xs w hr1 hs.canon.fit
  rwa [h1, h2] at h
theorem rcmpBig_z (a : Nat) (ha : a < 18446744073709551616) (n1 : Bool) (u1 : Value) (xs : List Int) (z : Int) (w : World) (hr1 : Rd w u1 xs) (hs : Sgn B18 n1 xs z) (hl : xs.length ≤ 30) :
    Calls Tryz.prog 56 #[.int .u64 (a : Int), .agg #[.bool n1, u1]] w fun e w' => e = .returned (.tuple #[.int .i64 (cbW a z), .bool (!nanB a)]) ∧ Below w.heap.size w w' := by
  obtain ⟨h1, h2⟩ := cb_good (a := a) hs hl
  have h := rcmpBig_any a ha n1 u1 xs w hr1 hs.canon.fit
  rwa [h1, h2] at h
theorem zP_small {k : Int} {y n : Bool} {ws : List Int} (hf : Fit ws) (hg : k = 2 → goodB n ws = true) : Small (zP k y n ws) := by
  unfold zP
  by_cases h : k = 2
  · rw [if_pos h]
    obtain ⟨h1, h2⟩ := goodB_sgn (hg h) hf
    exact h1.small.1 h2
  · rw [if_neg h]
    split
    · exact I64.small ⟨by decide, by decide⟩
    · exact I64.small ⟨by decide, by decide⟩
/-- The order of two numbers, and whether there is one. -/
def nuC (ka kb : Int) (ba bb : Nat) (za zb : Int) : Int := if ka = 3 then (if kb = 3 then cmV ba bb else cbW ba zb) else if kb = 3 then -cbW bb za else cmpI za zb
def nuB (ka kb : Int) (ba bb : Nat) : Bool := if ka = 3 then (if kb = 3 then cmB ba bb else !nanB ba) else if kb = 3 then !nanB bb else true
set_option maxRecDepth 100000 in
set_option maxHeartbeats 8000000 in
theorem compare_any (kA : Int) (yA nA : Bool) (uA : Value) (sA : List Int) (bA : Nat) (xA : ByteArray) (iA : Value) (kB : Int) (yB nB : Bool) (uB : Value) (sB : List Int) (bB : Nat) (xB : ByteArray) (iB : Value) (w : World) (hrA : Rd w uA sA) (hrB : Rd w uB sB) (hfA : Fit sA) (hfB : Fit sB) (hgA : kA = 2 → goodB nA sA = true) (hgB : kB = 2 → goodB nB sB = true) (hbA : bA < 18446744073709551616) (hbB : bB < 18446744073709551616) :
    Calls Tryz.prog 28 #[.agg #[.int .i64 kA, .bool yA, .bool nA, uA, .int .u64 (bA : Int), .string xA, iA], .agg #[.int .i64 kB, .bool yB, .bool nB, uB, .int .u64 (bB : Int), .string xB, iB]] w fun e w' => e = .returned (.tuple #[.int .i64 (nuC kA kB bA bB (zP kA yA nA sA) (zP kB yB nB sB)), .bool (nuB kA kB bA bB)]) ∧ Below w.heap.size w w' := by
  obtain ⟨pA, cA, rfl, hcA, hmA, hpA⟩ := rd_form hrA
  obtain ⟨pB, cB, rfl, hcB, hmB, hpB⟩ := rd_form hrB
  have HVC := Lib.hid (show nuC kA kB bA bB (zP kA yA nA sA) (zP kB yB nB sB) = if kA = 3 then (if kB = 3 then cmV bA bB else cbW bA (zP kB yB nB sB)) else if kB = 3 then -cbW bB (zP kA yA nA sA) else cmpI (zP kA yA nA sA) (zP kB yB nB sB) from rfl)
  have HVB := Lib.hid (show nuB kA kB bA bB = if kA = 3 then (if kB = 3 then cmB bA bB else !nanB bA) else if kB = 3 then !nanB bB else true from rfl)
  obtain ⟨W1, hW1⟩ : ∃ x, (w.alloc (.cells #[.int .i64 kA, .bool yA, .bool nA, .slice pA sA.length cA, .int .u64 (bA : Int), .string xA, iA] 28)).alloc (.cells #[.int .i64 kB, .bool yB, .bool nB, .slice pB sB.length cB, .int .u64 (bB : Int), .string xB, iB] 28) = x := ⟨_, rfl⟩
  have HB1 := Lib.hid (show Below w.heap.size w W1 by rw [← hW1]; exact ((Below.refl _ _).alloc (Nat.le_refl _) _).alloc (by simp) _)
  have HXA := Lib.hid (show Bx7 W1 (w.heap.size) (.int .i64 kA) (.bool yA) (.bool nA) (.slice pA sA.length cA) (.int .u64 (bA : Int)) (.string xA) iA by rw [← hW1]; exact (Bx7.new w _ _ _ _ _ _ _ _ rfl).keep ((Below.refl _ _).alloc (Nat.le_refl _) _))
  have HXB := Lib.hid (show Bx7 W1 (w.heap.size + 1) (.int .i64 kB) (.bool yB) (.bool nB) (.slice pB sB.length cB) (.int .u64 (bB : Int)) (.string xB) iB by rw [← hW1]; exact Bx7.new _ _ _ _ _ _ _ _ _ (by simp))
  have HRA := Lib.hid (hrA.keep HB1.out)
  have HRB := Lib.hid (hrB.keep HB1.out)
  have a0 := HXA.out.c0
  have a1 := HXA.out.c1
  have a2 := HXA.out.c2
  have a3 := HXA.out.c3
  have a4 := HXA.out.c4
  have a5 := HXA.out.c5
  have a6 := HXA.out.c6
  have d0 := HXB.out.c0
  have d1 := HXB.out.c1
  have d2 := HXB.out.c2
  have d3 := HXB.out.c3
  have d4 := HXB.out.c4
  have d5 := HXB.out.c5
  have d6 := HXB.out.c6
  have hlA := cbW_lo bA (zP kB yB nB sB)
  have hlB := cbW_lo bB (zP kA yA nA sA)
  have hlm := cmpI_lo (zP kA yA nA sA) (zP kB yB nB sB)
  have CA := Lib.hid (fun (wx : World) (hx : Below W1.heap.size W1 wx) => toBig_any kA yA nA _ sA bA xA iA wx (HRA.out.keep hx) hfA hgA)
  have CB := Lib.hid (fun (wx : World) (hx : Below W1.heap.size W1 wx) => toBig_any kB yB nB _ sB bB xB iB wx (HRB.out.keep hx) hfB hgB)
  have HCM := Lib.hid (fun W => cmp_any bA bB W)
  have HCA := Lib.hid (fun (W : World) (n : Bool) (u : Value) (ws : List Int) (z : Int) (hr : Rd W u ws) (hs : Sgn B18 n ws z) (hl : ws.length ≤ 30) => cmpBig_z bA hbA n u ws z W hr hs hl)
  have HCB := Lib.hid (fun (W : World) (n : Bool) (u : Value) (ws : List Int) (z : Int) (hr : Rd W u ws) (hs : Sgn B18 n ws z) (hl : ws.length ≤ 30) => cmpBig_z bB hbB n u ws z W hr hs hl)
  obtain ⟨zA, hzA⟩ : ∃ z, zP kA yA nA sA = z := ⟨_, rfl⟩
  obtain ⟨zB, hzB⟩ : ∃ z, zP kB yB nB sB = z := ⟨_, rfl⟩
  rw [hzA] at HVC CA hlB hlm
  rw [hzB] at HVC CB hlA hlm
  rw [hzA, hzB]
  clear hrA hrB hpA hpB hzA hzB hfA hfB hgA hgB hbA hbB
  by_cases h3A : kA = 3
  · have hqA : (kA == 3) = true := by simpa using h3A
    rw [if_pos h3A] at HVC HVB
    clear h3A
    by_cases h3B : kB = 3
    · have hqB : (kB == 3) = true := by simpa using h3B
      rw [if_pos h3B] at HVC HVB
      clear h3B
      go_enter Tryz.func28, Tryz.ntmps28
      go_wp2_with (first
        | (go_at_call 52; (with_reducible refine (HCM.out _).mono ?_); rintro e w9 ⟨rfl, rfl⟩)
        | fail)
      go_ret2
      exact ⟨by rw [HVC.out, HVB.out]; rfl, HB1.out⟩
    · have hqB : (kB == 3) = false := by simpa using h3B
      rw [if_neg h3B] at HVC HVB
      clear h3B
      go_enter Tryz.func28, Tryz.ntmps28
      go_upto_region 4 with fail
      (try rw [hW1])
      clear hW1
      go_region_held3 (fun w' => w'.cell? ⟨w.heap.size, 0, none⟩ = some (.int .i64 kA) ∧ w'.cell? ⟨w.heap.size, 1, none⟩ = some (.bool yA) ∧ w'.cell? ⟨w.heap.size, 2, none⟩ = some (.bool nA) ∧ w'.cell? ⟨w.heap.size, 3, none⟩ = some (.slice pA sA.length cA) ∧ w'.cell? ⟨w.heap.size, 4, none⟩ = some (.int .u64 (bA : Int)) ∧ w'.cell? ⟨w.heap.size, 5, none⟩ = some (.string xA) ∧ w'.cell? ⟨w.heap.size, 6, none⟩ = some (iA) ∧ w'.cell? ⟨w.heap.size + 1, 0, none⟩ = some (.int .i64 kB) ∧ w'.cell? ⟨w.heap.size + 1, 1, none⟩ = some (.bool yB) ∧ w'.cell? ⟨w.heap.size + 1, 2, none⟩ = some (.bool nB) ∧ w'.cell? ⟨w.heap.size + 1, 3, none⟩ = some (.slice pB sB.length cB) ∧ w'.cell? ⟨w.heap.size + 1, 4, none⟩ = some (.int .u64 (bB : Int)) ∧ w'.cell? ⟨w.heap.size + 1, 5, none⟩ = some (.string xB) ∧ w'.cell? ⟨w.heap.size + 1, 6, none⟩ = some (iB))
        (first | ((repeat' (first | assumption | apply And.intro)); done) | fail)
        (first
         | (go_at_call 38; (with_reducible refine (CB.out _ (by ((repeat' (first | with_reducible assumption | with_reducible exact Below.refl _ _ | with_reducible refine Below.drew ?_ | with_reducible refine Below.alloc ?_ (by first | omega | (simp; omega) | (simp; done) | fail) _ | with_reducible refine Below.setCell ?_ (by first | omega | (simp; omega) | (simp; done) | fail) _ | fail)); (first | done | fail)))).mono ?_); rintro e v1 ⟨nB1, pB1, cB1, wB1, rfl, hRn, hSn, hLn, hvv⟩; have ka0 := below_cell hvv a0; have ka1 := below_cell hvv a1; have ka2 := below_cell hvv a2; have ka3 := below_cell hvv a3; have ka4 := below_cell hvv a4; have ka5 := below_cell hvv a5; have ka6 := below_cell hvv a6; have kd0 := below_cell hvv d0; have kd1 := below_cell hvv d1; have kd2 := below_cell hvv d2; have kd3 := below_cell hvv d3; have kd4 := below_cell hvv d4; have kd5 := below_cell hvv d5; have kd6 := below_cell hvv d6; have Hv1 := Lib.hid ((drewM HB1.out).trans (hvv.mono (drewM HB1.out).size)); have RNB1 := Lib.hid hRn; have SNB1 := Lib.hid hSn; have LNB1 := Lib.hid hLn; clear hvv hRn hSn hLn)
         | (go_at_call 53; (with_reducible refine (HCA.out v1 nB1 _ wB1 _ RNB1.out SNB1.out LNB1.out).mono ?_); rintro e vz ⟨rfl, hvv⟩; have ja0 := below_cell hvv ka0; have ja1 := below_cell hvv ka1; have ja2 := below_cell hvv ka2; have ja3 := below_cell hvv ka3; have ja4 := below_cell hvv ka4; have ja5 := below_cell hvv ka5; have ja6 := below_cell hvv ka6; have jd0 := below_cell hvv kd0; have jd1 := below_cell hvv kd1; have jd2 := below_cell hvv kd2; have jd3 := below_cell hvv kd3; have jd4 := below_cell hvv kd4; have jd5 := below_cell hvv kd5; have jd6 := below_cell hvv kd6; have HVz := Lib.hid (Hv1.out.trans (hvv.mono Hv1.out.size)); clear hvv)
         | fail)
      all_goals
        clear HXA HXB
        go_wp2_with fail
        go_ret2
        exact ⟨by rw [HVC.out, HVB.out]; rfl, HVz.out⟩
  · have hqA : (kA == 3) = false := by simpa using h3A
    rw [if_neg h3A] at HVC HVB
    clear h3A
    by_cases h3B : kB = 3
    · have hqB : (kB == 3) = true := by simpa using h3B
      rw [if_pos h3B] at HVC HVB
      clear h3B
      go_enter Tryz.func28, Tryz.ntmps28
      go_upto_region 6 with fail
      (try rw [hW1])
      clear hW1
      go_region_held3 (fun w' => w'.cell? ⟨w.heap.size, 0, none⟩ = some (.int .i64 kA) ∧ w'.cell? ⟨w.heap.size, 1, none⟩ = some (.bool yA) ∧ w'.cell? ⟨w.heap.size, 2, none⟩ = some (.bool nA) ∧ w'.cell? ⟨w.heap.size, 3, none⟩ = some (.slice pA sA.length cA) ∧ w'.cell? ⟨w.heap.size, 4, none⟩ = some (.int .u64 (bA : Int)) ∧ w'.cell? ⟨w.heap.size, 5, none⟩ = some (.string xA) ∧ w'.cell? ⟨w.heap.size, 6, none⟩ = some (iA) ∧ w'.cell? ⟨w.heap.size + 1, 0, none⟩ = some (.int .i64 kB) ∧ w'.cell? ⟨w.heap.size + 1, 1, none⟩ = some (.bool yB) ∧ w'.cell? ⟨w.heap.size + 1, 2, none⟩ = some (.bool nB) ∧ w'.cell? ⟨w.heap.size + 1, 3, none⟩ = some (.slice pB sB.length cB) ∧ w'.cell? ⟨w.heap.size + 1, 4, none⟩ = some (.int .u64 (bB : Int)) ∧ w'.cell? ⟨w.heap.size + 1, 5, none⟩ = some (.string xB) ∧ w'.cell? ⟨w.heap.size + 1, 6, none⟩ = some (iB))
        (first | ((repeat' (first | assumption | apply And.intro)); done) | fail)
        (first
         | (go_at_call 38; (with_reducible refine (CA.out _ (by ((repeat' (first | with_reducible assumption | with_reducible exact Below.refl _ _ | with_reducible refine Below.drew ?_ | with_reducible refine Below.alloc ?_ (by first | omega | (simp; omega) | (simp; done) | fail) _ | with_reducible refine Below.setCell ?_ (by first | omega | (simp; omega) | (simp; done) | fail) _ | fail)); (first | done | fail)))).mono ?_); rintro e v1 ⟨nA1, pA1, cA1, wA1, rfl, hRn, hSn, hLn, hvv⟩; have ka0 := below_cell hvv a0; have ka1 := below_cell hvv a1; have ka2 := below_cell hvv a2; have ka3 := below_cell hvv a3; have ka4 := below_cell hvv a4; have ka5 := below_cell hvv a5; have ka6 := below_cell hvv a6; have kd0 := below_cell hvv d0; have kd1 := below_cell hvv d1; have kd2 := below_cell hvv d2; have kd3 := below_cell hvv d3; have kd4 := below_cell hvv d4; have kd5 := below_cell hvv d5; have kd6 := below_cell hvv d6; have Hv1 := Lib.hid ((drewM HB1.out).trans (hvv.mono (drewM HB1.out).size)); have RNA1 := Lib.hid hRn; have SNA1 := Lib.hid hSn; have LNA1 := Lib.hid hLn; clear hvv hRn hSn hLn)
         | (go_at_call 53; (with_reducible refine (HCB.out v1 nA1 _ wA1 _ RNA1.out SNA1.out LNA1.out).mono ?_); rintro e vz ⟨rfl, hvv⟩; have ja0 := below_cell hvv ka0; have ja1 := below_cell hvv ka1; have ja2 := below_cell hvv ka2; have ja3 := below_cell hvv ka3; have ja4 := below_cell hvv ka4; have ja5 := below_cell hvv ka5; have ja6 := below_cell hvv ka6; have jd0 := below_cell hvv kd0; have jd1 := below_cell hvv kd1; have jd2 := below_cell hvv kd2; have jd3 := below_cell hvv kd3; have jd4 := below_cell hvv kd4; have jd5 := below_cell hvv kd5; have jd6 := below_cell hvv kd6; have HVz := Lib.hid (Hv1.out.trans (hvv.mono Hv1.out.size)); clear hvv)
         | fail)
      all_goals
        clear HXA HXB
        go_wp2_with fail
        go_ret2
        exact ⟨by rw [HVC.out, HVB.out]; rfl, HVz.out⟩
    · have hqB : (kB == 3) = false := by simpa using h3B
      rw [if_neg h3B] at HVC HVB
      clear h3B
      go_enter Tryz.func28, Tryz.ntmps28
      go_upto_region 8 with fail
      (try rw [hW1])
      clear hW1
      go_region_held3 (fun w' => w'.cell? ⟨w.heap.size, 0, none⟩ = some (.int .i64 kA) ∧ w'.cell? ⟨w.heap.size, 1, none⟩ = some (.bool yA) ∧ w'.cell? ⟨w.heap.size, 2, none⟩ = some (.bool nA) ∧ w'.cell? ⟨w.heap.size, 3, none⟩ = some (.slice pA sA.length cA) ∧ w'.cell? ⟨w.heap.size, 4, none⟩ = some (.int .u64 (bA : Int)) ∧ w'.cell? ⟨w.heap.size, 5, none⟩ = some (.string xA) ∧ w'.cell? ⟨w.heap.size, 6, none⟩ = some (iA) ∧ w'.cell? ⟨w.heap.size + 1, 0, none⟩ = some (.int .i64 kB) ∧ w'.cell? ⟨w.heap.size + 1, 1, none⟩ = some (.bool yB) ∧ w'.cell? ⟨w.heap.size + 1, 2, none⟩ = some (.bool nB) ∧ w'.cell? ⟨w.heap.size + 1, 3, none⟩ = some (.slice pB sB.length cB) ∧ w'.cell? ⟨w.heap.size + 1, 4, none⟩ = some (.int .u64 (bB : Int)) ∧ w'.cell? ⟨w.heap.size + 1, 5, none⟩ = some (.string xB) ∧ w'.cell? ⟨w.heap.size + 1, 6, none⟩ = some (iB))
        (first | ((repeat' (first | assumption | apply And.intro)); done) | fail)
        (first
         | (go_at_call 38; (with_reducible refine (CA.out _ (by ((repeat' (first | with_reducible assumption | with_reducible exact Below.refl _ _ | with_reducible refine Below.drew ?_ | with_reducible refine Below.alloc ?_ (by first | omega | (simp; omega) | (simp; done) | fail) _ | with_reducible refine Below.setCell ?_ (by first | omega | (simp; omega) | (simp; done) | fail) _ | fail)); (first | done | fail)))).mono ?_); rintro e v1 ⟨nA1, pA1, cA1, wA1, rfl, hRn, hSn, hLn, hvv⟩; have ka0 := below_cell hvv a0; have ka1 := below_cell hvv a1; have ka2 := below_cell hvv a2; have ka3 := below_cell hvv a3; have ka4 := below_cell hvv a4; have ka5 := below_cell hvv a5; have ka6 := below_cell hvv a6; have kd0 := below_cell hvv d0; have kd1 := below_cell hvv d1; have kd2 := below_cell hvv d2; have kd3 := below_cell hvv d3; have kd4 := below_cell hvv d4; have kd5 := below_cell hvv d5; have kd6 := below_cell hvv d6; have Hv1 := Lib.hid ((drewM HB1.out).trans (hvv.mono (drewM HB1.out).size)); have RNA1 := Lib.hid hRn; have SNA1 := Lib.hid hSn; have LNA1 := Lib.hid hLn; have hbw1 : Below W1.heap.size W1 v1 := Below.trans (drewM (Below.refl W1.heap.size W1)) hvv; clear hvv hRn hSn hLn)
         | (go_at_call 38; (with_reducible refine (CB.out _ (by ((repeat' (first | with_reducible assumption | with_reducible exact Below.refl _ _ | with_reducible refine Below.drew ?_ | with_reducible refine Below.alloc ?_ (by first | omega | (simp; omega) | (simp; done) | fail) _ | with_reducible refine Below.setCell ?_ (by first | omega | (simp; omega) | (simp; done) | fail) _ | fail)); (first | done | fail)))).mono ?_); rintro e v2 ⟨nB1, pB1, cB1, wB1, rfl, hRn, hSn, hLn, hvv⟩; have ja0 := below_cell hvv ka0; have ja1 := below_cell hvv ka1; have ja2 := below_cell hvv ka2; have ja3 := below_cell hvv ka3; have ja4 := below_cell hvv ka4; have ja5 := below_cell hvv ka5; have ja6 := below_cell hvv ka6; have jd0 := below_cell hvv kd0; have jd1 := below_cell hvv kd1; have jd2 := below_cell hvv kd2; have jd3 := below_cell hvv kd3; have jd4 := below_cell hvv kd4; have jd5 := below_cell hvv kd5; have jd6 := below_cell hvv kd6; have Hv2 := Lib.hid (Hv1.out.trans (hvv.mono Hv1.out.size)); have RNB1 := Lib.hid hRn; have SNB1 := Lib.hid hSn; have LNB1 := Lib.hid hLn; have RNA2 := Lib.hid (RNA1.out.keep hvv); clear hvv hRn hSn hLn)
         | (go_at_call 30; (with_reducible refine (cmp_at (W := v2) RNA2.out RNB1.out SNA1.out SNB1.out LNA1.out LNB1.out (Below.refl _ _)).mono ?_); rintro e vz ⟨rfl, hvv⟩; have ma0 := below_cell hvv ja0; have ma1 := below_cell hvv ja1; have ma2 := below_cell hvv ja2; have ma3 := below_cell hvv ja3; have ma4 := below_cell hvv ja4; have ma5 := below_cell hvv ja5; have ma6 := below_cell hvv ja6; have md0 := below_cell hvv jd0; have md1 := below_cell hvv jd1; have md2 := below_cell hvv jd2; have md3 := below_cell hvv jd3; have md4 := below_cell hvv jd4; have md5 := below_cell hvv jd5; have md6 := below_cell hvv jd6; have HVz := Lib.hid (Hv2.out.trans (hvv.mono Hv2.out.size)); clear hvv)
         | fail)
      all_goals
        clear HXA HXB
        go_wp2_with fail
        go_ret2
        exact ⟨by rw [HVC.out, HVB.out]; rfl, HVz.out⟩
end
section
open Go Go.ChangeShapes Go.WideShapes Go.ChangeAt Go.RowKit
set_option linter.unusedVariables false
set_option linter.unusedSimpArgs false
set_option maxRecDepth 100000 in
set_option maxHeartbeats 8000000 in
theorem numbers_any (kA : Int) (yA nA : Bool) (uA : Value) (sA : List Int) (bA : Nat) (xA : ByteArray) (iA : Value) (kB : Int) (yB nB : Bool) (uB : Value) (sB : List Int) (bB : Nat) (xB : ByteArray) (iB : Value) (w : World) (hrA : Rd w uA sA) (hrB : Rd w uB sB) (hfA : Fit sA) (hfB : Fit sB) (hgA : kA = 2 → goodB nA sA = true) (hgB : kB = 2 → goodB nB sB = true) (hbA : bA < 18446744073709551616) (hbB : bB < 18446744073709551616) (hkA : kA = 1 ∨ kA = 2 ∨ kA = 3) (hkB : kB = 1 ∨ kB = 2 ∨ kB = 3) :
    Calls Tryz.prog 32 #[.agg #[.int .i64 kA, .bool yA, .bool nA, uA, .int .u64 (bA : Int), .string xA, iA], .agg #[.int .i64 kB, .bool yB, .bool nB, uB, .int .u64 (bB : Int), .string xB, iB]] w fun e w' => e = .returned (.tuple #[.int .i64 (nuC kA kB bA bB (zP kA yA nA sA) (zP kB yB nB sB)), .bool (nuB kA kB bA bB)]) ∧ Below w.heap.size w w' := by
  obtain ⟨pA, cA, rfl, hcA, hmA, hpA⟩ := rd_form hrA
  obtain ⟨pB, cB, rfl, hcB, hmB, hpB⟩ := rd_form hrB
  have HVC := Lib.hid (show nuC kA kB bA bB (zP kA yA nA sA) (zP kB yB nB sB) = if kA = 3 then (if kB = 3 then cmV bA bB else cbW bA (zP kB yB nB sB)) else if kB = 3 then -cbW bB (zP kA yA nA sA) else cmpI (zP kA yA nA sA) (zP kB yB nB sB) from rfl)
  have HVB := Lib.hid (show nuB kA kB bA bB = if kA = 3 then (if kB = 3 then cmB bA bB else !nanB bA) else if kB = 3 then !nanB bB else true from rfl)
  obtain ⟨W1, hW1⟩ : ∃ x, (w.alloc (.cells #[.int .i64 kA, .bool yA, .bool nA, .slice pA sA.length cA, .int .u64 (bA : Int), .string xA, iA] 28)).alloc (.cells #[.int .i64 kB, .bool yB, .bool nB, .slice pB sB.length cB, .int .u64 (bB : Int), .string xB, iB] 28) = x := ⟨_, rfl⟩
  have HB1 := Lib.hid (show Below w.heap.size w W1 by rw [← hW1]; exact ((Below.refl _ _).alloc (Nat.le_refl _) _).alloc (by simp) _)
  have HXA := Lib.hid (show Bx7 W1 (w.heap.size) (.int .i64 kA) (.bool yA) (.bool nA) (.slice pA sA.length cA) (.int .u64 (bA : Int)) (.string xA) iA by rw [← hW1]; exact (Bx7.new w _ _ _ _ _ _ _ _ rfl).keep ((Below.refl _ _).alloc (Nat.le_refl _) _))
  have HXB := Lib.hid (show Bx7 W1 (w.heap.size + 1) (.int .i64 kB) (.bool yB) (.bool nB) (.slice pB sB.length cB) (.int .u64 (bB : Int)) (.string xB) iB by rw [← hW1]; exact Bx7.new _ _ _ _ _ _ _ _ _ (by simp))
  have HRA := Lib.hid (hrA.keep HB1.out)
  have HRB := Lib.hid (hrB.keep HB1.out)
  have a0 := HXA.out.c0
  have a1 := HXA.out.c1
  have a2 := HXA.out.c2
  have a3 := HXA.out.c3
  have a4 := HXA.out.c4
  have a5 := HXA.out.c5
  have a6 := HXA.out.c6
  have d0 := HXB.out.c0
  have d1 := HXB.out.c1
  have d2 := HXB.out.c2
  have d3 := HXB.out.c3
  have d4 := HXB.out.c4
  have d5 := HXB.out.c5
  have d6 := HXB.out.c6
  have hlA := cbW_lo bA (zP kB yB nB sB)
  have hlB := cbW_lo bB (zP kA yA nA sA)
  have hlm := cmpI_lo (zP kA yA nA sA) (zP kB yB nB sB)
  have CA0 := Lib.hid (fun (h : kA = 1 ∨ kA = 2) (wx : World) (hx : Below W1.heap.size W1 wx) => rwhole_any kA yA nA _ sA bA xA iA wx (HRA.out.keep hx) hfA hgA h)
  have CB0 := Lib.hid (fun (h : kB = 1 ∨ kB = 2) (wx : World) (hx : Below W1.heap.size W1 wx) => rwhole_any kB yB nB _ sB bB xB iB wx (HRB.out.keep hx) hfB hgB h)
  have HSA := Lib.hid (zP_small (y := yA) hfA hgA)
  have HSB := Lib.hid (zP_small (y := yB) hfB hgB)
  have HCM := Lib.hid (fun W => rcmp_any bA bB hbA hbB W)
  have HCA := Lib.hid (fun (W : World) (n : Bool) (u : Value) (ws : List Int) (z : Int) (hr : Rd W u ws) (hs : Sgn B18 n ws z) (hl : ws.length ≤ 30) => rcmpBig_z bA hbA n u ws z W hr hs hl)
  have HCB := Lib.hid (fun (W : World) (n : Bool) (u : Value) (ws : List Int) (z : Int) (hr : Rd W u ws) (hs : Sgn B18 n ws z) (hl : ws.length ≤ 30) => rcmpBig_z bB hbB n u ws z W hr hs hl)
  obtain ⟨zA, hzA⟩ : ∃ z, zP kA yA nA sA = z := ⟨_, rfl⟩
  obtain ⟨zB, hzB⟩ : ∃ z, zP kB yB nB sB = z := ⟨_, rfl⟩
  rw [hzA] at HVC CA0 hlB hlm HSA
  rw [hzB] at HVC CB0 hlA hlm HSB
  rw [hzA, hzB]
  clear hrA hrB hpA hpB hzA hzB hfA hfB hgA hgB hbA hbB
  by_cases h3A : kA = 3
  · have hqA : (kA == 3) = true := by simpa using h3A
    rw [if_pos h3A] at HVC HVB
    clear h3A CA0 hkA
    by_cases h3B : kB = 3
    · have hqB : (kB == 3) = true := by simpa using h3B
      rw [if_pos h3B] at HVC HVB
      clear h3B CB0 hkB
      go_enter Tryz.func32, Tryz.ntmps32
      go_wp2_with (first
        | (go_at_call 55; (with_reducible refine (HCM.out _).mono ?_); rintro e w9 ⟨rfl, rfl⟩)
        | fail)
      go_ret2
      exact ⟨by rw [HVC.out, HVB.out]; rfl, HB1.out⟩
    · have hqB : (kB == 3) = false := by simpa using h3B
      rw [if_neg h3B] at HVC HVB
      have CB := Lib.hid (CB0.out (by omega))
      clear h3B CB0 hkB
      go_enter Tryz.func32, Tryz.ntmps32
      go_upto_region 4 with fail
      (try rw [hW1])
      clear hW1
      go_region_held3 (fun w' => w'.cell? ⟨w.heap.size, 0, none⟩ = some (.int .i64 kA) ∧ w'.cell? ⟨w.heap.size, 1, none⟩ = some (.bool yA) ∧ w'.cell? ⟨w.heap.size, 2, none⟩ = some (.bool nA) ∧ w'.cell? ⟨w.heap.size, 3, none⟩ = some (.slice pA sA.length cA) ∧ w'.cell? ⟨w.heap.size, 4, none⟩ = some (.int .u64 (bA : Int)) ∧ w'.cell? ⟨w.heap.size, 5, none⟩ = some (.string xA) ∧ w'.cell? ⟨w.heap.size, 6, none⟩ = some (iA) ∧ w'.cell? ⟨w.heap.size + 1, 0, none⟩ = some (.int .i64 kB) ∧ w'.cell? ⟨w.heap.size + 1, 1, none⟩ = some (.bool yB) ∧ w'.cell? ⟨w.heap.size + 1, 2, none⟩ = some (.bool nB) ∧ w'.cell? ⟨w.heap.size + 1, 3, none⟩ = some (.slice pB sB.length cB) ∧ w'.cell? ⟨w.heap.size + 1, 4, none⟩ = some (.int .u64 (bB : Int)) ∧ w'.cell? ⟨w.heap.size + 1, 5, none⟩ = some (.string xB) ∧ w'.cell? ⟨w.heap.size + 1, 6, none⟩ = some (iB))
        (first | ((repeat' (first | assumption | apply And.intro)); done) | fail)
        (first
         | (go_at_call 57; (with_reducible refine (CB.out _ (by ((repeat' (first | with_reducible assumption | with_reducible exact Below.refl _ _ | with_reducible refine Below.drew ?_ | with_reducible refine Below.alloc ?_ (by first | omega | (simp; omega) | (simp; done) | fail) _ | with_reducible refine Below.setCell ?_ (by first | omega | (simp; omega) | (simp; done) | fail) _ | fail)); (first | done | fail)))).mono ?_); rintro e v1 ⟨nB1, pB1, cB1, wB1, rfl, hRn, hSn, hvv, _⟩; have ka0 := below_cell hvv a0; have ka1 := below_cell hvv a1; have ka2 := below_cell hvv a2; have ka3 := below_cell hvv a3; have ka4 := below_cell hvv a4; have ka5 := below_cell hvv a5; have ka6 := below_cell hvv a6; have kd0 := below_cell hvv d0; have kd1 := below_cell hvv d1; have kd2 := below_cell hvv d2; have kd3 := below_cell hvv d3; have kd4 := below_cell hvv d4; have kd5 := below_cell hvv d5; have kd6 := below_cell hvv d6; have Hv1 := Lib.hid ((drewM HB1.out).trans (hvv.mono (drewM HB1.out).size)); have RNB1 := Lib.hid hRn; have SNB1 := Lib.hid hSn; clear hvv hRn hSn)
         | (go_at_call 45; (with_reducible refine (to_at (W := v1) RNB1.out SNB1.out (SNB1.out.fits.2 HSB.out) (Below.refl _ _)).mono ?_); rintro e v2 ⟨nB2, pB2, cB2, wB2, rfl, hRn, hSn, hvv, _⟩; have ja0 := below_cell hvv ka0; have ja1 := below_cell hvv ka1; have ja2 := below_cell hvv ka2; have ja3 := below_cell hvv ka3; have ja4 := below_cell hvv ka4; have ja5 := below_cell hvv ka5; have ja6 := below_cell hvv ka6; have jd0 := below_cell hvv kd0; have jd1 := below_cell hvv kd1; have jd2 := below_cell hvv kd2; have jd3 := below_cell hvv kd3; have jd4 := below_cell hvv kd4; have jd5 := below_cell hvv kd5; have jd6 := below_cell hvv kd6; have Hv2 := Lib.hid (Hv1.out.trans (hvv.mono Hv1.out.size)); have RNB2 := Lib.hid hRn; have SNB2 := Lib.hid hSn; have LNB2 := Lib.hid (hSn.small.2 HSB.out); clear hvv hRn hSn)
         | (go_at_call 56; (with_reducible refine (HCA.out v2 nB2 _ wB2 _ RNB2.out SNB2.out LNB2.out).mono ?_); rintro e vz ⟨rfl, hvv⟩; have ma0 := below_cell hvv ja0; have ma1 := below_cell hvv ja1; have ma2 := below_cell hvv ja2; have ma3 := below_cell hvv ja3; have ma4 := below_cell hvv ja4; have ma5 := below_cell hvv ja5; have ma6 := below_cell hvv ja6; have md0 := below_cell hvv jd0; have md1 := below_cell hvv jd1; have md2 := below_cell hvv jd2; have md3 := below_cell hvv jd3; have md4 := below_cell hvv jd4; have md5 := below_cell hvv jd5; have md6 := below_cell hvv jd6; have HVz := Lib.hid (Hv2.out.trans (hvv.mono Hv2.out.size)); clear hvv)
         | fail)
      all_goals
        clear HXA HXB
        go_wp2_with fail
        go_ret2
        exact ⟨by rw [HVC.out, HVB.out]; rfl, HVz.out⟩
  · have hqA : (kA == 3) = false := by simpa using h3A
    rw [if_neg h3A] at HVC HVB
    have CA := Lib.hid (CA0.out (by omega))
    clear h3A CA0 hkA
    by_cases h3B : kB = 3
    · have hqB : (kB == 3) = true := by simpa using h3B
      rw [if_pos h3B] at HVC HVB
      clear h3B CB0 hkB
      go_enter Tryz.func32, Tryz.ntmps32
      go_upto_region 6 with fail
      (try rw [hW1])
      clear hW1
      go_region_held3 (fun w' => w'.cell? ⟨w.heap.size, 0, none⟩ = some (.int .i64 kA) ∧ w'.cell? ⟨w.heap.size, 1, none⟩ = some (.bool yA) ∧ w'.cell? ⟨w.heap.size, 2, none⟩ = some (.bool nA) ∧ w'.cell? ⟨w.heap.size, 3, none⟩ = some (.slice pA sA.length cA) ∧ w'.cell? ⟨w.heap.size, 4, none⟩ = some (.int .u64 (bA : Int)) ∧ w'.cell? ⟨w.heap.size, 5, none⟩ = some (.string xA) ∧ w'.cell? ⟨w.heap.size, 6, none⟩ = some (iA) ∧ w'.cell? ⟨w.heap.size + 1, 0, none⟩ = some (.int .i64 kB) ∧ w'.cell? ⟨w.heap.size + 1, 1, none⟩ = some (.bool yB) ∧ w'.cell? ⟨w.heap.size + 1, 2, none⟩ = some (.bool nB) ∧ w'.cell? ⟨w.heap.size + 1, 3, none⟩ = some (.slice pB sB.length cB) ∧ w'.cell? ⟨w.heap.size + 1, 4, none⟩ = some (.int .u64 (bB : Int)) ∧ w'.cell? ⟨w.heap.size + 1, 5, none⟩ = some (.string xB) ∧ w'.cell? ⟨w.heap.size + 1, 6, none⟩ = some (iB))
        (first | ((repeat' (first | assumption | apply And.intro)); done) | fail)
        (first
         | (go_at_call 57; (with_reducible refine (CA.out _ (by ((repeat' (first | with_reducible assumption | with_reducible exact Below.refl _ _ | with_reducible refine Below.drew ?_ | with_reducible refine Below.alloc ?_ (by first | omega | (simp; omega) | (simp; done) | fail) _ | with_reducible refine Below.setCell ?_ (by first | omega | (simp; omega) | (simp; done) | fail) _ | fail)); (first | done | fail)))).mono ?_); rintro e v1 ⟨nA1, pA1, cA1, wA1, rfl, hRn, hSn, hvv, _⟩; have ka0 := below_cell hvv a0; have ka1 := below_cell hvv a1; have ka2 := below_cell hvv a2; have ka3 := below_cell hvv a3; have ka4 := below_cell hvv a4; have ka5 := below_cell hvv a5; have ka6 := below_cell hvv a6; have kd0 := below_cell hvv d0; have kd1 := below_cell hvv d1; have kd2 := below_cell hvv d2; have kd3 := below_cell hvv d3; have kd4 := below_cell hvv d4; have kd5 := below_cell hvv d5; have kd6 := below_cell hvv d6; have Hv1 := Lib.hid ((drewM HB1.out).trans (hvv.mono (drewM HB1.out).size)); have RNA1 := Lib.hid hRn; have SNA1 := Lib.hid hSn; clear hvv hRn hSn)
         | (go_at_call 45; (with_reducible refine (to_at (W := v1) RNA1.out SNA1.out (SNA1.out.fits.2 HSA.out) (Below.refl _ _)).mono ?_); rintro e v2 ⟨nA2, pA2, cA2, wA2, rfl, hRn, hSn, hvv, _⟩; have ja0 := below_cell hvv ka0; have ja1 := below_cell hvv ka1; have ja2 := below_cell hvv ka2; have ja3 := below_cell hvv ka3; have ja4 := below_cell hvv ka4; have ja5 := below_cell hvv ka5; have ja6 := below_cell hvv ka6; have jd0 := below_cell hvv kd0; have jd1 := below_cell hvv kd1; have jd2 := below_cell hvv kd2; have jd3 := below_cell hvv kd3; have jd4 := below_cell hvv kd4; have jd5 := below_cell hvv kd5; have jd6 := below_cell hvv kd6; have Hv2 := Lib.hid (Hv1.out.trans (hvv.mono Hv1.out.size)); have RNA2 := Lib.hid hRn; have SNA2 := Lib.hid hSn; have LNA2 := Lib.hid (hSn.small.2 HSA.out); clear hvv hRn hSn)
         | (go_at_call 56; (with_reducible refine (HCB.out v2 nA2 _ wA2 _ RNA2.out SNA2.out LNA2.out).mono ?_); rintro e vz ⟨rfl, hvv⟩; have ma0 := below_cell hvv ja0; have ma1 := below_cell hvv ja1; have ma2 := below_cell hvv ja2; have ma3 := below_cell hvv ja3; have ma4 := below_cell hvv ja4; have ma5 := below_cell hvv ja5; have ma6 := below_cell hvv ja6; have md0 := below_cell hvv jd0; have md1 := below_cell hvv jd1; have md2 := below_cell hvv jd2; have md3 := below_cell hvv jd3; have md4 := below_cell hvv jd4; have md5 := below_cell hvv jd5; have md6 := below_cell hvv jd6; have HVz := Lib.hid (Hv2.out.trans (hvv.mono Hv2.out.size)); clear hvv)
         | fail)
      all_goals
        clear HXA HXB
        go_wp2_with fail
        go_ret2
        exact ⟨by rw [HVC.out, HVB.out]; rfl, HVz.out⟩
    · have hqB : (kB == 3) = false := by simpa using h3B
      rw [if_neg h3B] at HVC HVB
      have CB := Lib.hid (CB0.out (by omega))
      clear h3B CB0 hkB
      go_enter Tryz.func32, Tryz.ntmps32
      go_upto_region 8 with fail
      (try rw [hW1])
      clear hW1
      go_region_held3 (fun w' => w'.cell? ⟨w.heap.size, 0, none⟩ = some (.int .i64 kA) ∧ w'.cell? ⟨w.heap.size, 1, none⟩ = some (.bool yA) ∧ w'.cell? ⟨w.heap.size, 2, none⟩ = some (.bool nA) ∧ w'.cell? ⟨w.heap.size, 3, none⟩ = some (.slice pA sA.length cA) ∧ w'.cell? ⟨w.heap.size, 4, none⟩ = some (.int .u64 (bA : Int)) ∧ w'.cell? ⟨w.heap.size, 5, none⟩ = some (.string xA) ∧ w'.cell? ⟨w.heap.size, 6, none⟩ = some (iA) ∧ w'.cell? ⟨w.heap.size + 1, 0, none⟩ = some (.int .i64 kB) ∧ w'.cell? ⟨w.heap.size + 1, 1, none⟩ = some (.bool yB) ∧ w'.cell? ⟨w.heap.size + 1, 2, none⟩ = some (.bool nB) ∧ w'.cell? ⟨w.heap.size + 1, 3, none⟩ = some (.slice pB sB.length cB) ∧ w'.cell? ⟨w.heap.size + 1, 4, none⟩ = some (.int .u64 (bB : Int)) ∧ w'.cell? ⟨w.heap.size + 1, 5, none⟩ = some (.string xB) ∧ w'.cell? ⟨w.heap.size + 1, 6, none⟩ = some (iB))
        (first | ((repeat' (first | assumption | apply And.intro)); done) | fail)
        (first
         | (go_at_call 57; (with_reducible refine (CA.out _ (by ((repeat' (first | with_reducible assumption | with_reducible exact Below.refl _ _ | with_reducible refine Below.drew ?_ | with_reducible refine Below.alloc ?_ (by first | omega | (simp; omega) | (simp; done) | fail) _ | with_reducible refine Below.setCell ?_ (by first | omega | (simp; omega) | (simp; done) | fail) _ | fail)); (first | done | fail)))).mono ?_); rintro e v1 ⟨nA1, pA1, cA1, wA1, rfl, hRn, hSn, hvv, _⟩; have ka0 := below_cell hvv a0; have ka1 := below_cell hvv a1; have ka2 := below_cell hvv a2; have ka3 := below_cell hvv a3; have ka4 := below_cell hvv a4; have ka5 := below_cell hvv a5; have ka6 := below_cell hvv a6; have kd0 := below_cell hvv d0; have kd1 := below_cell hvv d1; have kd2 := below_cell hvv d2; have kd3 := below_cell hvv d3; have kd4 := below_cell hvv d4; have kd5 := below_cell hvv d5; have kd6 := below_cell hvv d6; have Hv1 := Lib.hid ((drewM HB1.out).trans (hvv.mono (drewM HB1.out).size)); have RNA1 := Lib.hid hRn; have SNA1 := Lib.hid hSn; have hbw1 : Below W1.heap.size W1 v1 := Below.trans (drewM (Below.refl W1.heap.size W1)) hvv; clear hvv hRn hSn)
         | (go_at_call 57; (with_reducible refine (CB.out _ (by ((repeat' (first | with_reducible assumption | with_reducible exact Below.refl _ _ | with_reducible refine Below.drew ?_ | with_reducible refine Below.alloc ?_ (by first | omega | (simp; omega) | (simp; done) | fail) _ | with_reducible refine Below.setCell ?_ (by first | omega | (simp; omega) | (simp; done) | fail) _ | fail)); (first | done | fail)))).mono ?_); rintro e v2 ⟨nB1, pB1, cB1, wB1, rfl, hRn, hSn, hvv, _⟩; have ja0 := below_cell hvv ka0; have ja1 := below_cell hvv ka1; have ja2 := below_cell hvv ka2; have ja3 := below_cell hvv ka3; have ja4 := below_cell hvv ka4; have ja5 := below_cell hvv ka5; have ja6 := below_cell hvv ka6; have jd0 := below_cell hvv kd0; have jd1 := below_cell hvv kd1; have jd2 := below_cell hvv kd2; have jd3 := below_cell hvv kd3; have jd4 := below_cell hvv kd4; have jd5 := below_cell hvv kd5; have jd6 := below_cell hvv kd6; have Hv2 := Lib.hid (Hv1.out.trans (hvv.mono Hv1.out.size)); have RNB1 := Lib.hid hRn; have SNB1 := Lib.hid hSn; have RNA2 := Lib.hid (RNA1.out.keep hvv); clear hvv hRn hSn)
         | (go_at_call 58; (with_reducible refine (refcmp_at (W := v2) RNA2.out RNB1.out SNA1.out SNB1.out (Below.refl _ _)).mono ?_); rintro e vz ⟨rfl, hvv⟩; have ma0 := below_cell hvv ja0; have ma1 := below_cell hvv ja1; have ma2 := below_cell hvv ja2; have ma3 := below_cell hvv ja3; have ma4 := below_cell hvv ja4; have ma5 := below_cell hvv ja5; have ma6 := below_cell hvv ja6; have md0 := below_cell hvv jd0; have md1 := below_cell hvv jd1; have md2 := below_cell hvv jd2; have md3 := below_cell hvv jd3; have md4 := below_cell hvv jd4; have md5 := below_cell hvv jd5; have md6 := below_cell hvv jd6; have HVz := Lib.hid (Hv2.out.trans (hvv.mono Hv2.out.size)); clear hvv)
         | fail)
      all_goals
        clear HXA HXB
        go_wp2_with fail
        go_ret2
        exact ⟨by rw [HVC.out, HVB.out]; rfl, HVz.out⟩
end
end Go.Proofs.YtnfemojgecljiaaGreatDoor
