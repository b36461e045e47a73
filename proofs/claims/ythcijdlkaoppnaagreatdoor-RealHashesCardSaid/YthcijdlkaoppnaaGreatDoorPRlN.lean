/- The hash of a whole number: the program's and the document's. -/
import Derived.Test.YthcijdlkaoppnaaGreatDoorPRlL
import Derived.Test.YthcijdlkaoppnaaGreatDoorPWRefGood
import Derived.Test.YthcijdlkaoppnaaGreatDoorPWRefOf
namespace Go.Proofs.YthcijdlkaoppnaaGreatDoor
open Go Go.ChangeShapes Go.WideShapes Go.RowKit
set_option linter.unusedVariables false
set_option linter.unusedSimpArgs false
/-- The whole number's hash. -/
def hbV (n1 : Bool) (xs : List Int) : Int := if goodB n1 xs = true then (if n1 = true then -(hh B18 xs 0) else hh B18 xs 0) else 0
structure HStep (H D H' : Int) : Prop where
  eq : (H * 1126526311 + D % 2147483647).tmod 2147483647 = H'
  lo : 0 ≤ H'
  hi : H' < 2147483647
theorem hstep {xs : List Int} {k : Nat} (hk : k < xs.length) : HStep (hh B18 xs (k + 1)) (xs.getD k 0) (hh B18 xs k) := by
  have h1 := hh_lo B18 xs (k + 1)
  have h2 := hh_lo B18 xs k
  refine ⟨?_, h2.1, h2.2⟩
  rw [Int.tmod_eq_emod_of_nonneg (by omega), ← hh_step B18 1126526311 (by decide) xs hk]
set_option maxRecDepth 100000 in
theorem hashBig_any (n1 : Bool) (u1 : Value) (xs : List Int) (w : World) (hr1 : Rd w u1 xs) (hf1 : Fit xs) :
    Calls Tryz.prog 7 #[.agg #[.bool n1, u1]] w fun e w' => e = .returned (.int .i64 (hbV n1 xs)) ∧ Below w.heap.size w w' := by
  have HV := Lib.hid (show hbV n1 xs = if goodB n1 xs = true then (if n1 = true then -(hh B18 xs 0) else hh B18 xs 0) else 0 from rfl)
  obtain ⟨p, c, rfl, hc, hm, hp⟩ := rd_form hr1
  have hb1 : Below w.heap.size w (w.alloc (.cells #[.bool n1, .slice p xs.length c] 25)) := (Below.refl _ _).alloc (Nat.le_refl _) _
  have HG := Lib.hid (good_any n1 _ xs (w.alloc (.cells #[.bool n1, .slice p xs.length c] 25)) (hr1.keep hb1) hf1)
  have hk0 : (w.alloc (.cells #[.bool n1, .slice p xs.length c] 25)).cell? ⟨w.heap.size, 0, none⟩ = some (.bool n1) := by simp
  have hk1 : (w.alloc (.cells #[.bool n1, .slice p xs.length c] 25)).cell? ⟨w.heap.size, 1, none⟩ = some (.slice p xs.length c) := by simp
  have HB1 := Lib.hid hb1
  have HP := Lib.hid hp
  have HF := Lib.hid hf1
  obtain ⟨W1, hW1⟩ : ∃ x, w.alloc (.cells #[.bool n1, .slice p xs.length c] 25) = x := ⟨_, rfl⟩
  rw [hW1] at hk0 hk1 HB1 HG
  obtain ⟨g, hg⟩ : ∃ g, goodB n1 xs = g := ⟨_, rfl⟩
  rw [hg] at HG HV
  clear hr1 hf1 hb1 hp hg
  cases g
  · simp only [Bool.false_eq_true, if_false] at HV
    go_enter Tryz.func7, Tryz.ntmps7
    go_wp2_with (first
      | (go_at_call 21; refine HG.out.mono ?_; rintro e w2 ⟨rfl, hb⟩; have HB2 := Lib.hid (HB1.out.trans (hb.mono HB1.out.size)); clear hb HG)
      | fail)
    go_ret
    exact ⟨by rw [HV.out]; rfl, HB2.out⟩
  · simp only [if_true] at HV
    have HK0 := Lib.hid hk0
    have HK1 := Lib.hid hk1
    go_enter Tryz.func7, Tryz.ntmps7
    go_wp2_with (first
      | (go_at_call 21; refine HG.out.mono ?_; rintro e w2 ⟨rfl, hb⟩; have HB2 := Lib.hid (HB1.out.trans (hb.mono HB1.out.size)); have j0 := below_cell hb HK0.out; have j1 := below_cell hb HK1.out; clear hb HG hk0 hk1 hW1)
      | fail)
    go_loopw [3, 11] (fun s3 s11 wr => ∃ (i : Nat) (H : Int), s11 = .int .i64 i ∧ s3 = .int .i64 H ∧ i ≤ xs.length ∧ H = hh B18 xs (xs.length - i) ∧ w2 = wr) (fun s3 s11 wr => xs.length - (RowKit.intOf s11).toNat)
    case atStart => exact ⟨0, 0, rfl, rfl, by omega, by rw [Nat.sub_zero, hh_end B18 xs (Nat.le_refl _)], rfl⟩
    case round =>
      obtain ⟨i, H, rfl, rfl, hi, hH, rfl⟩ := hrel
      have HH := Lib.hid hH
      have hl := hh_lo B18 xs (xs.length - i)
      rw [← hH] at hl
      clear hH
      by_cases hlt : i < xs.length
      · obtain ⟨k, hk⟩ : ∃ k, xs.length = k + 1 + i := ⟨xs.length - 1 - i, by omega⟩
        obtain ⟨b, off, rfl, hcell⟩ := HP.out (by omega)
        have hcx := below_cell HB2.out (hcell k (by omega))
        have hst := hstep (xs := xs) (k := k) (by omega)
        have hfx := HF.out k
        have HN := Lib.hid (show hh B18 xs k = hh B18 xs (xs.length - (i + 1)) by rw [hk]; congr 1; omega)
        rw [show k + 1 = xs.length - i by omega, ← HH.out] at hst
        have hki : (xs.length : Int) - 1 - (i : Int) = (k : Int) := by omega
        have hlz : (i : Int) < (xs.length : Int) := by omega
        obtain ⟨eq, lo, hi2⟩ := hst
        obtain ⟨H', hH'⟩ : ∃ H', hh B18 xs k = H' := ⟨_, rfl⟩
        rw [hH'] at eq lo hi2 HN
        obtain ⟨D, hD⟩ : ∃ D, xs.getD k 0 = D := ⟨_, rfl⟩
        rw [hD] at eq hcx hfx
        clear hcell hH' hD
        go_wp2_with fail
        exact ⟨⟨i + 1, H', by go_num, rfl, by omega, HN.out, trivial⟩, by simp [RowKit.intOf]; omega⟩
      · obtain rfl : i = xs.length := by omega
        have HE := Lib.hid (show H = hh B18 xs 0 by rw [HH.out, Nat.sub_self])
        cases n1
        · simp only [Bool.false_eq_true, if_false] at HV
          go_wp2_with fail
          go_ret
          exact ⟨by rw [HV.out, ← HE.out]; rfl, HB2.out⟩
        · simp only [if_true] at HV
          go_wp2_with fail
          go_ret
          exact ⟨by rw [HV.out, ← HE.out]; rfl, HB2.out⟩
structure DStep (H D H' : Int) : Prop where
  eq : (10 * H + D).tmod 2147483647 = H'
  lo : 0 ≤ H'
  hi : H' < 2147483647
theorem dstep {ds : List Int} {k : Nat} (hk : k < ds.length) (hd : 0 ≤ ds.getD k 0) : DStep (hh 10 ds (k + 1)) (ds.getD k 0) (hh 10 ds k) := by
  have h1 := hh_lo 10 ds (k + 1)
  have h2 := hh_lo 10 ds k
  refine ⟨?_, h2.1, h2.2⟩
  rw [Int.tmod_eq_emod_of_nonneg (by omega), ← hh_step10 ds hk]
set_option maxRecDepth 100000 in
theorem rhashBig_any (n1 : Bool) (u1 : Value) (xs : List Int) (w : World) (hr1 : Rd w u1 xs) (hf1 : Fit xs) :
    Calls Tryz.prog 8 #[.agg #[.bool n1, u1]] w fun e w' => e = .returned (.int .i64 (hbV n1 xs)) ∧ Below w.heap.size w w' := by
  have HV := Lib.hid (show hbV n1 xs = if goodB n1 xs = true then (if n1 = true then -(hh B18 xs 0) else hh B18 xs 0) else 0 from rfl)
  obtain ⟨p, c, rfl, hc, hm, hp⟩ := rd_form hr1
  have hb1 : Below w.heap.size w (w.alloc (.cells #[.bool n1, .slice p xs.length c] 25)) := (Below.refl _ _).alloc (Nat.le_refl _) _
  have HG := Lib.hid (refgood_any n1 _ xs (w.alloc (.cells #[.bool n1, .slice p xs.length c] 25)) (hr1.keep hb1) hf1)
  have hk0 : (w.alloc (.cells #[.bool n1, .slice p xs.length c] 25)).cell? ⟨w.heap.size, 0, none⟩ = some (.bool n1) := by simp
  have hk1 : (w.alloc (.cells #[.bool n1, .slice p xs.length c] 25)).cell? ⟨w.heap.size, 1, none⟩ = some (.slice p xs.length c) := by simp
  have HB1 := Lib.hid hb1
  have HR := Lib.hid (hr1.keep hb1)
  obtain ⟨W1, hW1⟩ : ∃ x, w.alloc (.cells #[.bool n1, .slice p xs.length c] 25) = x := ⟨_, rfl⟩
  rw [hW1] at hk0 hk1 HB1 HG HR
  have hgs := fun h => goodB_sgn (neg := n1) (ws := xs) h hf1
  obtain ⟨g, hg⟩ : ∃ g, goodB n1 xs = g := ⟨_, rfl⟩
  rw [hg] at HG HV hgs
  clear hr1 hf1 hb1 hp hg
  cases g
  · simp only [Bool.false_eq_true, if_false] at HV
    clear hgs
    go_enter Tryz.func8, Tryz.ntmps8
    go_wp2_with (first
      | (go_at_call 22; refine HG.out.mono ?_; rintro e w2 ⟨rfl, hb⟩; have HB2 := Lib.hid (HB1.out.trans (hb.mono HB1.out.size)); clear hb HG)
      | fail)
    go_ret
    exact ⟨by rw [HV.out]; rfl, HB2.out⟩
  · simp only [if_true] at HV
    obtain ⟨hS, hl30⟩ := hgs rfl
    have HK0 := Lib.hid hk0
    have HK1 := Lib.hid hk1
    have HO := Lib.hid (fun W hr => of_any n1 (.slice p xs.length c) xs _ W hr hS (by omega))
    have HS := Lib.hid hS
    clear hS hgs
    go_enter Tryz.func8, Tryz.ntmps8
    go_wp2_with (first
      | (go_at_call 22; refine HG.out.mono ?_; rintro e w2 ⟨rfl, hb⟩; have HB2 := Lib.hid (HB1.out.trans (hb.mono HB1.out.size)); have j0 := below_cell hb HK0.out; have j1 := below_cell hb HK1.out; have HR2 := Lib.hid (HR.out.keep hb); clear hb HG hk0 hk1 hW1)
      | (go_at_call 23; refine (HO.out _ HR2.out).mono ?_; rintro e w3 ⟨neg, u, ds, rfl, hrb, hsd, hb⟩; have HB3 := Lib.hid (HB2.out.trans (hb.mono HB2.out.size)); have HSD := Lib.hid hsd; obtain ⟨p3, c3, rfl, hc3, hm3, hp3⟩ := rb_form hrb; have hb4 : Below w3.heap.size w3 (w3.alloc (.cells #[.bool neg, .slice p3 ds.length c3] 47)) := (Below.refl _ _).alloc (Nat.le_refl _) _; have m0 : (w3.alloc (.cells #[.bool neg, .slice p3 ds.length c3] 47)).cell? ⟨w3.heap.size, 0, none⟩ = some (.bool neg) := (by simp); have m1 : (w3.alloc (.cells #[.bool neg, .slice p3 ds.length c3] 47)).cell? ⟨w3.heap.size, 1, none⟩ = some (.slice p3 ds.length c3) := (by simp); obtain ⟨W4, hW4⟩ : ∃ x, w3.alloc (.cells #[.bool neg, .slice p3 ds.length c3] 47) = x := ⟨_, rfl⟩; rw [hW4] at hb4 m0 m1; have HB34 := Lib.hid hb4; have HB4 := Lib.hid (HB3.out.trans (hb4.mono HB3.out.size)); have HP3 := Lib.hid hp3; clear hb HO hrb hsd hb4 hp3)
      | fail)
    clear hW4
    obtain ⟨z, hz⟩ : ∃ z, sg n1 (val B18 xs) = z := ⟨_, rfl⟩
    rw [hz] at HS HSD
    have hneg : neg = n1 := ((HSD.out.neg_iff (by decide)).trans (HS.out.neg_iff (by decide)).symm)
    have hval : val 10 ds = val B18 xs := (HSD.out.abs (by decide)).trans (HS.out.abs (by decide)).symm
    have HE0 := Lib.hid (show hh 10 ds 0 = hh B18 xs 0 by unfold hh; rw [List.drop_zero, List.drop_zero, hval])
    subst hneg
    clear hz hval
    have hdl : ds.length ≤ 140737488355328 := hm3
    go_loopw [4, 5] (fun s4 s5 wr => ∃ (k : Nat) (H : Int), s5 = .int .i64 ((k : Int) - 1) ∧ s4 = .int .i64 H ∧ k ≤ ds.length ∧ H = hh 10 ds k ∧ W4 = wr) (fun s4 s5 wr => (RowKit.intOf s5 + 1).toNat)
    case atStart => exact ⟨ds.length, 0, rfl, rfl, by omega, (hh_end 10 ds (Nat.le_refl _)).symm, rfl⟩
    case round =>
      obtain ⟨k, H, rfl, rfl, hk, hH, rfl⟩ := hrel
      have HH := Lib.hid hH
      have hl := hh_lo 10 ds k
      rw [← hH] at hl
      clear hH
      by_cases hlt : 0 < k
      · obtain ⟨j, rfl⟩ : ∃ j, k = j + 1 := ⟨k - 1, by omega⟩
        obtain ⟨b, off, rfl, hcell⟩ := HP3.out (by omega)
        have hcx := below_cell HB34.out (hcell j (by omega))
        have hfx := HSD.out.canon.1 j
        have hst := dstep (ds := ds) (k := j) (by omega) hfx.1
        rw [← HH.out] at hst
        obtain ⟨eq, lo, hi2⟩ := hst
        have hki : ((j + 1 : Nat) : Int) - 1 = (j : Int) := by omega
        obtain ⟨H', hH'⟩ : ∃ H', hh 10 ds j = H' := ⟨_, rfl⟩
        rw [hH'] at eq lo hi2
        obtain ⟨D, hD⟩ : ∃ D, ds.getD j 0 = D := ⟨_, rfl⟩
        rw [hD] at eq hcx hfx
        have HN := Lib.hid hH'
        rw [hki]
        clear hcell hH' hD
        go_wp2_with fail
        exact ⟨⟨j, H', rfl, rfl, by omega, HN.out.symm, trivial⟩, by simp [RowKit.intOf]⟩
      · obtain rfl : k = 0 := by omega
        have HE := Lib.hid (show H = hh B18 xs 0 by rw [HH.out, HE0.out])
        cases neg
        · simp only [Bool.false_eq_true, if_false] at HV
          go_wp2_with fail
          go_ret
          exact ⟨by rw [HV.out, ← HE.out]; rfl, HB4.out⟩
        · simp only [if_true] at HV
          go_wp2_with fail
          go_ret
          exact ⟨by rw [HV.out, ← HE.out]; rfl, HB4.out⟩
end Go.Proofs.YthcijdlkaoppnaaGreatDoor
