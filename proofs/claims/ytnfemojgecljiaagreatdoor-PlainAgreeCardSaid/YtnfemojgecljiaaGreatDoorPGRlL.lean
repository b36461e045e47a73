/- The hash of a float: the document's. The hash of a whole number: the program's and the document's. -/
import Derived.Test.YtnfemojgecljiaaGreatDoorPGRlG
import Derived.Test.YtnfemojgecljiaaGreatDoorPWRefGood
import Derived.Test.YtnfemojgecljiaaGreatDoorPGWf
namespace Go.Proofs.YtnfemojgecljiaaGreatDoor
section
open Go Go.ChangeShapes Go.WideShapes Go.RowKit
set_option linter.unusedVariables false
set_option linter.unusedSimpArgs false
theorem db_back {M p k d : Nat} (h : d = db M (p - (k + 1))) (hk : k + 1 ≤ p) : d * 2 % 2147483647 = db M (p - k) := by
  rw [h, ← db_step, show p - (k + 1) + 1 = p - k by omega]
theorem u64_mul2 (d : Nat) : Value.int IntKind.u64 ((d : Int) * 2 % 2147483647) = Value.int IntKind.u64 ((d * 2 % 2147483647 : Nat) : Int) := by
  congr 1
end
section
open Go Go.ChangeShapes Go.WideShapes Go.RowKit
set_option linter.unusedVariables false
set_option linter.unusedSimpArgs false
/-- The whole number's hash. -/
def hbV (n1 : Bool) (xs : List Int) : Int := if goodB n1 xs = true then (if n1 = true then -(hh B18 xs 0) else hh B18 xs 0) else 0
structure HStep (H D H' : Int) : Prop where
  eq : (H * 1126526311 + D % 2147483647).tmod 2147483647 = H'
  lo : 0 ≤ H'
  hi : H' < 2147483647
theorem hstep {xs : List Int} {k : Nat} (hk : k < xs.length) : HStep (hh B18 xs (k + 1)) (xs.getD k 0) (hh B18 xs k) := by
  have h1 := hh_lo B18 xs (k + 1)
  have h2 := hh_lo B18 xs k
  refine ⟨?_, h2.1, h2.2⟩
  rw [Int.tmod_eq_emod_of_nonneg (by omega), ← hh_step B18 1126526311 (by decide) xs hk]
set_option maxRecDepth 100000 in
theorem hashBig_any (n1 : Bool) (u1 : Value) (xs : List Int) (w : World) (hr1 : Rd w u1 xs) (hf1 : Fit xs) :
    Calls Tryz.prog 37 #[.agg #[.bool n1, u1]] w fun e w' => e = .returned (.int .i64 (hbV n1 xs)) ∧ Below w.heap.size w w' := by
  have HV := Lib.hid (show hbV n1 xs = if goodB n1 xs = true then (if n1 = true then -(hh B18 xs 0) else hh B18 xs 0) else 0 from rfl)
  obtain ⟨p, c, rfl, hc, hm, hp⟩ := rd_form hr1
  have hb1 : Below w.heap.size w (w.alloc (.cells #[.bool n1, .slice p xs.length c] 24)) := (Below.refl _ _).alloc (Nat.le_refl _) _
  have HG := Lib.hid (good_any n1 _ xs (w.alloc (.cells #[.bool n1, .slice p xs.length c] 24)) (hr1.keep hb1) hf1)
  have hk0 : (w.alloc (.cells #[.bool n1, .slice p xs.length c] 24)).cell? ⟨w.heap.size, 0, none⟩ = some (.bool n1) := by simp
  have hk1 : (w.alloc (.cells #[.bool n1, .slice p xs.length c] 24)).cell? ⟨w.heap.size, 1, none⟩ = some (.slice p xs.length c) := by simp
  have HB1 := Lib.hid hb1
  have HP := Lib.hid hp
  have HF := Lib.hid hf1
  obtain ⟨W1, hW1⟩ : ∃ x, w.alloc (.cells #[.bool n1, .slice p xs.length c] 24) = x := ⟨_, rfl⟩
  rw [hW1] at hk0 hk1 HB1 HG
  obtain ⟨g, hg⟩ : ∃ g, goodB n1 xs = g := ⟨_, rfl⟩
  rw [hg] at HG HV
  clear hr1 hf1 hb1 hp hg
  cases g
  · simp only [Bool.false_eq_true, if_false] at HV
    go_enter Tryz.func37, Tryz.ntmps37
    go_wp2_with (first
      | (go_at_call 50; refine HG.out.mono ?_; rintro e w2 ⟨rfl, hb⟩; have HB2 := Lib.hid (HB1.out.trans (hb.mono HB1.out.size)); clear hb HG)
      | fail)
    go_ret
    exact ⟨by rw [HV.out]; rfl, HB2.out⟩
  · simp only [if_true] at HV
    have HK0 := Lib.hid hk0
    have HK1 := Lib.hid hk1
    go_enter Tryz.func37, Tryz.ntmps37
    go_wp2_with (first
      | (go_at_call 50; refine HG.out.mono ?_; rintro e w2 ⟨rfl, hb⟩; have HB2 := Lib.hid (HB1.out.trans (hb.mono HB1.out.size)); have j0 := below_cell hb HK0.out; have j1 := below_cell hb HK1.out; clear hb HG hk0 hk1 hW1)
      | fail)
    go_loopw [3, 11] (fun s3 s11 wr => ∃ (i : Nat) (H : Int), s11 = .int .i64 i ∧ s3 = .int .i64 H ∧ i ≤ xs.length ∧ H = hh B18 xs (xs.length - i) ∧ w2 = wr) (fun s3 s11 wr => xs.length - (RowKit.intOf s11).toNat)
    case atStart => exact ⟨0, 0, rfl, rfl, by omega, by rw [Nat.sub_zero, hh_end B18 xs (Nat.le_refl _)], rfl⟩
    case round =>
      obtain ⟨i, H, rfl, rfl, hi, hH, rfl⟩ := hrel
      have HH := Lib.hid hH
      have hl := hh_lo B18 xs (xs.length - i)
      rw [← hH] at hl
      clear hH
      by_cases hlt : i < xs.length
      · obtain ⟨k, hk⟩ : ∃ k, xs.length = k + 1 + i := ⟨xs.length - 1 - i, by omega⟩
        obtain ⟨b, off, rfl, hcell⟩ := HP.out (by omega)
        have hcx := below_cell HB2.out (hcell k (by omega))
        have hst := hstep (xs := xs) (k := k) (by omega)
        have hfx := HF.out k
        have HN := Lib.hid (show hh B18 xs k = hh B18 xs (xs.length - (i + 1)) by rw [hk]; congr 1; omega)
        rw [show k + 1 = xs.length - i by omega, ← HH.out] at hst
        have hki : (xs.length : Int) - 1 - (i : Int) = (k : Int) := by omega
        have hlz : (i : Int) < (xs.length : Int) := by omega
        obtain ⟨eq, lo, hi2⟩ := hst
        obtain ⟨H', hH'⟩ : ∃ H', hh B18 xs k = H' := ⟨_, rfl⟩
        rw [hH'] at eq lo hi2 HN
        obtain ⟨D, hD⟩ : ∃ D, xs.getD k 0 = D := ⟨_, rfl⟩
        rw [hD] at eq hcx hfx
        clear hcell hH' hD
        go_wp2_with fail
        exact ⟨⟨i + 1, H', by go_num, rfl, by omega, HN.out, trivial⟩, by simp [RowKit.intOf]; omega⟩
      · obtain rfl : i = xs.length := by omega
        have HE := Lib.hid (show H = hh B18 xs 0 by rw [HH.out, Nat.sub_self])
        cases n1
        · simp only [Bool.false_eq_true, if_false] at HV
          go_wp2_with fail
          go_ret
          exact ⟨by rw [HV.out, ← HE.out]; rfl, HB2.out⟩
        · simp only [if_true] at HV
          go_wp2_with fail
          go_ret
          exact ⟨by rw [HV.out, ← HE.out]; rfl, HB2.out⟩
structure DStep (H D H' : Int) : Prop where
  eq : (10 * H + D).tmod 2147483647 = H'
  lo : 0 ≤ H'
  hi : H' < 2147483647
theorem dstep {ds : List Int} {k : Nat} (hk : k < ds.length) (hd : 0 ≤ ds.getD k 0) : DStep (hh 10 ds (k + 1)) (ds.getD k 0) (hh 10 ds k) := by
  have h1 := hh_lo 10 ds (k + 1)
  have h2 := hh_lo 10 ds k
  refine ⟨?_, h2.1, h2.2⟩
  rw [Int.tmod_eq_emod_of_nonneg (by omega), ← hh_step10 ds hk]
end
end Go.Proofs.YtnfemojgecljiaaGreatDoor
