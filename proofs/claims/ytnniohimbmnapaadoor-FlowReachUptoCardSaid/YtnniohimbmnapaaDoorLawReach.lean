/- Layer 10: flow.Reach where the function is not sound; the statement on Reach: the walk. -/
import Derived.Test.YtnniohimbmnapaaDoorFReach
import Derived.Test.YtnniohimbmnapaaDoorLawPaths
namespace Go.Proofs.YtnniohimbmnapaaDoor
open Go Go.ChangeShapes Go.WideShapes Go.RowKit
set_option linter.unusedVariables false
set_option linter.unusedSimpArgs false
set_option maxRecDepth 100000 in
set_option maxHeartbeats 8000000 in
theorem reach_no (r : RestV) (F : FuncD) (iv rv : Value) (hs : soundB F = false) (w : World) (hU : Us w) (hI : Ii w iv F.ins) (hR : Rg w rv F.regions) :
    Calls Tryd.prog 21 #[funcV r F iv rv] w fun e B => e = .returned (.tuple #[.slice none 0 0, .int .i64 3]) ∧ Below w.heap.size w B := by
  obtain ⟨p, c, rfl, _, _, _⟩ := ii_form hI
  obtain ⟨p2, c2, rfl, _, _, _⟩ := rg_form hR
  have HSN := sound_any r F (.slice p F.ins.length c) (.slice p2 F.regions.length c2)
  unfold funcV SPost at HSN
  unfold funcV
  rw [hs] at HSN
  have HSO := Lib.hid HSN
  have HX := Lib.hid (Box10.new w r F (.slice p F.ins.length c) (.slice p2 F.regions.length c2) 27)
  have HB0 := Lib.hid (show Below w.heap.size w (w.alloc (.cells #[.string r.name, .int .i64 F.params, .int .i64 F.regs, .int .i64 r.frees, .bool r.gen, .int .i64 r.bound, .slice r.np r.nn r.nc, .slice r.cp r.cn r.cc, .slice p F.ins.length c, .slice p2 F.regions.length c2] 27)) from by ((repeat' (first | with_reducible assumption | with_reducible exact Below.refl _ _ | with_reducible refine Below.drew ?_ | with_reducible refine Below.alloc ?_ (by first | omega | (simp; omega) | (simp; done) | fail) _ | with_reducible refine Below.setCell ?_ (by first | omega | (simp; omega) | (simp; done) | fail) _ | fail)); (first | done | fail)))
  have HI := Lib.hid hI
  have HR := Lib.hid hR
  have HU := Lib.hid hU
  clear hI hR hU HSN hs
  refine calls_of_marks Tryd.func21 rfl ?_
  simp only [Tryd.ntmps21, List.size_toArray, List.length_cons, List.length_nil, Nat.reduceAdd, Nat.reduceSub, Array.replicate_succ, Array.replicate_zero, List.push_toArray, List.append_toArray, List.nil_append, List.cons_append]
  go_wp2_with (first
    | (go_at_call 15; (with_reducible refine (HSO.out _ (HU.out.keep HB0.out) (HI.out.keep HB0.out) (HR.out.keep HB0.out)).mono ?_); rintro e w9 ⟨rfl, hb9⟩; have HB9 := Lib.hid (HB0.out.trans (hb9.mono (by simp))); clear hb9)
    | fail)
  refine leaves_marks (S := w.heap.size) _ _ (Marks.nil _ _) ?_
  intro W' hk
  exact ⟨_, results_tmp2 rfl _ _ _, ⟨rfl, HB9.out.trans (hk.below HB9.out.size fun b hb => .inl hb)⟩⟩
set_option maxRecDepth 100000 in
set_option maxHeartbeats 8000000 in
theorem law_reach (r : RestV) (F : FuncD) (iv rv : Value) (w : World) (hU : Us w) (hI : Ii w iv F.ins) (hR : Rg w rv F.regions) (hnn : F.ins.length ≤ 1048576) (hnr : F.regions.length ≤ 1048576) :
    Calls Tryd.prog 4 #[funcV r F iv rv] w fun e w' => e = .returned (.bool true) ∧ Below w.heap.size w w' := by
  have HSR := rsound_any r F iv rv
  have HLY := fun hs => reach_yes r F iv rv hs hnn
  have HLN := fun hs => reach_no r F iv rv hs
  have HRY := fun hs => rreach_any r F iv rv hs hnn
  obtain ⟨p, c, rfl, _, _, _⟩ := ii_form hI
  obtain ⟨p2, c2, rfl, _, _, _⟩ := rg_form hR
  unfold funcV SPost at HSR
  unfold funcV at HLY HLN HRY ⊢
  replace HSR := Lib.hid HSR
  replace HLY := Lib.hid HLY
  replace HLN := Lib.hid HLN
  replace HRY := Lib.hid HRY
  have HX := Lib.hid (Box10.new w r F (.slice p F.ins.length c) (.slice p2 F.regions.length c2) 27)
  have HB0 := Lib.hid (show Below w.heap.size w (w.alloc (.cells #[.string r.name, .int .i64 F.params, .int .i64 F.regs, .int .i64 r.frees, .bool r.gen, .int .i64 r.bound, .slice r.np r.nn r.nc, .slice r.cp r.cn r.cc, .slice p F.ins.length c, .slice p2 F.regions.length c2] 27)) from by ((repeat' (first | with_reducible assumption | with_reducible exact Below.refl _ _ | with_reducible refine Below.drew ?_ | with_reducible refine Below.alloc ?_ (by first | omega | (simp; omega) | (simp; done) | fail) _ | with_reducible refine Below.setCell ?_ (by first | omega | (simp; omega) | (simp; done) | fail) _ | fail)); (first | done | fail)))
  have HU := Lib.hid hU
  have HI := Lib.hid hI
  have HR := Lib.hid hR
  clear hU hI hR
  go_enter Tryd.func4, Tryd.ntmps4
  go_wp2_with (first
    | (go_at_call 14; (with_reducible refine (known10 _ (HU.out.keep (by ((repeat' (first | with_reducible assumption | with_reducible exact Below.refl _ _ | with_reducible refine Below.drew ?_ | with_reducible refine Below.alloc ?_ (by first | omega | (simp; omega) | (simp; done) | fail) _ | with_reducible refine Below.setCell ?_ (by first | omega | (simp; omega) | (simp; done) | fail) _ | fail)); (first | done | fail))))).mono ?_); rintro e wA ⟨rfl, hb⟩; have HA := Lib.hid (HB0.out.trans (hb.mono (by simp))); obtain ⟨x0, x1, x2, x3, x4, x5, x6, x7, x8, x9⟩ := (HX.out.keep hb (by simp)).all; have HXA := Lib.hid (HX.out.keep hb (by simp)); clear hb)
    | fail)
  have hsA := World.block_lt_of_cell? _ _ x0
  dsimp only at hsA
  cases hs : soundB F with
  | true =>
    have HL := Lib.hid (HLY.out hs wA (HU.out.keep HA.out) (HI.out.keep HA.out) (HR.out.keep HA.out))
    have HRR := Lib.hid (HRY.out hs)
    rw [hs] at HSR
    have hnz : decide ((F.ins.length : Int) = (F.ins.length : Int)) = true := by simp
    clear hs
    go_wp2_with (first
      | (go_at_call 21; (with_reducible refine HL.out.mono ?_); rintro e wB ⟨vL, L, rfl, ⟨bL, rfl, hLb⟩, hLx, hb⟩; have HB := Lib.hid (HA.out.trans (hb.mono HA.out.size)); obtain ⟨y0, y1, y2, y3, y4, y5, y6, y7, y8, y9⟩ := (HXA.out.keep hb hsA).all; have HXB := Lib.hid (HXA.out.keep hb hsA); have HLB := Lib.hid hLb; have HLX := Lib.hid hLx; rw [hLx.1]; have hsB := World.block_lt_of_cell? _ _ y0; dsimp only at hsB; clear hb hLb hLx x0 x1 x2 x3 x4 x5 x6 x7 x8 x9)
      | (go_at_call 16; (with_reducible refine (HSR.out _ (HU.out.keep HB.out) (HI.out.keep HB.out) (HR.out.keep HB.out)).mono ?_); rintro e wC ⟨rfl, hb⟩; have HC := Lib.hid (HB.out.trans (hb.mono HB.out.size)); obtain ⟨z0, z1, z2, z3, z4, z5, z6, z7, z8, z9⟩ := (HXB.out.keep hb hsB).all; have HLC := Lib.hid (HLB.out.block (hb.block _ HLB.out.lt)); clear hb y0 y1 y2 y3 y4 y5 y6 y7 y8 y9)
      | (go_at_call 22; (with_reducible refine (HRR.out _ (HU.out.keep HC.out) (HI.out.keep HC.out) (HR.out.keep HC.out)).mono ?_); rintro e wD ⟨vR, R, rfl, ⟨bR, rfl, hRb⟩, hRx, hb⟩; have HD := Lib.hid (HC.out.trans (hb.mono HC.out.size)); have HLD := Lib.hid (HLC.out.block (hb.block _ HLC.out.lt)); have HRD := Lib.hid hRb; have HRX := Lib.hid hRx; rw [hRx.1]; clear hb hRb hRx z0 z1 z2 z3 z4 z5 z6 z7 z8 z9)
      | fail)
    obtain rfl : L = R := bools_ext HLX.out.1 HRX.out.1 (fun y hy => (HLX.out.2 y hy).trans (HRX.out.2 y hy).symm)
    go_loopw [6] (fun s wx => ∃ k : Nat, s = .int .i64 k ∧ k ≤ F.ins.length ∧ Below wD.heap.size wD wx) (fun s _ => F.ins.length - (intOf s).toNat)
    case atStart => exact ⟨0, rfl, Nat.zero_le _, Below.refl _ _⟩
    case round =>
      obtain ⟨k, rfl, hk, hb⟩ := hrel
      have HB2 := Lib.hid hb
      by_cases hlt : k < F.ins.length
      · obtain ⟨d, hd⟩ : ∃ d, L.getD k true = d := ⟨_, rfl⟩
        have hlL : k < L.length := by rw [HLX.out.1]; exact hlt
        have e1 := below_cell hb (HLD.out.bool hlL hd)
        have e2 := below_cell hb (HRD.out.bool hlL hd)
        have ne : (d != d) = false := by simp
        have hlz : (k : Int) < (F.ins.length : Int) := by omega
        clear hd hb hlL
        go_wp2_with fail
        go_quiet (fail)
        go_wp2_with fail
        go_roundw
        case rel => exact ⟨k + 1, by go_num, by omega, by exact below_drewN HB2.out _⟩
        case measure => simp [intOf]; omega
      · have hlz : ¬ (k : Int) < (F.ins.length : Int) := by omega
        clear hb
        go_wp2_with fail
        go_ret
        exact ⟨rfl, HD.out.trans (HB2.out.mono HD.out.size)⟩
  | false =>
    have HL := Lib.hid (HLN.out hs wA (HU.out.keep HA.out) (HI.out.keep HA.out) (HR.out.keep HA.out))
    rw [hs] at HSR
    clear hs
    go_wp2_with (first
      | (go_at_call 21; (with_reducible refine HL.out.mono ?_); rintro e wB ⟨rfl, hb⟩; have HB := Lib.hid (HA.out.trans (hb.mono HA.out.size)); obtain ⟨y0, y1, y2, y3, y4, y5, y6, y7, y8, y9⟩ := (HXA.out.keep hb hsA).all; clear hb)
      | (go_at_call 16; (with_reducible refine (HSR.out _ (HU.out.keep HB.out) (HI.out.keep HB.out) (HR.out.keep HB.out)).mono ?_); rintro e wC ⟨rfl, hb⟩; have HC := Lib.hid (HB.out.trans (hb.mono HB.out.size)); clear hb)
      | fail)
    go_ret
    exact ⟨rfl, HC.out⟩
end Go.Proofs.YtnniohimbmnapaaDoor
