/- Layer 10: the statement on Live: the walk. -/
import Derived.Test.YtnniohimbmnapaaDoorRefL
namespace Go.Proofs.YtnniohimbmnapaaDoor
open Go Go.ChangeShapes Go.WideShapes Go.RowKit
set_option linter.unusedVariables false
set_option linter.unusedSimpArgs false
set_option maxRecDepth 100000 in
set_option maxHeartbeats 8000000 in
theorem same_maps (a b : Value) (L : List (List Nat)) (w : World) (ha : Rr w a L) (hb : Rr w b L) :
    Calls Tryd.prog 24 #[a, b] w fun e w' => e = .returned (.bool true) ∧ Below w.heap.size w w' := by
  have HA := Lib.hid ha
  have HB := Lib.hid hb
  obtain ⟨pa, ca, rfl, hl, _⟩ := ha
  obtain ⟨pb, cb, rfl, _, _⟩ := hb
  go_enter Tryd.func24, Tryd.ntmps24
  go_wp2_with fail
  go_loopw [5] (fun s5 wx => ∃ k : Nat, s5 = .int .i64 k ∧ k ≤ L.length ∧ Below w.heap.size w wx) (fun s5 _ => L.length - (intOf s5).toNat)
  case atStart => exact ⟨0, rfl, Nat.zero_le _, Below.refl _ _⟩
  case round =>
    obtain ⟨k, rfl, hk, hb⟩ := hrel
    have HBW := Lib.hid hb
    by_cases hlt : k < L.length
    · obtain ⟨pa', ca', hea, _, hA⟩ := HA.out.keep hb
      obtain ⟨pb', cb', heb, _, hB⟩ := HB.out.keep hb
      simp only [Value.slice.injEq] at hea heb
      obtain ⟨rfl, _, rfl⟩ := hea
      obtain ⟨rfl, _, rfl⟩ := heb
      obtain ⟨bA, oA, uA, rfl, cA, rA⟩ := hA k hlt
      obtain ⟨bB, oB, uB, rfl, cB, rB⟩ := hB k hlt
      obtain ⟨row, hrow⟩ : ∃ row, L.getD k [] = row := ⟨_, rfl⟩
      rw [hrow] at rA rB
      obtain ⟨pA, eA, rfl, _, hrl, _⟩ := rw_form rA
      obtain ⟨pB, eB, rfl, _, _, _⟩ := rw_form rB
      have HRA := Lib.hid rA
      have HRB := Lib.hid rB
      have HCA := Lib.hid cA
      have HCB := Lib.hid cB
      have ne1 : ((row.length : Int) != (row.length : Int)) = false := by simp
      have hkz : (k : Int) < (L.length : Int) := by omega
      clear hA hB hb rA rB hrow
      go_wp2_with fail
      go_quiet (fail)
      go_wp2_with fail
      obtain ⟨wA, rfl⟩ : ∃ wA : World, wA = wr := ⟨_, rfl⟩
      clear cA cB
      go_loopw [6] (fun s6 wx => ∃ j : Nat, s6 = .int .i64 j ∧ j ≤ row.length ∧ Below wA.heap.size wA wx) (fun s6 _ => row.length - (intOf s6).toNat)
      case atStart => exact ⟨0, rfl, Nat.zero_le _, by exact below_drewN (Below.refl _ _) _⟩
      case round =>
        obtain ⟨j, rfl, hj, hb2⟩ := hrel
        have HB2 := Lib.hid hb2
        have cA := below_cell hb2 HCA.out
        have cB := below_cell hb2 HCB.out
        by_cases hjl : j < row.length
        · obtain ⟨_, _, h1, _, _, h2⟩ := rw_form (HRA.out.keep hb2)
          simp only [Value.slice.injEq] at h1
          obtain ⟨rfl, _, rfl⟩ := h1
          obtain ⟨_, _, h1, _, _, h3⟩ := rw_form (HRB.out.keep hb2)
          simp only [Value.slice.injEq] at h1
          obtain ⟨rfl, _, rfl⟩ := h1
          obtain ⟨xA, yA, rfl, dA⟩ := h2 j hjl
          obtain ⟨xB, yB, rfl, dB⟩ := h3 j hjl
          obtain ⟨q, hq⟩ : ∃ q, row.getD j 0 = q := ⟨_, rfl⟩
          rw [hq] at dA dB
          have ne2 : ((q : Int) != (q : Int)) = false := by simp
          have hjz : (j : Int) < (row.length : Int) := by omega
          clear h2 h3 hb2 hq
          go_wp2_with fail
          go_quiet (fail)
          go_wp2_with fail
          go_roundw
          case rel => exact ⟨j + 1, by go_num, by omega, by exact below_drewN HB2.out _⟩
          case measure => simp [intOf]; omega
        · have hjz : ¬ (j : Int) < (row.length : Int) := by omega
          clear hb2
          go_wp2_with fail
          go_roundw
          case rel => exact ⟨k + 1, by go_num, by omega, HBW.out.trans (HB2.out.mono HBW.out.size)⟩
          case measure => simp [intOf]; omega
    · have hkz : ¬ (k : Int) < (L.length : Int) := by omega
      clear hb
      go_wp2_with fail
      go_ret
      exact ⟨rfl, HBW.out⟩
set_option maxRecDepth 100000 in
set_option maxHeartbeats 8000000 in
theorem law_live (r : RestV) (F : FuncD) (iv rv : Value) (w : World) (hU : Us w) (hI : Ii w iv F.ins) (hR : Rg w rv F.regions) (hnn : F.ins.length ≤ 1048576) (hnr : F.regions.length ≤ 1048576) (hll : ∀ i, i < F.ins.length → (F.ins.getD i insZ).l.length ≤ 1048576) :
    Calls Tryd.prog 5 #[funcV r F iv rv] w fun e w' => e = .returned (.bool true) ∧ Below w.heap.size w w' := by
  have HSR := rsound_any r F iv rv
  have HLY := fun hs => live_yes r F iv rv hs hnn
  have HLN := fun hs => live_no r F iv rv hs hnn
  have HRY := fun hs => rlive_any r F iv rv hs hnn (fun x hx => by
    have h1 := congrArg List.length ((soundF hs).reads_ints hx)
    rw [ints_len] at h1
    have h2 := readsD_len (F.ins.getD x insZ)
    have h3 := hll x hx
    omega)
  obtain ⟨p, c, rfl, _, _, _⟩ := ii_form hI
  obtain ⟨p2, c2, rfl, _, _, _⟩ := rg_form hR
  unfold funcV SPost at HSR
  unfold funcV LiveY at HLY
  unfold funcV at HLN HRY ⊢
  replace HSR := Lib.hid HSR
  replace HLY := Lib.hid HLY
  replace HLN := Lib.hid HLN
  replace HRY := Lib.hid HRY
  have HX := Lib.hid (Box10.new w r F (.slice p F.ins.length c) (.slice p2 F.regions.length c2) 27)
  have HB0 := Lib.hid (show Below w.heap.size w (w.alloc (.cells #[.string r.name, .int .i64 F.params, .int .i64 F.regs, .int .i64 r.frees, .bool r.gen, .int .i64 r.bound, .slice r.np r.nn r.nc, .slice r.cp r.cn r.cc, .slice p F.ins.length c, .slice p2 F.regions.length c2] 27)) from by ((repeat' (first | with_reducible assumption | with_reducible exact Below.refl _ _ | with_reducible refine Below.drew ?_ | with_reducible refine Below.alloc ?_ (by first | omega | (simp; omega) | (simp; done) | fail) _ | with_reducible refine Below.setCell ?_ (by first | omega | (simp; omega) | (simp; done) | fail) _ | fail)); (first | done | fail)))
  have HU := Lib.hid hU
  have HI := Lib.hid hI
  have HR := Lib.hid hR
  clear hU hI hR
  go_enter Tryd.func5, Tryd.ntmps5
  go_wp2_with (first
    | (go_at_call 14; (with_reducible refine (known10 _ (HU.out.keep (by ((repeat' (first | with_reducible assumption | with_reducible exact Below.refl _ _ | with_reducible refine Below.drew ?_ | with_reducible refine Below.alloc ?_ (by first | omega | (simp; omega) | (simp; done) | fail) _ | with_reducible refine Below.setCell ?_ (by first | omega | (simp; omega) | (simp; done) | fail) _ | fail)); (first | done | fail))))).mono ?_); rintro e wA ⟨rfl, hb⟩; have HA := Lib.hid (HB0.out.trans (hb.mono (by simp))); obtain ⟨x0, x1, x2, x3, x4, x5, x6, x7, x8, x9⟩ := (HX.out.keep hb (by simp)).all; have HXA := Lib.hid (HX.out.keep hb (by simp)); clear hb)
    | fail)
  have hsA := World.block_lt_of_cell? _ _ x0
  dsimp only at hsA
  cases hs : soundB F with
  | true =>
    have HL := Lib.hid (HLY.out hs wA (HU.out.keep HA.out) (HI.out.keep HA.out) (HR.out.keep HA.out))
    have HRR := Lib.hid (HRY.out hs)
    rw [hs] at HSR
    clear hs
    go_wp2_with (first
      | (go_at_call 23; (with_reducible refine HL.out.mono ?_); rintro e wB ⟨vL, L, rfl, hLr, hLok, hLx, hb⟩; have HB := Lib.hid (HA.out.trans (hb.mono HA.out.size)); obtain ⟨y0, y1, y2, y3, y4, y5, y6, y7, y8, y9⟩ := (HXA.out.keep hb hsA).all; have HXB := Lib.hid (HXA.out.keep hb hsA); have HLR := Lib.hid hLr; have HLK := Lib.hid hLok; have HLX := Lib.hid hLx; have hsB := World.block_lt_of_cell? _ _ y0; dsimp only at hsB; clear hb hLr hLok hLx x0 x1 x2 x3 x4 x5 x6 x7 x8 x9)
      | (go_at_call 16; (with_reducible refine (HSR.out _ (HU.out.keep HB.out) (HI.out.keep HB.out) (HR.out.keep HB.out)).mono ?_); rintro e wC ⟨rfl, hb⟩; have HC := Lib.hid (HB.out.trans (hb.mono HB.out.size)); obtain ⟨z0, z1, z2, z3, z4, z5, z6, z7, z8, z9⟩ := (HXB.out.keep hb hsB).all; have HLC := Lib.hid (HLR.out.keep hb); clear hb y0 y1 y2 y3 y4 y5 y6 y7 y8 y9)
      | (go_at_call 25; (with_reducible refine (HRR.out _ (HU.out.keep HC.out) (HI.out.keep HC.out) (HR.out.keep HC.out)).mono ?_); rintro e wD ⟨vR, R, rfl, hRr, hRok, hRx, hb⟩; have HD := Lib.hid (HC.out.trans (hb.mono HC.out.size)); have hLR : L = R := rows_ext HLK.out hRok (fun y hy q _ => by rw [Bool.eq_iff_iff]; exact (HLX.out y hy q).trans (hRx y hy q).symm); have HSM := Lib.hid (same_maps vL vR L wD (HLC.out.keep hb) (by rw [hLR]; exact hRr)); clear hb hRr hRok hRx hLR z0 z1 z2 z3 z4 z5 z6 z7 z8 z9)
      | (go_at_call 24; (with_reducible refine HSM.out.mono ?_); rintro e wE ⟨rfl, hb⟩; have HE := Lib.hid (HD.out.trans (hb.mono HD.out.size)); clear hb)
      | fail)
    go_ret
    exact ⟨rfl, HE.out⟩
  | false =>
    have HL := Lib.hid (HLN.out hs wA (HU.out.keep HA.out) (HI.out.keep HA.out) (HR.out.keep HA.out))
    rw [hs] at HSR
    clear hs
    go_wp2_with (first
      | (go_at_call 23; (with_reducible refine HL.out.mono ?_); rintro e wB ⟨rfl, hb⟩; have HB := Lib.hid (HA.out.trans (hb.mono HA.out.size)); obtain ⟨y0, y1, y2, y3, y4, y5, y6, y7, y8, y9⟩ := (HXA.out.keep hb hsA).all; clear hb)
      | (go_at_call 16; (with_reducible refine (HSR.out _ (HU.out.keep HB.out) (HI.out.keep HB.out) (HR.out.keep HB.out)).mono ?_); rintro e wC ⟨rfl, hb⟩; have HC := Lib.hid (HB.out.trans (hb.mono HB.out.size)); clear hb)
      | fail)
    go_ret
    exact ⟨rfl, HC.out⟩
end Go.Proofs.YtnniohimbmnapaaDoor
