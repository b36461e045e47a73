/- Layer 12: the statement that a map holds no more than what is read: the walk. -/
import Derived.Test.YtnniohimbmnapaaDoorRead
import Derived.Test.YtnniohimbmnapaaDoorK12
namespace Go.Proofs.YtnniohimbmnapaaDoor
open Go Go.ChangeShapes Go.WideShapes Go.RowKit
set_option linter.unusedVariables false
set_option linter.unusedSimpArgs false
set_option maxRecDepth 100000 in
set_option maxHeartbeats 8000000 in
theorem law_nomore (r : RestV) (F : FuncD) (iv rv : Value) (fz : Int) (w : World) (hU : Us w) (hI : Ii w iv F.ins) (hR : Rg w rv F.regions) (hnn : F.ins.length ≤ 1048576) (hnr : F.regions.length ≤ 1048576) :
    Calls Tryd.prog 12 #[funcV r F iv rv, .int .i64 fz] w fun e w' => e = .returned (.bool true) ∧ Below w.heap.size w w' := by
  have HSO := rsound_any r F iv rv
  have HLY := fun hs => maps_rd r F iv rv hs hnn
  have HLN := fun hs => maps_no r F iv rv hs hnn
  have HRD := fun fr q => read_yes r F iv rv fr q
  obtain ⟨p, c, rfl, _, _, hpi⟩ := ii_form hI
  obtain ⟨p2, c2, rfl, _, _, _⟩ := rg_form hR
  unfold funcV SPost at HSO
  unfold funcV MapsY at HLY
  unfold funcV at HLN
  unfold funcV at HRD ⊢
  replace HSO := Lib.hid HSO
  replace HLY := Lib.hid HLY
  replace HLN := Lib.hid HLN
  replace HRD := Lib.hid HRD
  have HPI := Lib.hid hpi
  clear hpi
  have HX := Lib.hid (Box10.new w r F (.slice p F.ins.length c) (.slice p2 F.regions.length c2) 27)
  have HB0 := Lib.hid (show Below w.heap.size w (w.alloc (.cells #[.string r.name, .int .i64 F.params, .int .i64 F.regs, .int .i64 r.frees, .bool r.gen, .int .i64 r.bound, .slice r.np r.nn r.nc, .slice r.cp r.cn r.cc, .slice p F.ins.length c, .slice p2 F.regions.length c2] 27)) from by ((repeat' (first | with_reducible assumption | with_reducible exact Below.refl _ _ | with_reducible refine Below.drew ?_ | with_reducible refine Below.alloc ?_ (by first | omega | (simp; omega) | (simp; done) | fail) _ | with_reducible refine Below.setCell ?_ (by first | omega | (simp; omega) | (simp; done) | fail) _ | fail)); (first | done | fail)))
  have HU := Lib.hid hU
  have HI := Lib.hid hI
  have HR := Lib.hid hR
  clear hU hI hR
  go_enter Tryd.func12, Tryd.ntmps12
  go_wp2_with (first
    | (go_at_call 33; (with_reducible refine (known12 _ (HU.out.keep (by ((repeat' (first | with_reducible assumption | with_reducible exact Below.refl _ _ | with_reducible refine Below.drew ?_ | with_reducible refine Below.alloc ?_ (by first | omega | (simp; omega) | (simp; done) | fail) _ | with_reducible refine Below.setCell ?_ (by first | omega | (simp; omega) | (simp; done) | fail) _ | fail)); (first | done | fail))))).mono ?_); rintro e wA ⟨rfl, hb⟩; have HA := Lib.hid (HB0.out.trans (hb.mono (by simp))); obtain ⟨x0, x1, x2, x3, x4, x5, x6, x7, x8, x9⟩ := (HX.out.keep hb (by simp)).all; have HXA := Lib.hid (HX.out.keep hb (by simp)); clear hb)
    | fail)
  cases hs : soundB F with
  | true =>
    have HL := Lib.hid (HLY.out hs wA (HU.out.keep HA.out) (HI.out.keep HA.out) (HR.out.keep HA.out))
    have HSF := Lib.hid (soundF hs)
    have HSS := Lib.hid hs
    clear hs
    have hr0 := HSF.out.r0
    have hr1 := HSF.out.r1
    obtain ⟨zf, hzf, hzfl⟩ := wrap_nat fz
    have hnp := HSF.out.pos
    have hn0 : ((F.ins.length : Int) == 0) = false := by rw [beq_eq_false_iff_ne]; omega
    have hf1 : zf % F.ins.length < F.ins.length := Nat.mod_lt _ hnp
    have hxf : (zf : Int) % (F.ins.length : Int) = ((zf % F.ins.length : Nat) : Int) := by omega
    obtain ⟨f0, hf0⟩ : ∃ f0, zf % F.ins.length = f0 := ⟨_, rfl⟩
    rw [hf0] at hf1 hxf
    clear hf0
    go_wp2_with (first
      | (go_at_call 34; (with_reducible refine HL.out.mono ?_); rintro e wB ⟨vL, L, rfl, hRr, hok, hlv, hb⟩; have HB := Lib.hid (HA.out.trans (hb.mono HA.out.size)); have HXB := Lib.hid (HXA.out.keep hb (World.block_lt_of_cell? _ _ HXA.out.c0)); obtain ⟨y0, y1, y2, y3, y4, y5, y6, y7, y8, y9⟩ := HXB.out.all; obtain ⟨pL, cL, rfl, hLl, hLc⟩ := hRr; rw [show (mapsL F L).length = F.ins.length by simp [mapsL]] at hLc ⊢; obtain ⟨LF, hLF⟩ : ∃ LF, (mapsL F L).getD f0 [] = LF := ⟨_, rfl⟩; have hLV : ∀ q, hasW LF q = true → Lv (grOf F) f0 q := (fun q hq => by rw [← hLF, mapsL_at hf1] at hq; cases ha : alB F f0 with | true => (rw [ha, if_pos rfl] at hq; exact (hlv f0 hf1 q).1 hq) | false => (rw [ha, if_neg (by simp)] at hq; simp [hasW] at hq)); have HLV := Lib.hid hLV; obtain ⟨bL, oL, u, rfl, hcu, hru⟩ := hLc f0 hf1; rw [hLF] at hru; obtain ⟨pu, cu, rfl, _, hlm, _⟩ := rw_form hru; have HRU := Lib.hid hru; have HCU := Lib.hid hcu; clear hb hlv hLc hLl hok hru hcu hLV hLF x0 x1 x2 x3 x4 x5 x6 x7 x8 x9)
      | fail)
    clear y0 y1 y2 y3 y4 y5 y6 y7 y8 y9
    rw [hxf]
    go_loopw [7, 8] (fun s7 s8 wx => ∃ k n : Nat, s7 = .int .i64 n ∧ s8 = .int .i64 k ∧ n ≤ k ∧ k ≤ 64 * LF.length ∧ Below wB.heap.size wB wx) (fun _ s8 _ => 64 * LF.length - (intOf s8).toNat)
    case atStart => exact ⟨0, 0, rfl, rfl, Nat.le_refl _, Nat.zero_le _, Below.refl _ _⟩
    case round =>
      obtain ⟨k, n, rfl, rfl, hnk, hk, hb⟩ := hrel
      have HBB := Lib.hid hb
      have hcu := below_cell hb HCU.out
      by_cases hlt : k < 64 * LF.length
      · have hlz : (k : Int) < 64 * (LF.length : Int) := by omega
        by_cases hn60 : n < 60
        · have HHS := Lib.hid (hasr_any _ LF k wr (HRU.out.keep hb) (by omega) (by omega))
          rw [isB_nat] at HHS
          obtain ⟨x0, x1, x2, x3, x4, x5, x6, x7, x8, x9⟩ := (HXB.out.keep hb (World.block_lt_of_cell? _ _ HXB.out.c0)).all
          have hbw : Below w.heap.size w wr := HB.out.trans (hb.mono HB.out.size)
          cases hh : hasW LF k with
          | false =>
            rw [hh] at HHS
            clear hh hb hbw
            go_wp2_with (first
              | (go_at_call 36; (with_reducible refine HHS.out.mono ?_); rintro e w9 ⟨rfl, rfl⟩)
              | fail)
            go_roundw
            case rel => exact ⟨k + 1, n, rfl, by go_num, by omega, by omega, HBB.out⟩
            case measure => simp [intOf]; omega
          | true =>
            rw [hh] at HHS
            have hl := HLV.out k hh
            have hkr : k < F.regs.toNat := hl.lt HSF.out.gr hf1
            have HRR := Lib.hid (HRD.out f0 k wr (HU.out.keep hbw) (HI.out.keep hbw) (HR.out.keep hbw) HSS.out hnn hf1 hl (by omega))
            have hkz : ¬ (k : Int) ≥ F.regs := by omega
            have hkz2 : (k : Int) < F.regs := by omega
            clear hh hb hbw hl
            go_wp2_with (first
              | (go_at_call 36; (with_reducible refine HHS.out.mono ?_); rintro e w9 ⟨rfl, rfl⟩)
              | (go_at_call 40; (with_reducible refine HRR.out.mono ?_); rintro e w9 ⟨rfl, hb9⟩; have HB9 := Lib.hid hb9; clear hb9)
              | fail)
            go_roundw
            case rel => exact ⟨k + 1, n + 1, by go_num, by go_num, by omega, by omega, HBB.out.trans (HB9.out.mono HBB.out.size)⟩
            case measure => simp [intOf]; omega
        · go_wp2_with fail
          go_ret
          exact ⟨rfl, HB.out.trans (HBB.out.mono HB.out.size)⟩
      · have hlz : ¬ (k : Int) < 64 * (LF.length : Int) := by omega
        go_wp2_with fail
        go_ret
        exact ⟨rfl, HB.out.trans (HBB.out.mono HB.out.size)⟩
  | false =>
    have HL := Lib.hid (HLN.out hs wA (HU.out.keep HA.out) (HI.out.keep HA.out) (HR.out.keep HA.out))
    rw [hs] at HSO
    clear hs
    go_wp2_with (first
      | (go_at_call 34; (with_reducible refine HL.out.mono ?_); rintro e wB ⟨rfl, hb⟩; have HB := Lib.hid (HA.out.trans (hb.mono HA.out.size)); obtain ⟨y0, y1, y2, y3, y4, y5, y6, y7, y8, y9⟩ := (HXA.out.keep hb (World.block_lt_of_cell? _ _ HXA.out.c0)).all; clear hb)
      | (go_at_call 16; (with_reducible refine (HSO.out _ (HU.out.keep HB.out) (HI.out.keep HB.out) (HR.out.keep HB.out)).mono ?_); rintro e wC ⟨rfl, hb⟩; have HC := Lib.hid (HB.out.trans (hb.mono HB.out.size)); clear hb)
      | fail)
    go_ret
    exact ⟨rfl, HC.out⟩
end Go.Proofs.YtnniohimbmnapaaDoor
