/- Layer 10: the statement on paths (what is read ahead of being written is live): the walk. -/
import Derived.Test.YtnniohimbmnapaaDoorFBits
import Derived.Test.YtnniohimbmnapaaDoorLawWays
namespace Go.Proofs.YtnniohimbmnapaaDoor
open Go Go.ChangeShapes Go.WideShapes Go.RowKit
set_option linter.unusedVariables false
set_option linter.unusedSimpArgs false
def wrSet (wr : List Bool) (ws : List Nat) : List Bool := ws.foldl (fun l r => l.set r true) wr
theorem wrSet_len : ∀ (ws : List Nat) (wr : List Bool), (wrSet wr ws).length = wr.length
  | [], wr => rfl
  | r :: ws, wr => by
    unfold wrSet
    rw [List.foldl_cons]
    exact (wrSet_len ws _).trans (by simp)
theorem wrSet_no : ∀ (ws : List Nat) (wr : List Bool) (q : Nat), (∀ r ∈ ws, r < wr.length) → (wrSet wr ws).getD q true = false → wr.getD q true = false ∧ q ∉ ws
  | [], wr, q, _, h => ⟨h, by simp⟩
  | r :: ws, wr, q, hl, h => by
    have hr := hl r (by simp)
    obtain ⟨h1, h2⟩ := wrSet_no ws (wr.set r true) q (fun x hx => by rw [List.length_set]; exact hl x (by simp [hx])) h
    rw [getD_setL _ _ _ _ _ hr] at h1
    by_cases e : r = q
    · rw [if_pos e] at h1; cases h1
    · rw [if_neg e] at h1
      exact ⟨h1, by simp; exact ⟨fun e' => e e'.symm, h2⟩⟩
theorem wrSet_snoc (ws : List Nat) (wr : List Bool) (r : Nat) : wrSet wr (ws ++ [r]) = (wrSet wr ws).set r true := by
  unfold wrSet; rw [List.foldl_append]; rfl
/-- What is live at y and not written is live at fr. -/
def PI (G : Gr) (fr y : Nat) (wr : List Bool) : Prop := ∀ q, Lv G y q → wr.getD q true = false → Lv G fr q
theorem PI.step {G : Gr} {fr y : Nat} {wr : List Bool} (h : PI G fr y wr) {w : Nat × List Nat} (hw : w ∈ G.ways y) (hl : ∀ r ∈ w.2, r < wr.length) : PI G fr w.1 (wrSet wr w.2) := fun q hq hf => by
  obtain ⟨h1, h2⟩ := wrSet_no _ _ _ hl hf
  exact h q (.way hw h2 hq) h1
theorem made_bools (n : Nat) (hn : n ≤ 65536) (w : World) : (Instr.makeSlice 38 (.int .i64 (n : Int)) (.int .i64 (n : Int))).run Tryd.prog w = .ok (.slice (some ⟨w.heap.size, 0, none⟩) n n) (w.alloc (.cells ((List.replicate n false).map Value.bool).toArray 4)) := by
  rw [List.map_replicate]
  exact mk_row Tryd.underlying38 infoBoolL rfl n (by omega) (by omega) w
theorem blk_false (w : World) (m : Nat) : Blk (w.alloc (.cells (Array.replicate m (Value.bool false)) 4)) w.heap.size ((List.replicate m false).map Value.bool) 4 := by
  have h := Blk.new w ((List.replicate m false).map Value.bool) 4
  rw [List.map_replicate] at h ⊢
  rwa [List.toArray_replicate] at h
theorem Blk.bool {A : World} {b : Nat} {wr : List Bool} {T : TypeId} (h : Blk A b (wr.map Value.bool) T) {i : Nat} (hi : i < wr.length) {d : Bool} (hd : wr.getD i true = d) : A.cell? ⟨b, i, none⟩ = some (.bool d) := h.cell (by
  rw [List.getElem?_map, List.getElem?_eq_getElem hi]
  rw [List.getD_eq_getElem?_getD, List.getElem?_eq_getElem hi] at hd
  simpa using hd)
theorem ri_cell {w : World} {p : Option Addr} {n c : Nat} {ls : List Int} (h : Ri w (.slice p n c) ls) {k : Nat} (hk : k < ls.length) : ∃ b o, p = some ⟨b, o, none⟩ ∧ w.cell? ⟨b, o + k, none⟩ = some (.int .i64 (ls.getD k 0)) := by
  obtain ⟨p', c', he, _, _, hp⟩ := ri_form h
  simp only [Value.slice.injEq] at he
  obtain ⟨rfl, _, rfl⟩ := he
  obtain ⟨b, o, e, hc⟩ := hp (by omega)
  exact ⟨b, o, e, hc k hk⟩
theorem wrap_nat (z : Int) : ∃ zu : Nat, IntKind.u64.wrap z = (zu : Int) ∧ zu < 18446744073709551616 := by
  refine ⟨(z % 18446744073709551616).toNat, ?_, by omega⟩
  rw [show ((z % 18446744073709551616).toNat : Int) = z % 18446744073709551616 by omega]
  simp [IntKind.wrap, IntKind.signed, IntKind.bits]
theorem is_at {v : Value} {ws : List Nat} {r : Int} {d : Bool} (w : World) (h : Rw w v ws) (hr : r < 9223372036854775808) (hr0 : -9223372036854775808 ≤ r) (hd : isB ws r = d) :
    Calls Tryd.prog 27 #[v, .int .i64 r] w fun e w' => e = .returned (.bool d) ∧ w' = w := by
  subst hd
  exact (is_any v ws r w h hr hr0).mono fun e w' h => ⟨h.1, h.2.symm⟩
set_option maxRecDepth 100000 in
set_option maxHeartbeats 8000000 in
theorem law_paths (r : RestV) (F : FuncD) (iv rv : Value) (fr : Int) (pv : Value) (ps : List Int) (w : World) (hU : Us w) (hI : Ii w iv F.ins) (hR : Rg w rv F.regions) (hnn : F.ins.length ≤ 1048576) (hnr : F.regions.length ≤ 1048576) (hP : Ri w pv ps) :
    Calls Tryd.prog 6 #[funcV r F iv rv, .int .i64 fr, pv] w fun e w' => e = .returned (.bool true) ∧ Below w.heap.size w w' := by
  have HSO := sound_any r F iv rv
  have HLY := fun hs => live_yes r F iv rv hs hnn
  have HLN := fun hs => live_no r F iv rv hs hnn
  have HWR := rways_any r F iv rv
  obtain ⟨p, c, rfl, _, _, hpi⟩ := ii_form hI
  obtain ⟨p2, c2, rfl, _, _, _⟩ := rg_form hR
  obtain ⟨p3, c3, rfl, _, _, _⟩ := ri_form hP
  unfold funcV SPost at HSO
  unfold funcV LiveY at HLY
  unfold funcV at HLN
  unfold funcV at HWR ⊢
  replace HSO := Lib.hid HSO
  replace HLY := Lib.hid HLY
  replace HLN := Lib.hid HLN
  replace HWR := Lib.hid HWR
  have HPI := Lib.hid hpi
  clear hpi
  have HX := Lib.hid (Box10.new w r F (.slice p F.ins.length c) (.slice p2 F.regions.length c2) 27)
  have HB0 := Lib.hid (show Below w.heap.size w (w.alloc (.cells #[.string r.name, .int .i64 F.params, .int .i64 F.regs, .int .i64 r.frees, .bool r.gen, .int .i64 r.bound, .slice r.np r.nn r.nc, .slice r.cp r.cn r.cc, .slice p F.ins.length c, .slice p2 F.regions.length c2] 27)) from by ((repeat' (first | with_reducible assumption | with_reducible exact Below.refl _ _ | with_reducible refine Below.drew ?_ | with_reducible refine Below.alloc ?_ (by first | omega | (simp; omega) | (simp; done) | fail) _ | with_reducible refine Below.setCell ?_ (by first | omega | (simp; omega) | (simp; done) | fail) _ | fail)); (first | done | fail)))
  have HU := Lib.hid hU
  have HI := Lib.hid hI
  have HR := Lib.hid hR
  have HP := Lib.hid hP
  clear hU hI hR hP
  go_enter Tryd.func6, Tryd.ntmps6
  go_wp2_with (first
    | (go_at_call 14; (with_reducible refine (known10 _ (HU.out.keep (by ((repeat' (first | with_reducible assumption | with_reducible exact Below.refl _ _ | with_reducible refine Below.drew ?_ | with_reducible refine Below.alloc ?_ (by first | omega | (simp; omega) | (simp; done) | fail) _ | with_reducible refine Below.setCell ?_ (by first | omega | (simp; omega) | (simp; done) | fail) _ | fail)); (first | done | fail))))).mono ?_); rintro e wA ⟨rfl, hb⟩; have HA := Lib.hid (HB0.out.trans (hb.mono (by simp))); obtain ⟨x0, x1, x2, x3, x4, x5, x6, x7, x8, x9⟩ := (HX.out.keep hb (by simp)).all; have HXA := Lib.hid (HX.out.keep hb (by simp)); clear hb)
    | fail)
  cases hs : soundB F with
  | true =>
    have HL := Lib.hid (HLY.out hs wA (HU.out.keep HA.out) (HI.out.keep HA.out) (HR.out.keep HA.out))
    have HSF := Lib.hid (soundF hs)
    clear hs
    have hr0 := HSF.out.r0
    have hr1 := HSF.out.r1
    obtain ⟨m, hm⟩ : ∃ m, F.regs.toNat = m := ⟨_, rfl⟩
    have hmk : ∀ wx : World, (Instr.makeSlice 38 (.int .i64 F.regs) (.int .i64 F.regs)).run Tryd.prog wx = .ok (.slice (some ⟨wx.heap.size, 0, none⟩) m m) (wx.alloc (.cells ((List.replicate m false).map Value.bool).toArray 4)) := fun wx => by
      have h := made_bools m (by omega) wx
      rwa [show ((m : Nat) : Int) = F.regs by omega] at h
    have hm64 : m ≤ 65536 := by omega
    have HM := Lib.hid hm
    clear hm
    cases hin : inB fr F.ins.length with
    | false =>
      have hx : fr < 0 ∨ (0 ≤ fr ∧ (F.ins.length : Int) ≤ fr) := by unfold inB at hin; simp at hin; omega
      clear hin hmk
      rcases hx with hx | ⟨hx, hx2⟩
      · go_wp2_with (first
          | (go_at_call 23; (with_reducible refine HL.out.mono ?_); rintro e wB ⟨vL, L, rfl, hRr, hok, hlv, hb⟩; have HB := Lib.hid (HA.out.trans (hb.mono HA.out.size)); obtain ⟨y0, y1, y2, y3, y4, y5, y6, y7, y8, y9⟩ := (HXA.out.keep hb (World.block_lt_of_cell? _ _ HXA.out.c0)).all; obtain ⟨pL, cL, rfl, hLl, hLc⟩ := hRr; rw [show L.length = F.ins.length from hok.len]; clear hb hlv hLc hLl hok)
          | fail)
        go_ret
        exact ⟨rfl, HB.out⟩
      · have hx3 : ¬ fr < 0 := by omega
        go_wp2_with (first
          | (go_at_call 23; (with_reducible refine HL.out.mono ?_); rintro e wB ⟨vL, L, rfl, hRr, hok, hlv, hb⟩; have HB := Lib.hid (HA.out.trans (hb.mono HA.out.size)); obtain ⟨y0, y1, y2, y3, y4, y5, y6, y7, y8, y9⟩ := (HXA.out.keep hb (World.block_lt_of_cell? _ _ HXA.out.c0)).all; obtain ⟨pL, cL, rfl, hLl, hLc⟩ := hRr; rw [show L.length = F.ins.length from hok.len]; clear hb hlv hLc hLl hok)
          | fail)
        go_ret
        exact ⟨rfl, HB.out⟩
    | true =>
      obtain ⟨f0, rfl, hf0⟩ := inB_nat hin
      have hf1 : f0 < F.ins.length := by omega
      have hd1 : decide ((f0 : Int) < 0) = false := by simp
      have hd2 : decide (F.ins.length ≤ f0) = false := by simpa using hf1
      clear hin
      go_wp2_with (first
        | (go_at_call 23; (with_reducible refine HL.out.mono ?_); rintro e wB ⟨vL, L, rfl, hRr, hok, hlv, hb⟩; have HB := Lib.hid (HA.out.trans (hb.mono HA.out.size)); have HXB := Lib.hid (HXA.out.keep hb (World.block_lt_of_cell? _ _ HXA.out.c0)); obtain ⟨y0, y1, y2, y3, y4, y5, y6, y7, y8, y9⟩ := HXB.out.all; obtain ⟨pL, cL, rfl, hLl, hLc⟩ := hRr; rw [show L.length = F.ins.length from hok.len] at hLl hLc ⊢; have HLC := Lib.hid (hLc f0 hf1); have HLV := Lib.hid (hlv f0 hf1); obtain ⟨LF, hLF⟩ : ∃ LF, L.getD f0 [] = LF := ⟨_, rfl⟩; rw [hLF] at HLC HLV; clear hb hlv hLc hLl hok hLF x0 x1 x2 x3 x4 x5 x6 x7 x8 x9)
        | fail)
      go_loopw [10, 11] (fun s10 s11 wx => ∃ (y k : Nat) (wr : List Bool), s10 = .int .i64 y ∧ s11 = .int .i64 k ∧ y < F.ins.length ∧ k ≤ ps.length ∧ wr.length = m ∧ PI (grOf F) f0 y wr ∧ Blk wx wB.heap.size (wr.map Value.bool) 4 ∧ Below wB.heap.size wB wx) (fun _ s11 _ => ps.length - (intOf s11).toNat)
      case atStart => exact ⟨f0, 0, List.replicate m false, rfl, rfl, hf1, Nat.zero_le _, by simp, fun q hq _ => hq, blk_false wB m, (Below.refl _ _).alloc (Nat.le_refl _) _⟩
      case round =>
        obtain ⟨y, k, wr0, rfl, rfl, hy, hk, hwl, hpi, hblk, hb⟩ := hrel
        have HW := Lib.hid hwl
        have HPI2 := Lib.hid hpi
        have HBK := Lib.hid hblk
        have HBW := Lib.hid hb
        have hbl := hblk.lt
        have HBA := Lib.hid (HB.out.trans (hb.mono HB.out.size))
        clear hwl hpi hblk hb
        by_cases hkl : k < ps.length
        · by_cases hk2 : k < 2000
          · obtain ⟨x0, x1, x2, x3, x4, x5, x6, x7, x8, x9⟩ := (HXB.out.keep HBW.out (World.block_lt_of_cell? _ _ HXB.out.c0)).all
            obtain ⟨b, off, rfl, hcell⟩ := HPI.out (by omega)
            obtain ⟨lv, hat⟩ := hcell y hy
            obtain ⟨e0, e1, e2, e3, e4, e5, e6, e7, hll⟩ := hat.keep HBA.out
            have hre : readsD (F.ins.getD y insZ) = ints (readsN F y) := HSF.out.reads_ints hy
            have hrl := readsD_len (F.ins.getD y insZ)
            generalize F.ins.getD y insZ = i at e0 e1 e2 e3 e4 e5 e6 e7 hll hre hrl
            obtain ⟨p7, c7, rfl, _, _, _⟩ := ri_form e7
            have HRD := rreads_any i (.slice p7 i.l.length c7) wr e7 hll
            unfold insV at HRD
            rw [hre] at HRD
            replace HRD := Lib.hid HRD
            have hrn : (readsN F y).length ≤ 17592186044416 := by rw [hre, ints_len] at hrl; omega
            have hkz : (k : Int) < (ps.length : Int) := by omega
            clear hcell hat hre hrl e7
            go_wp2_with (first
              | (go_at_call 26; (with_reducible refine HRD.out.mono ?_); rintro e wC ⟨uC, rfl, hu, hb⟩; obtain ⟨pC, cC, rfl⟩ := own_form hu; rw [ints_len]; have HUC := Lib.hid hu; have HC := Lib.hid hb; have HBK2 := Lib.hid (HBK.out.block (hb.block _ hbl)); clear hu hb x0 x1 x2 x3 x4 x5 x6 x7 x8 x9 e0 e1 e2 e3 e4 e5 e6)
              | fail)
            go_loopw [13] (fun s13 wx => ∃ j : Nat, s13 = .int .i64 j ∧ j ≤ (readsN F y).length ∧ Below wC.heap.size wC wx) (fun s13 _ => (readsN F y).length - (intOf s13).toNat)
            case atStart => exact ⟨0, rfl, Nat.zero_le _, Below.refl _ _⟩
            case round =>
              obtain ⟨j, rfl, hj, hb⟩ := hrel
              have hCW := HC.out.size
              have hBL := Below.trans HBW.out ((HC.out.mono (Nat.le_refl _)).trans (hb.mono hCW) |>.mono HBW.out.size)
              by_cases hjl : j < (readsN F y).length
              · obtain ⟨bC, oC, rfl, hcC⟩ := oi_cell (HUC.out.keep hb) (by rw [ints_len]; exact hrn) (k := j) (by rw [ints_len]; exact hjl)
                obtain ⟨q, hq⟩ : ∃ q, (readsN F y).getD j 0 = q := ⟨_, rfl⟩
                rw [ints_getD, hq] at hcC
                have hqm : q ∈ readsN F y := by rw [← hq, List.getD_eq_getElem?_getD, List.getElem?_eq_getElem hjl]; simp
                have hqr : q < F.regs.toNat := HSF.out.gr.reads_lt y hy q hqm
                rw [HM.out] at hqr
                obtain ⟨bL, oL, u, rfl, hcu, hrw⟩ := HLC.out
                replace hcu := below_cell hBL hcu
                replace hrw := hrw.keep hBL
                obtain ⟨pu, cu, rfl, _, _, _⟩ := rw_form hrw
                have hbk2 : Blk wr (wB.heap.size) (wr0.map Value.bool) 4 := HBK2.out.block (hb.block _ (by omega))
                obtain ⟨d, hd⟩ : ∃ d, wr0.getD q true = d := ⟨_, rfl⟩
                have hcd := hbk2.bool (i := q) (by rw [HW.out]; exact hqr) hd
                have hjz : (j : Int) < ((readsN F y).length : Int) := by omega
                have HRW := Lib.hid hrw
                have HB2 := Lib.hid hb
                have hq64 : (q : Int) < 9223372036854775808 := by omega
                have hqn : (-9223372036854775808 : Int) ≤ q := by omega
                cases d with
                | true =>
                  clear hq hqm hrw hbk2 hd hb hBL hCW
                  go_wp2_with fail
                  go_quiet (fail)
                  go_wp2_with fail
                  go_roundw
                  case rel => exact ⟨j + 1, by go_num, by omega, below_drewN HB2.out _⟩
                  case measure => simp [intOf]; omega
                | false =>
                  have HIS := Lib.hid (show isB LF q = true by rw [isB_nat]; exact (HLV.out q).2 (HPI2.out q (.read hqm) hd))
                  clear hq hqm hrw hbk2 hd hb hBL hCW
                  go_wp2_with fail
                  go_quiet ((go_at_call 27; exact Calls.quiet_of_same (is_at _ (HRW.out.keep (below_drewN (Below.refl _ _) _)) hq64 hqn HIS.out)))
                  go_wp2_with fail
                  go_roundw
                  case rel => exact ⟨j + 1, by go_num, by omega, below_drewN HB2.out _⟩
                  case measure => simp [intOf]; omega
              · have hjz : ¬ (j : Int) < ((readsN F y).length : Int) := by omega
                have hBw := HB.out.trans (hBL.mono HB.out.size)
                have hwBr : wB.heap.size < wr.heap.size := by have := hb.size; omega
                have HBR := Lib.hid hBL
                have HBK3 := Lib.hid (HBK2.out.block (hb.block _ (by omega)))
                have HWY := Lib.hid (HWR.out y wr (HU.out.keep hBw) (HI.out.keep hBw) (HR.out.keep hBw) hy)
                obtain ⟨x0, x1, x2, x3, x4, x5, x6, x7, x8, x9⟩ := (HXB.out.keep hBL (World.block_lt_of_cell? _ _ HXB.out.c0)).all
                have hwl3 := waysD_le F y
                have HBWW := Lib.hid hBw
                clear hb hCW hBL hBw
                by_cases hwe : (waysD F y).length = 0
                · have HWE := Lib.hid hwe
                  go_wp2_with (first
                    | (go_at_call 20; (with_reducible refine HWY.out.mono ?_); rintro e wD ⟨uD, rfl, hwo, hbD⟩; obtain ⟨pD, cD, rfl, hcD⟩ := way_form hwo; rw [HWE.out]; have HBD := Lib.hid hbD; clear hwo hcD hbD)
                    | fail)
                  go_ret
                  exact ⟨rfl, HBWW.out.trans (HBD.out.mono HBWW.out.size)⟩
                · have hwb : (((waysD F y).length : Int) == 0) = false := by rw [beq_eq_false_iff_ne]; omega
                  have hwp : 0 < (waysD F y).length := by omega
                  obtain ⟨bP, oP, rfl, hcP⟩ := ri_cell HP.out hkl
                  obtain ⟨z, hz⟩ : ∃ z, ps.getD k 0 = z := ⟨_, rfl⟩
                  rw [hz] at hcP
                  obtain ⟨zu, hzu, hzl⟩ := wrap_nat z
                  have hxl : zu % (waysD F y).length < (waysD F y).length := Nat.mod_lt _ hwp
                  have hxe : (zu : Int) % ((waysD F y).length : Int) = ((zu % (waysD F y).length : Nat) : Int) := by omega
                  obtain ⟨ix, hix⟩ : ∃ ix, zu % (waysD F y).length = ix := ⟨_, rfl⟩
                  rw [hix] at hxl hxe
                  obtain ⟨tw, ws, hwn, hwd, htw, hws⟩ := HSF.out.at_ hy hxl
                  have HPST := Lib.hid (show PI (grOf F) f0 tw (wrSet wr0 ws) from HPI2.out.step (w := (tw, ws)) (by
                    show (tw, ws) ∈ waysN F y
                    rw [← hwn, List.getD_eq_getElem?_getD, List.getElem?_eq_getElem (by rw [waysN_len]; exact hxl)]
                    simp) (fun r hr => by rw [HW.out]; have := hws r hr; rwa [HM.out] at this))
                  have hwsl : ws.length ≤ 17592186044416 := by
                    have hmem : ((tw : Int), ints ws) ∈ waysD F y := by
                      rw [← hwd, List.getD_eq_getElem?_getD, List.getElem?_eq_getElem hxl]; simp
                    have h1 := ways_wlen F y _ hmem
                    have h2 := ii_len HI.out hy
                    dsimp only at h1
                    rw [ints_len] at h1
                    omega
                  have HWN := Lib.hid hwn
                  have HWS := Lib.hid hws
                  have HWD := Lib.hid hwd
                  clear hz hix hwn hws hwd
                  go_wp2_with (first
                    | (go_at_call 20; (with_reducible refine HWY.out.mono ?_); rintro e wD ⟨uD, rfl, hwo, hbD⟩; obtain ⟨pD, cD, rfl, hcD⟩ := way_form hwo; obtain ⟨bD, uw, rfl, g1, g2, g3⟩ := hcD ix hxl; rw [HWD.out] at g1 g3; obtain ⟨pU, cU, rfl⟩ := own_form g3; rw [ints_len] at g2 g3; have HG3 := Lib.hid g3; have HBD := Lib.hid hbD; have hcP2 := below_cell (HBWW.out.trans (hbD.mono HBWW.out.size)) hcP; clear hwo hcD hbD g3 x0 x1 x2 x3 x4 x5 x6 x7 x8 x9)
                    | fail)
                  have hsD := HBD.out.size
                  have hbkD : Blk wD wB.heap.size (wr0.map Value.bool) 4 := HBK3.out.block (HBD.out.block _ hwBr)
                  have HWE := Lib.hid (show Below wB.heap.size wB (wD.alloc (.cells #[.int .i64 tw, .slice pU ws.length cU] 36)) from (HBR.out.trans (HBD.out.mono HBR.out.size)).alloc (by omega) _)
                  have HBX := Lib.hid (Blk.new wD [.int .i64 tw, .slice pU ws.length cU] 36)
                  have HG4 := Lib.hid (HG3.out.keep ((Below.refl _ _).alloc (Nat.le_refl _) (.cells #[.int .i64 tw, .slice pU ws.length cU] 36)))
                  have HBK4 := Lib.hid (hbkD.block (Below.heap_alloc wD (.cells #[.int .i64 tw, .slice pU ws.length cU] 36) _ (by omega)))
                  clear hbkD
                  go_loopw [16] (fun s16 wx => ∃ j3 : Nat, s16 = .int .i64 j3 ∧ j3 ≤ ws.length ∧ Blk wx wB.heap.size ((wrSet wr0 (ws.take j3)).map Value.bool) 4 ∧ Kw (fun b => b ≠ wB.heap.size) (wD.alloc (.cells #[.int .i64 tw, .slice pU ws.length cU] 36)) wx) (fun s16 _ => ws.length - (intOf s16).toNat)
                  case atStart => exact ⟨0, rfl, Nat.zero_le _, HBK4.out, Kw.refl _ _⟩
                  case round =>
                    obtain ⟨j3, rfl, hj3, hbk5, hkw⟩ := hrel
                    have hbx5 : Blk wr wD.heap.size [.int .i64 tw, .slice pU ws.length cU] 36 := HBX.out.block (hkw.block _ (by omega) (by simp))
                    have b0 := hbx5.cell (i := 0) rfl
                    have b1 := hbx5.cell (i := 1) rfl
                    have hg5 := OW.kw HG4.out hkw (fun g hg => by have := (HG4.out.lt hg).1; omega)
                    have HKW := Lib.hid hkw
                    have HBK5 := Lib.hid hbk5
                    by_cases hj4 : j3 < ws.length
                    · obtain ⟨bU, oU, rfl, hcU⟩ := oi_cell hg5 (by rw [ints_len]; exact hwsl) (k := j3) (by rw [ints_len]; exact hj4)
                      obtain ⟨q, hq⟩ : ∃ q, ws.getD j3 0 = q := ⟨_, rfl⟩
                      rw [ints_getD, hq] at hcU
                      have hqm : q ∈ ws := by rw [← hq, List.getD_eq_getElem?_getD, List.getElem?_eq_getElem hj4]; simp
                      have hqr := HWS.out q hqm
                      rw [HM.out] at hqr
                      have hwl5 : (wrSet wr0 (ws.take j3)).length = m := by rw [wrSet_len, HW.out]
                      obtain ⟨d, hd⟩ : ∃ d, (wrSet wr0 (ws.take j3)).getD q true = d := ⟨_, rfl⟩
                      have hcq := hbk5.bool (i := q) (by rw [hwl5]; exact hqr) hd
                      have hfq := hbk5.frozen q
                      have HTK := Lib.hid (show wrSet wr0 (ws.take (j3 + 1)) = (wrSet wr0 (ws.take j3)).set q true by
                        rw [List.take_succ_eq_append_getElem hj4, wrSet_snoc]
                        rw [List.getD_eq_getElem?_getD, List.getElem?_eq_getElem hj4] at hq
                        simp only [Option.getD_some] at hq
                        rw [hq])
                      have hjz4 : (j3 : Int) < (ws.length : Int) := by omega
                      clear hq hqm hwl5 hd hbk5 hkw hbx5 hg5
                      go_wp2_with fail
                      go_roundw
                      case rel => exact ⟨j3 + 1, by go_num, by omega, by rw [HTK.out, List.map_set]; exact HBK5.out.set q _, HKW.out.setCell _ _ (fun h => h rfl)⟩
                      case measure => simp [intOf]; omega
                    · have hje : j3 = ws.length := by omega
                      have hjz4 : ¬ (j3 : Int) < (ws.length : Int) := by omega
                      rw [hje, List.take_length] at hbk5
                      have HBK6 := Lib.hid hbk5
                      clear hbk5 hkw hbx5 hg5
                      have HBL := Lib.hid (HWE.out.trans (HKW.out.below (n := wB.heap.size) HWE.out.size (fun b hb => by omega)))
                      go_wp2_with fail
                      go_roundw
                      case rel => exact ⟨tw, k + 1, wrSet wr0 ws, by go_num, by go_num, htw, by omega, by rw [wrSet_len, HW.out], HPST.out, HBK6.out, HBL.out⟩
                      case measure => simp [intOf]; omega
          · have hkz : (k : Int) < (ps.length : Int) := by omega
            go_wp2_with fail
            go_ret
            exact ⟨rfl, HBA.out⟩
        · have hkz : ¬ (k : Int) < (ps.length : Int) := by omega
          go_wp2_with fail
          go_ret
          exact ⟨rfl, HBA.out⟩
  | false =>
    have HL := Lib.hid (HLN.out hs wA (HU.out.keep HA.out) (HI.out.keep HA.out) (HR.out.keep HA.out))
    rw [hs] at HSO
    clear hs
    go_wp2_with (first
      | (go_at_call 23; (with_reducible refine HL.out.mono ?_); rintro e wB ⟨rfl, hb⟩; have HB := Lib.hid (HA.out.trans (hb.mono HA.out.size)); obtain ⟨y0, y1, y2, y3, y4, y5, y6, y7, y8, y9⟩ := (HXA.out.keep hb (World.block_lt_of_cell? _ _ HXA.out.c0)).all; clear hb)
      | (go_at_call 15; (with_reducible refine (HSO.out _ (HU.out.keep HB.out) (HI.out.keep HB.out) (HR.out.keep HB.out)).mono ?_); rintro e wC ⟨rfl, hb⟩; have HC := Lib.hid (HB.out.trans (hb.mono HB.out.size)); clear hb)
      | fail)
    go_ret
    exact ⟨rfl, HC.out⟩
end Go.Proofs.YtnniohimbmnapaaDoor
