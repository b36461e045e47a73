/- Layer 2: whole.divLong. Layer 2: whole.divSizes and whole.DivMod by any divisor. Layer 2: whole.DivMod of numbers that are not in form, and by 0. -/
import Derived.Test.YtpebnofjcodikaaGreatDoorPWKnuth
import Derived.Test.YtpebnofjcodikaaGreatDoorPGWj
import Derived.Test.YtpebnofjcodikaaGreatDoorPGWd
import Derived.Deep.RegionHeld3
import Derived.Test.YtpebnofjcodikaaGreatDoorPGWa
namespace Go.Proofs.YtpebnofjcodikaaGreatDoor
section
open Go.ChangeShapes Go.WideShapes Go.ChangeAt Go.RowKit
set_option linter.unusedVariables false
set_option linter.unusedSimpArgs false
theorem sliceU : Tryz.prog.underlying 22 = some (.slice (Tryz.prog.elem 22)) := by kernel_rfl
theorem sizeU : ∀ wx, (sizeOf (Tryz.prog.elem 22)).run Tryz.prog wx = .ok 1 wx := fun wx => by kernel_rfl
theorem drewA_cell {W : World} {a : Addr} {v : Value} (h : W.cell? a = some v) : W.drew.cell? a = some v := h
theorem topv_pos {vt : List Int} {m : Nat} (hd : Dig B18 vt) (hl : vt.length = m + 1) (h : B18 ^ m ≤ val B18 vt) : 0 < vt.getD m 0 := by
  have e : val B18 vt = val B18 (vt.take m) + B18 ^ m * vt.getD m 0 := by
    rw [← val_full B18 (ws := vt) (k := m + 1) (by omega), val_take']
  have h1 := val_lt b18_pos (hd.take b18_pos m)
  rw [List.length_take, Nat.min_eq_left (by omega)] at h1
  have h2 := (hd m).1
  by_cases hz : vt.getD m 0 = 0
  · rw [hz, Int.mul_zero] at e; omega
  · omega
set_option maxRecDepth 100000 in
set_option maxHeartbeats 4000000 in
theorem divLong_any (u1 u2 : Value) (xs ys : List Int) (m : Nat) (w : World) (h1 : Rd w u1 xs) (h2 : Rd w u2 ys) (hx : Dig B18 xs) (hy : Dig B18 ys) (hm : ys.length = m + 1) (htop : 0 < ys.getD m 0)
    (hle : ys.length ≤ xs.length) (hxl : xs.length ≤ 900) : Calls Tryz.prog 117 #[u1, u2] w (DivPost w xs ys) := by
  have HR1 := Lib.hid h1
  have HR2 := Lib.hid h2
  obtain ⟨p1, c1, rfl, hc1, hm1, hp1⟩ := rd_form h1
  obtain ⟨p2, c2, rfl, hc2, hm2, hp2⟩ := rd_form h2
  obtain ⟨b2, o2, rfl, hcell⟩ := hp2 (by omega)
  have hct := hcell m (by omega)
  have hty := hy m
  obtain ⟨top, htp⟩ : ∃ top, ys.getD m 0 = top := ⟨_, rfl⟩
  rw [htp] at hct hty htop
  rw [B18] at hty
  have HTP := Lib.hid htp
  have HX := Lib.hid hx
  have HY := Lib.hid hy
  have hyl : (ys.length : Int) - 1 = (m : Int) := by omega
  obtain ⟨sc, hsc⟩ : ∃ sc, 1000000000000000000 / (top + 1) = sc := ⟨_, rfl⟩
  have hq0 : ¬ top + 1 = 0 := by omega
  have hsc1 : IntKind.u64.wrap ((1000000000000000000 : Int).tdiv (top + 1)) = sc := by
    rw [Int.tdiv_eq_ediv_of_nonneg (by decide), hsc, IntKind.wrap_u64]
    have := Int.ediv_le_self (top + 1) (show (0 : Int) ≤ 1000000000000000000 by decide)
    have := Int.ediv_nonneg (show (0 : Int) ≤ 1000000000000000000 by decide) (show 0 ≤ top + 1 by omega)
    omega
  have hscm := Int.mul_ediv_add_emod 1000000000000000000 (top + 1)
  have hscr := Int.emod_nonneg 1000000000000000000 hq0
  have hsb : 0 ≤ sc ∧ sc < B18 := by
    have h1 := scale_pos (top := top) hty.1 (by rw [B18]; omega)
    rw [B18, hsc] at h1
    have h2 := Int.mul_le_mul_of_nonneg_right (show 2 ≤ top + 1 by omega) (show 0 ≤ sc by omega)
    rw [B18]; omega
  clear h1 h2 hp1 hp2 hcell hx hy htp
  have HM1 := Lib.hid (mulSizes_any (.slice (some ⟨b2, o2, none⟩) (m + 1) c2) (.slice (some ⟨w.heap.size, 0, none⟩) 1 1) ys [sc] (w.alloc (.cells #[.int .u64 sc] 25))
    (by rw [← hm]; exact HR2.out.alloc _)
    (Mine.rd (LR.mine (k := .u64) (T := 25) (ws := [sc]) (heap_alloc_new w _) (Nat.le_refl _)) (by simp))
    HY.out (Dig.cons hsb (Dig.nil (by decide))) (by omega) (by simp))
  have HSB := Lib.hid hsb
  have HBA := Lib.hid (show Below w.heap.size w (w.alloc (.cells #[.int .u64 sc] 25)) from (Below.refl _ _).alloc (Nat.le_refl _) _)
  have HSA := Lib.hid (show w.heap.size ≤ (w.alloc (.cells #[.int .u64 sc] 25)).heap.size from HBA.out.size)
  clear hsb hscm hscr
  go_enter Tryz.func117, Tryz.ntmps117
  go_wp2_with (go_at_call 85; (refine HM1.out.mono ?_; rintro e w1 ⟨gv, vs, rfl, hg1, hv1, hvl, hvd, hvv, hb1⟩; clear HM1; have HV1 := Lib.hid hv1; have HVD := Lib.hid hvd; have HVV := Lib.hid hvv; have HB1 := Lib.hid (HBA.out.trans (hb1.mono HSA.out)); have HG1 := Lib.hid (Nat.le_trans HSA.out hg1); have hvl2 : vs.length = m + 1 + 1 := (by rw [hvl, hm]; rfl); have hvl3 : (vs.length : Int) = (m : Int) + 1 + 1 := (by omega); clear hv1 hvd hvv hb1 hg1 hvl))
  obtain ⟨L, hL⟩ : ∃ L, xs.length = L + m := ⟨xs.length - m, by omega⟩
  have hsub : (xs.length : Int) + 1 - ((m : Int) + 1) = (L : Int) := by omega
  have HLE := Lib.hid hL
  have hmk := run_make_row' (P := Tryz.prog) 22 25 (.int .u64 0) 8 Tryz.underlying22 infoU64 rfl .i64 .i64 L (by omega) (by omega)
  clear hL
  have HBB := Lib.hid (show Below w1.heap.size w1 (w1.alloc (.cells #[.int .u64 sc] 25)) from (Below.refl _ _).alloc (Nat.le_refl _) _)
  have HM2 := Lib.hid (mulSizes_any (.slice p1 xs.length c1) (.slice (some ⟨w1.heap.size, 0, none⟩) 1 1) xs [sc] (w1.alloc (.cells #[.int .u64 sc] 25))
    ((HR1.out.keep HB1.out).alloc _)
    (Mine.rd (LR.mine (k := .u64) (T := 25) (ws := [sc]) (heap_alloc_new w1 _) (Nat.le_refl _)) (by simp))
    HX.out (Dig.cons HSB.out (Dig.nil (by decide))) (by omega) (by simp))
  go_wp2_with (go_at_call 85; (refine HM2.out.mono ?_; rintro e w2 ⟨gu, us, rfl, hg2, hu1, hul, hud, huv, hb2⟩; clear HM2; have HU1 := Lib.hid hu1; have HUD := Lib.hid hud; have HUV := Lib.hid huv; have HB2 := Lib.hid (HBB.out.trans (hb2.mono HBB.out.size)); have HG2 := Lib.hid (Nat.le_trans HBB.out.size hg2); have hul2 : us.length = xs.length + 1 := (by rw [hul]; rfl); have hul3 : (us.length : Int) = (xs.length : Int) + 1 := (by omega); clear hu1 hud huv hb2 hg2 hul; have HGG := Lib.hid (show LU (w2.alloc (.cells (madeCells #[Value.int .u64 0] L) 25)) w2.heap.size (List.replicate L 0) from LR.made (k := .u64) (T := 25) w2 L); have HBC := Lib.hid (show Below w2.heap.size w2 (w2.alloc (.cells (madeCells #[Value.int .u64 0] L) 25)) from (Below.refl _ _).alloc (Nat.le_refl _) _)))
  obtain ⟨vt, hvt⟩ : ∃ vt, vs.take (m + 1) = vt := ⟨_, rfl⟩
  have hvtl : vt.length = m + 1 := by rw [← hvt, List.length_take]; omega
  have hvtd : Dig B18 vt := by rw [← hvt]; exact HVD.out.take b18_pos _
  have hvs : val B18 vs = val B18 ys * sc := by rw [HVV.out, val_one]
  have hvtv : val B18 vt = val B18 ys * sc := by
    rw [← hvs, ← hvt]
    exact cut_fits HVD.out hvl2 (by rw [hvs]; exact scale_fits HY.out hm (by rw [HTP.out, B18]; exact hsc))
  have huv : val B18 us = val B18 xs * sc := by rw [HUV.out, val_one]
  have hsp : 0 < sc := by have := scale_pos (top := top) hty.1 (by rw [B18]; omega); rw [B18, hsc] at this; exact this.1
  have HVP := Lib.hid (show 0 < vt.getD m 0 from topv_pos hvtd hvtl (by
    have h1 := (val_top HY.out hm).1
    rw [HTP.out] at h1
    have h2 := Int.mul_le_mul_of_nonneg_right (show 1 ≤ top by omega) (show 0 ≤ B18 ^ m by have := pow_b18 m; omega)
    have h3 := Int.mul_le_mul_of_nonneg_left (show 1 ≤ sc by omega) (show 0 ≤ val B18 ys by have := pow_b18 m; omega)
    rw [hvtv]; omega))
  have HVC := Lib.hid (show ∀ wx, LU wx gv vs → ∀ i, i < vt.length → wx.cell? ⟨gv, 0 + i, none⟩ = some (.int .u64 (vt.getD i 0)) from fun wx h i hi => by
    rw [hvtl] at hi
    rw [Nat.zero_add, h.cell (by omega), ← hvt, getD_takeD, if_pos hi])
  have HPS := Lib.hid (show PlaceState vt (val B18 us) L (List.replicate L 0) us L from PlaceState.start (by rw [hul2, HLE.out, hvtl]; omega) HUD.out (by rw [huv, hvtv]; exact scale_start HX.out HY.out hm (by rw [HTP.out]; exact htop) hsp HLE.out))
  have hgu2 := HU1.out.lt
  have HUA := Lib.hid (HU1.out.keep HBC.out)
  have HVT := Lib.hid hvt
  have HVTD := Lib.hid hvtd
  have HVTV := Lib.hid hvtv
  have HUV2 := Lib.hid huv
  have HVTL := Lib.hid hvtl
  clear hvt hvtl hvtd hvs hvtv huv HUV HUD HU1
  go_loopw [45] (fun s wr => ∃ (i k : Nat) (qs os : List Int), s = .int .i64 i ∧ i + k = L ∧ PlaceState vt (val B18 us) L qs os k ∧ LU wr gu os ∧ LU wr w2.heap.size qs ∧ Below gu w2 wr) (fun s _ => L - (intOf s).toNat)
  case atStart => exact ⟨0, L, _, _, by go_num, by omega, HPS.out, HUA.out, HGG.out, HBC.out.mono (by omega)⟩
  case round =>
    obtain ⟨i, k, qs, os, rfl, hik, hP, hO, hQ, hB⟩ := hrel
    have HP := Lib.hid hP
    have HO := Lib.hid hO
    have HQ := Lib.hid hQ
    have HB := Lib.hid hB
    have hol : os.length = xs.length + 1 := by rw [hP.ul, HLE.out, HVTL.out]; omega
    have hql := hP.ql
    have HOL := Lib.hid hol
    have HQL := Lib.hid hql
    by_cases hlt : i < L
    · obtain ⟨p, rfl⟩ : ∃ p, k = p + 1 := ⟨k - 1, by omega⟩
      have hiz : (i : Int) < (L : Int) := by omega
      have hpz : (L : Int) - 1 - (i : Int) = (p : Int) := by omega
      have hpn : p + (m + 1) < xs.length + 1 := by have := HLE.out; omega
      have hgvu : gv < gu := Nat.lt_of_lt_of_le HV1.out.lt HG2.out
      have HVW := Lib.hid (show LU wr gv vs from (HV1.out.keep HB2.out).block (HB.out.block gv hgvu))
      have hc1x := hO.cell (i := p + (m + 1)) (by omega)
      have hc2x := hO.cell (i := p + m) (by omega)
      have hc3x := HVW.out.cell (i := m) (by omega)
      obtain ⟨uh, huh⟩ : ∃ uh, os.getD (p + (m + 1)) 0 = uh := ⟨_, rfl⟩
      obtain ⟨ul, hul⟩ : ∃ ul, os.getD (p + m) 0 = ul := ⟨_, rfl⟩
      obtain ⟨vd, hvd⟩ : ∃ vd, vs.getD m 0 = vd := ⟨_, rfl⟩
      have hvd2 : vt.getD m 0 = vd := by rw [← HVT.out, getD_takeD, if_pos (by omega), hvd]
      have huhb : 0 ≤ uh ∧ uh < B18 := by rw [← huh]; exact hP.ud _
      have hulb : 0 ≤ ul ∧ ul < B18 := by rw [← hul]; exact hP.ud _
      have hvdb : 0 < vd ∧ vd < B18 := by rw [← hvd2]; exact ⟨HVP.out, (HVTD.out m).2⟩
      rw [huh] at hc1x
      rw [hul] at hc2x
      rw [hvd] at hc3x
      have HUH := Lib.hid huh
      have HUL := Lib.hid hul
      have HVDD := Lib.hid hvd2
      have HHI := Lib.hid hik
      have HGC := Lib.hid (guessPlace_any uh ul vd huhb hulb hvdb)
      clear hP hO hQ hB hol hql hik huh hul hvd hvd2 huhb hulb hvdb
      go_wp2_with fail
      have s1 : IntKind.i64.wrap ((p : Int) + ((m : Int) + 1)) = (p : Int) + ((m : Int) + 1) := IntWalk.i64_in _ (by omega)
      have s2 : IntKind.i64.wrap ((p : Int) + ((m : Int) + 1) - 1) = (p : Int) + (m : Int) := by rw [IntWalk.i64_in _ (by omega)]; omega
      have s3 : IntKind.i64.wrap ((m : Int) + 1 - 1) = (m : Int) := by rw [IntWalk.i64_in _ (by omega)]; omega
      have s4 : IntKind.i64.wrap (m : Int) = (m : Int) := IntWalk.i64_in _ (by omega)
      have a3 : (0 : Int) ≤ (m : Int) := by omega
      have b3 : (m : Int) < (m : Int) + 1 := by omega
      have t1 : ((p : Int) + ((m : Int) + 1)).toNat = p + (m + 1) := by omega
      have t2 : ((p : Int) + (m : Int)).toNat = p + m := by omega
      have a1 : 0 ≤ (p : Int) + ((m : Int) + 1) := by omega
      have a2 : 0 ≤ (p : Int) + (m : Int) := by omega
      have b1 : (p : Int) + ((m : Int) + 1) < (xs.length : Int) + 1 := by omega
      have b2 : (p : Int) + (m : Int) < (xs.length : Int) + 1 := by omega
      go_region_held3 (fun w' => w'.cell? ⟨gu, p + (m + 1), none⟩ = some (.int .u64 uh) ∧ w'.cell? ⟨gu, p + m, none⟩ = some (.int .u64 ul) ∧ w'.cell? ⟨gv, m, none⟩ = some (.int .u64 vd))
        ((repeat' apply And.intro) <;> (first | with_reducible assumption | with_reducible exact drewA_cell (by assumption)))
        (first
          | (go_at_call 142; (with_reducible refine (HGC.out _).mono ?_); rintro e w3 ⟨g, rfl, hg0, hg1, hgg, hb3⟩; have HG3 := Lib.hid hgg; have k1 := below_cell hb3 (drewA_cell hc1x); have k2 := below_cell hb3 (drewA_cell hc2x); have k3 := below_cell hb3 (drewA_cell hc3x); clear hgg))
      have hb3' : Below wr.heap.size wr w3 := (show Below wr.heap.size wr wr.drew from (Below.refl _ _).drew).trans hb3
      have HBW := Lib.hid (HB.out.trans (hb3'.mono (show gu ≤ wr.heap.size from Nat.le_of_lt HO.out.lt)))
      have HO3 := Lib.hid (HO.out.keep hb3')
      have HQ3 := Lib.hid (HQ.out.keep hb3')
      have HV3 := Lib.hid (HVW.out.keep hb3')
      clear hb3 hb3' k1 k2 k3 hc1x hc2x hc3x s1 s2 s3 s4 t1 t2 a1 a2 a3 b1 b2 b3 HO HQ HB HVW
      obtain ⟨o', ho, hsl⟩ := sl_mid (P := Tryz.prog) 22 sliceU sizeU gu 0 (xs.length + 1) (xs.length + 1) p (m + 1 + 1) (by omega)
      obtain rfl : o' = p := by have := ho (by omega); omega
      have hsl2 : ∀ wx, (Instr.slice 22 (.slice (some ⟨gu, 0, none⟩) (xs.length + 1) (xs.length + 1)) (some (.int .i64 (o' : Int))) (some (.int .i64 ((o' : Int) + ((m : Int) + 1) + 1))) none).run Tryz.prog wx = .ok (.slice (some ⟨gu, o', none⟩) (m + 1 + 1) (xs.length + 1 - o')) wx := by
        intro wx
        have := hsl wx
        rwa [show ((o' : Int) + ((m + 1 + 1 : Nat) : Int)) = (o' : Int) + ((m : Int) + 1) + 1 by omega] at this
      clear hsl ho
      have hvl := HVTL.out
      have hol := HOL.out
      have HTK := Lib.hid (show Calls Tryz.prog 143 #[.slice (some ⟨gu, o', none⟩) (m + 1 + 1) (xs.length + 1 - o'), .slice (some ⟨gv, 0, none⟩) (m + 1) (m + 1 + 1), .int .u64 g] w3 (TakePost w3 gu os vt o' g) from by
        have h := takeTimes_any gu o' (xs.length + 1 - o') gv 0 (m + 1 + 1) os vt g w3 HO3.out HP.out.ud (by omega) (by omega) (by omega) HVTD.out ⟨hg0, hg1⟩ (by omega) hgvu (HVC.out w3 HV3.out)
        rwa [Int.toNat_natCast, hvl] at h)
      have HGV := Lib.hid (show ∀ (wx : World) (os2 : List Int), LU wx gv vs → LU wx gu os2 → os2.length = os.length → Dig B18 os2 → Calls Tryz.prog 144 #[.slice (some ⟨gu, o', none⟩) (m + 1 + 1) (xs.length + 1 - o'), .slice (some ⟨gv, 0, none⟩) (m + 1) (m + 1 + 1)] wx (GivePost wx gu os2 vt o' (vt.length + 1)) from by
        intro wx os2 h1 h2 h3 h4
        have h := giveBack_any gu o' (m + 1 + 1) (xs.length + 1 - o') gv 0 (m + 1 + 1) os2 vt wx h2 h4 (by omega) (by omega) (by omega) HVTD.out (by omega) (by omega) hgvu (HVC.out wx h1)
        rwa [hvl] at h ⊢)
      have HW := Lib.hid (show win os o' vt.length < (g + 1) * val B18 vt from HP.out.guess (by have := HHI.out; omega) hvl HVTD.out hg0 (by rw [hvl, HVDD.out, HUH.out, HUL.out]; exact HG3.out))
      rw [B18] at hg1
      clear hvl hol HG3
      go_wp2_with (go_at_call 143; (refine HTK.out.mono ?_; rintro e w4 ⟨c, os2, rfl, hc0, hc1, hl2, hd2, hs2, hD2, hL2, hO2⟩; have HS4 := Lib.hid (show ShortState os vt os2 o' g c from ShortState.start hl2 hd2 hs2 hD2 HW.out); have HL4 := Lib.hid hL2; have HV4 := Lib.hid (hO2.row HV3.out (Nat.ne_of_lt hgvu)); have HQ4 := Lib.hid (hO2.row HQ3.out (Nat.ne_of_gt hgu2)); have HB4 := Lib.hid (HBW.out.trans hO2.below); clear hl2 hd2 hs2 hD2 hL2 hO2))
      clear HTK HW HO3 HV3 HQ3 HBW
      go_loopw [13, 14] (fun gs ss wx => ∃ (g s : Int) (os2 : List Int), gs = .int .u64 g ∧ ss = .bool (decide (s = 1)) ∧ 0 ≤ g ∧ g < 1000000000000000000 ∧ 0 ≤ s ∧ s ≤ 1 ∧ ShortState os vt os2 o' g s ∧ LU wx gu os2 ∧ LU wx gv vs ∧ LU wx w2.heap.size qs ∧ Below gu w2 wx) (fun gs _ _ => (intOf gs).toNat)
      case atStart => exact ⟨g, c, os2, rfl, rfl, hg0, hg1, hc0, hc1, HS4.out, HL4.out, HV4.out, HQ4.out, HB4.out⟩
      case round =>
        clear hg0 hg1 hc0 hc1 HS4 HL4 HV4 HQ4 HB4
        obtain ⟨g, s, os2, rfl, rfl, hg0, hg1, hs0, hs1, hS, hL, hV, hQ, hB⟩ := hrel
        have HS := Lib.hid hS
        have HL := Lib.hid hL
        have HV := Lib.hid hV
        have HQ := Lib.hid hQ
        have HB := Lib.hid hB
        have hl2 := hS.len
        have HL2 := Lib.hid hl2
        clear hS hL hV hQ hB hl2
        by_cases he : s = 1
        · subst he
          have hgp : 1 ≤ g := HS.out.pos (by have := HVTL.out; have := HOL.out; omega) HP.out.ud (by rw [HVTV.out]; have h1 := (val_top HY.out hm).1; rw [HTP.out] at h1; have h2 := Int.mul_le_mul_of_nonneg_right (show 1 ≤ top by omega) (show 0 ≤ B18 ^ m by have := pow_b18 m; omega); exact Int.mul_pos (by have := pow_b18 m; omega) hsp)
          have hw1 : IntKind.u64.wrap (g - 1) = g - 1 := by rw [IntKind.wrap_u64]; omega
          have HGG2 := Lib.hid (HGV.out _ os2 HV.out HL.out HL2.out HS.out.dig)
          go_wp2_with (go_at_call 144; (refine HGG2.out.mono ?_; rintro e w5 ⟨c2, os3, rfl, hd0, hd1, hG, hL5, hO5⟩; have HS5 := Lib.hid (HS.out.next (by have := HVTL.out; have := HOL.out; omega) HP.out.ud (by rw [HVTV.out]; have h1 := (val_top HY.out hm).1; rw [HTP.out] at h1; have h2 := Int.mul_le_mul_of_nonneg_right (show 1 ≤ top by omega) (show 0 ≤ B18 ^ m by have := pow_b18 m; omega); exact Int.mul_pos (by have := pow_b18 m; omega) hsp) hG); have HL5 := Lib.hid hL5; have HV5 := Lib.hid (hO5.row HV.out (Nat.ne_of_lt hgvu)); have HQ5 := Lib.hid (hO5.row HQ.out (Nat.ne_of_gt hgu2)); have HB5 := Lib.hid (HB.out.trans hO5.below); clear hG hL5 hO5))
          go_roundw
          case rel =>
            refine ⟨g - 1, 1 - c2, os3, rfl, ?_, by omega, by omega, by omega, by omega, HS5.out, HL5.out, HV5.out, HQ5.out, HB5.out⟩
            by_cases hz : c2 = 1
            · subst hz; simp
            · obtain rfl : c2 = 0 := by omega
              simp
          case measure => simp [intOf]; omega
        · obtain rfl : s = 0 := by omega
          have hqc := HQ.out.cell (i := o') (by have := HHI.out; have := HQL.out; omega)
          have hqf := HQ.out.frozen o'
          have hoL : o' < L := by have := HHI.out; omega
          have hoz : (o' : Int) < (L : Int) := by omega
          go_wp2_with fail
          go_roundw
          case rel => exact ⟨i + 1, o', _, os2, by go_num, by have := HHI.out; omega, HP.out.step hoL HVTD.out HS.out ⟨hg0, by rw [B18]; exact hg1⟩, HL.out.block (Below.heap_setCell _ _ _ _ (by simpa using Nat.ne_of_lt hgu2)), HQ.out.set o' g, HB.out.setCell (Nat.le_of_lt hgu2) _⟩
          case measure => simp [intOf]; omega
    · obtain rfl : i = L := by omega
      obtain rfl : k = 0 := by omega
      have hP := HP.out
      have hvl := HVTL.out
      have hz : ∀ j, m + 1 ≤ j → os.getD j 0 = 0 := fun j hj => hP.uz j (by omega)
      have HVR := Lib.hid (val_cut B18 hz)
      have HDR := Lib.hid (hP.ud.take b18_pos (m + 1))
      have hln : (os.take (m + 1)).length = m + 1 := by rw [List.length_take]; omega
      have HRU := Lib.hid (show Rd wr (.slice (some ⟨gu, 0, none⟩) (m + 1) (xs.length + 1)) (os.take (m + 1)) from (show Rd wr (.slice (some ⟨gu, 0, none⟩) (xs.length + 1) (xs.length + 1)) os from by have h := Mine.rd (LR.mine HO.out (Nat.le_refl _)) (by omega); rwa [hol] at h).take (m + 1) (by omega))
      have HDL := Lib.hid (divLimb_any _ _ sc wr HRU.out HDR.out ⟨hsp, HSB.out.2⟩ (fun wx hi lo h0 h1 h2 h3 _ => div64_all hi lo sc ⟨h0, h1⟩ (by have := HSB.out.2; rw [B18] at this; omega) ⟨h2, h3⟩ wx))
      clear hP hO hQ hB hol hql hik hz hvl
      go_wp2_with (go_at_call 116; (refine HDL.out.mono ?_; rintro e w6 ⟨g6, qs6, r6, rfl, hg6, hL6, hl6, hd6, hv6, hr0, hr1, hb6⟩; have HL6 := Lib.hid hL6; have HD6 := Lib.hid hd6; have HV6 := Lib.hid hv6; have HB6 := Lib.hid hb6; have HG6 := Lib.hid hg6; have HLL := Lib.hid hl6; clear hL6 hd6 hv6 hb6 hg6 hl6))
      have hP := HP.out
      have hvl := HVTL.out
      have hlt6 := hP.lt
      rw [Int.pow_zero, Int.mul_one, HVTV.out] at hlt6
      have heq6 := hP.eq
      rw [HVTV.out, HUV2.out] at heq6
      have hsc6 := scale_end hsp heq6 (val_nonneg b18_pos hP.ud) hlt6 (by rw [← HVR.out]; exact HV6.out) hr0 hr1
      have hB6 : Below w.heap.size w w6 := (((HB1.out.trans (HB2.out.mono HB1.out.size)).trans (HB.out.mono (Nat.le_trans HB1.out.size HG2.out))).trans (HB6.out.mono (Nat.le_trans (Nat.le_trans HB1.out.size HB2.out.size) HB.out.size)))
      have hQ6 : MR w6 w.heap.size g6 (.slice (some ⟨w2.heap.size, 0, none⟩) qs.length qs.length) qs := (MR.keep (MU.mr (LR.mine HQ.out (show w.heap.size ≤ w2.heap.size by have := HB1.out.size; have := HB2.out.size; omega))) HB6.out).hi HG6.out
      go_ret2
      exact ⟨.slice (some ⟨w2.heap.size, 0, none⟩) qs.length qs.length, qs, g6, qs6, by rw [HQL.out]; rfl, hQ6, HL6.out, by have := HG6.out; have := HB1.out.size; have := HB2.out.size; have := HB.out.size; omega, hP.qd, HD6.out, by have := HQL.out; have := HLE.out; omega, by have := HLL.out; omega, hsc6.1, hsc6.2, hB6⟩
end
section
open Go.ChangeShapes Go.WideShapes Go.ChangeAt Go.RowKit
set_option linter.unusedVariables false
set_option linter.unusedSimpArgs false
set_option maxRecDepth 100000 in
set_option maxHeartbeats 2000000 in
theorem divSizes_less (u1 u2 : Value) (xs ys : List Int) (w : World) (h1 : Rd w u1 xs) (h2 : Rd w u2 ys) (hx : Canon B18 xs) (hy : Canon B18 ys) (hxl : xs.length ≤ 900) (hlt : val B18 xs < val B18 ys) :
    Calls Tryz.prog 88 #[u1, u2] w (DivPost w xs ys) := by
  have HR1 := Lib.hid h1
  have HR2 := Lib.hid h2
  obtain ⟨p1, c1, rfl, hc1, hm1, hp1⟩ := rd_form h1
  obtain ⟨p2, c2, rfl, hc2, hm2, hp2⟩ := rd_form h2
  have HP1 := Lib.hid hp1
  have HX := Lib.hid hx.1
  have HLT := Lib.hid hlt
  have HC := Lib.hid (show Calls Tryz.prog 64 #[.slice p1 xs.length c1, .slice p2 ys.length c2] w (CmpPost w (-1)) from by
    have h := cmpSizes_any _ _ xs ys w HR1.out HR2.out hx hy
    rwa [cmpI_lt hlt] at h)
  have hmk := run_make_row' (P := Tryz.prog) 22 25 (.int .u64 0) 8 Tryz.underlying22 infoU64 rfl .i64 .i64 xs.length (by omega) (by omega)
  clear h1 h2 hc1 hc2 hp1 hp2 hx hy hlt
  go_enter Tryz.func88, Tryz.ntmps88
  go_wp2_with (first
   | (go_at_call 64; (with_reducible refine (HC.out).mono ?_); rintro e wa ⟨rfl, hba⟩; have HBA := Lib.hid hba; clear hba; have HSR := Lib.hid (show ∀ o, 0 < xs.length → ∃ b off, p1 = some ⟨b, off, none⟩ ∧ ∀ i, i < xs.length → (wa.alloc o).cell? ⟨b, off + i, none⟩ = some (.int .u64 (xs.getD i 0)) from fun o h => by
    obtain ⟨b, off, e, hx⟩ := HP1.out h
    exact ⟨b, off, e, fun i hi => alloc_cell (below_cell HBA.out (hx i hi)) _⟩); have HGG := Lib.hid (show (wa.alloc (.cells (madeCells #[Value.int .u64 0] xs.length) 25)).heap[wa.heap.size]? = some (.cells ((List.replicate (xs.length + 0) (0 : Int)).map (Value.int .u64)).toArray 25 (0, 0)) from LR.made (k := .u64) (T := 25) wa xs.length); have HBB := Lib.hid (show Below wa.heap.size wa (wa.alloc (.cells (madeCells #[Value.int .u64 0] xs.length) 25)) from (Below.refl _ _).alloc (Nat.le_refl _) _))
   | (with_reducible refine wpList_copy_splice rfl (.tmp 16) (.tmp 17) 22 22 rfl 25 Tryz.underlying22 sizeU64 (some ⟨wa.heap.size, 0, none⟩) p1 xs.length xs.length xs.length c1 rfl rfl wa.heap.size 0 _ 25 HGG.out (xs.map (Value.int .u64)) (by simp) (fun h0 => ⟨rfl, src_cells (HSR.out _) h0⟩) (fit_len xs 0) (one_cells xs) wa.heap.size wa HBB.out (Nat.le_refl _) ?_; intro w1 hrow hb1; have HL := Lib.hid (LU.of_splice (m := 0) rfl hrow); have HB1 := Lib.hid hb1; clear hrow hb1))
  have hL : LU w1 wa.heap.size xs := by have := HL.out; simpa using this
  have hB := HBA.out.trans (HB1.out.mono HBA.out.size)
  go_ret2
  exact ⟨_, [], wa.heap.size, xs, rfl, .inl ⟨rfl, rfl⟩, hL, HBA.out.size, Dig.nil b18_pos, HX.out, by simp, by omega, by simp [val], HLT.out, hB⟩
set_option maxRecDepth 100000 in
set_option maxHeartbeats 2000000 in
theorem divSizes_long (u1 u2 : Value) (xs ys : List Int) (w : World) (h1 : Rd w u1 xs) (h2 : Rd w u2 ys) (hx : Canon B18 xs) (hy : Canon B18 ys) (hxl : xs.length ≤ 900) (hyl : ys.length ≤ 900) (hy1 : 2 ≤ ys.length) (hlt : ¬ val B18 xs < val B18 ys) :
    Calls Tryz.prog 88 #[u1, u2] w (DivPost w xs ys) := by
  have HR1 := Lib.hid h1
  have HR2 := Lib.hid h2
  obtain ⟨p1, c1, rfl, hc1, hm1, hp1⟩ := rd_form h1
  obtain ⟨p2, c2, rfl, hc2, hm2, hp2⟩ := rd_form h2
  obtain ⟨m, hm⟩ : ∃ m, ys.length = m + 1 := ⟨ys.length - 1, by omega⟩
  have htop : 0 < ys.getD m 0 := by
    have a := (hy.1 m).1
    have b := hy.2 (by omega)
    rw [hm, Nat.add_sub_cancel] at b
    omega
  have hle : ys.length ≤ xs.length := len_le hy hx (by omega)
  have hcl : ¬ cmpI (val B18 xs) (val B18 ys) < 0 := by unfold cmpI; (repeat' split) <;> omega
  have HC := Lib.hid (cmpSizes_any _ _ xs ys w HR1.out HR2.out hx hy)
  have HD := Lib.hid (fun wx (hb : Below w.heap.size w wx) => divLong_any _ _ xs ys m wx (HR1.out.keep hb) (HR2.out.keep hb) hx.1 hy.1 hm htop hle hxl)
  generalize cmpI (val B18 xs) (val B18 ys) = cc at hcl HC
  have hne : ((ys.length : Int) == 1) = false := by rw [beq_eq_false_iff_ne]; omega
  clear h1 h2 hp1 hp2 hx hy hlt hm htop hle
  go_enter Tryz.func88, Tryz.ntmps88
  go_wp2_with (first
   | (go_at_call 64; (with_reducible refine (HC.out).mono ?_); rintro e wa ⟨rfl, hba⟩; have HBA := Lib.hid hba; clear hba)
   | (go_at_call 117; (with_reducible refine (HD.out _ HBA.out).mono ?_); rintro e wb ⟨uq, qs, gr, rs, rfl, a1, a2, a3, a4, a5, a6, a7, a8, a9, a10⟩; have K1 := Lib.hid (a1.lo HBA.out.size); have K2 := Lib.hid a2; have K3 := Lib.hid (Nat.le_trans HBA.out.size a3); have K4 := Lib.hid a4; have K5 := Lib.hid a5; have K6 := Lib.hid a6; have K7 := Lib.hid a7; have K8 := Lib.hid a8; have K9 := Lib.hid a9; have K10 := Lib.hid (HBA.out.trans (a10.mono HBA.out.size)); clear a1 a2 a3 a4 a5 a6 a7 a8 a9 a10))
  go_ret2
  exact ⟨_, qs, gr, rs, rfl, K1.out, K2.out, K3.out, K4.out, K5.out, K6.out, K7.out, K8.out, K9.out, K10.out⟩
theorem divSizes_any (u1 u2 : Value) (xs ys : List Int) (w : World) (h1 : Rd w u1 xs) (h2 : Rd w u2 ys) (hx : Canon B18 xs) (hy : Canon B18 ys) (hxl : xs.length ≤ 900) (hyl : ys.length ≤ 900) (hy0 : 0 < ys.length) :
    Calls Tryz.prog 88 #[u1, u2] w (DivPost w xs ys) := by
  by_cases hlt : val B18 xs < val B18 ys
  · exact divSizes_less u1 u2 xs ys w h1 h2 hx hy hxl hlt
  · by_cases hl1 : ys.length = 1
    · obtain ⟨d, rfl⟩ : ∃ d, ys = [d] := by
        match ys, hl1 with
        | [d], _ => exact ⟨d, rfl⟩
      have hd : 0 < d ∧ d < B18 := by
        have a := hy.1 0
        have b := hy.2 hy0
        simp at a b
        omega
      refine divSizes_one u1 u2 xs d w h1 h2 hx.1 (by omega) hd (by unfold cmpI; (repeat' split) <;> omega) hx hy (fun wx hi lo h0 h1 h2 h3 _ => div64_all hi lo d ⟨h0, h1⟩ (by have := hd.2; rw [B18] at this; omega) ⟨h2, h3⟩ wx)
    · exact divSizes_long u1 u2 xs ys w h1 h2 hx hy hxl hyl (by omega) hlt
/-- DivMod of numbers in form, by one that is not 0. -/
theorem div_good2 (n1 : Bool) (u1 : Value) (xs : List Int) (z1 : Int) (n2 : Bool) (u2 : Value) (ys : List Int) (z2 : Int) (w : World) (hr1 : Rd w u1 xs) (hr2 : Rd w u2 ys) (hs1 : Sgn B18 n1 xs z1) (hs2 : Sgn B18 n2 ys z2) (hl1 : xs.length ≤ 30) (hl2 : ys.length ≤ 30) (hy : 0 < ys.length) :
    Calls Tryz.prog 51 #[.agg #[.bool n1, u1], .agg #[.bool n2, u2]] w (DMPost2 w z1 z2) :=
  div_walk2 n1 u1 xs z1 n2 u2 ys z2 w hr1 hr2 hs1 hs2 hl1 hl2 hy (fun wx hb => divSizes_any u1 u2 xs ys wx (hr1.keep hb) (hr2.keep hb) hs1.canon hs2.canon (by omega) (by omega) hy)
theorem div_good (n1 : Bool) (u1 : Value) (xs : List Int) (z1 : Int) (n2 : Bool) (u2 : Value) (ys : List Int) (z2 : Int) (w : World) (hr1 : Rd w u1 xs) (hr2 : Rd w u2 ys) (hs1 : Sgn B18 n1 xs z1) (hs2 : Sgn B18 n2 ys z2) (hl1 : xs.length ≤ 30) (hl2 : ys.length ≤ 30) (hy : 0 < ys.length) :
    Calls Tryz.prog 51 #[.agg #[.bool n1, u1], .agg #[.bool n2, u2]] w (DMPost w z1 z2) :=
  (div_good2 n1 u1 xs z1 n2 u2 ys z2 w hr1 hr2 hs1 hs2 hl1 hl2 hy).mono fun _ _ h => h.one
end
section
open Go.ChangeShapes Go.WideShapes Go.ChangeAt Go.RowKit
set_option linter.unusedVariables false
set_option linter.unusedSimpArgs false
def BadPost2 (W : World) (er : Int) (e : Ending) (w' : World) : Prop := e = .returned (.tuple #[.agg #[.bool false, .slice none 0 0], .agg #[.bool false, .slice none 0 0], .int .i64 er]) ∧ Below W.heap.size W w'
set_option maxRecDepth 100000 in
set_option maxHeartbeats 1000000 in
theorem div_zero (n1 : Bool) (u1 : Value) (xs : List Int) (n2 : Bool) (u2 : Value) (ys : List Int) (w : World) (hr1 : Rd w u1 xs) (hf1 : Fit xs) (hr2 : Rd w u2 ys) (hf2 : Fit ys) (hg1 : goodB n1 xs = true) (hg2 : goodB n2 ys = true) (hl : ys = []) :
    Calls Tryz.prog 51 #[.agg #[.bool n1, u1], .agg #[.bool n2, u2]] w (BadPost2 w 6) := by
  have HR1 := Lib.hid hr1
  have HR2 := Lib.hid hr2
  obtain ⟨p1, c1, rfl, _, _, _⟩ := rd_form hr1
  obtain ⟨p2, c2, rfl, _, _, _⟩ := rd_form hr2
  have HG1 := Lib.hid (goodB_sgn hg1 hf1)
  have HG2 := Lib.hid (goodB_sgn hg2 hf2)
  subst hl
  clear hr1 hr2 hg1 hg2
  go_enter Tryz.func51, Tryz.ntmps51
  go_wp2_with fail
  generalize hw2 : World.alloc (World.alloc (World.alloc (World.alloc w _) _) _) _ = w2
  have HX2 := Lib.hid (show Bx4 w2 w.heap.size n1 (.slice p1 xs.length c1) n2 (.slice p2 0 c2) by rw [← hw2]; exact bx4_new w _ _ _ _ _)
  have HB2 := Lib.hid (show Below w.heap.size w w2 by rw [← hw2]; exact below4 w _ _ _ _)
  clear hw2
  have x0_2 := HX2.out.x0
  have x1_2 := HX2.out.x1
  have y0_2 := HX2.out.y0
  have y1_2 := HX2.out.y1
  have r0_2 := HX2.out.r0
  have r1_2 := HX2.out.r1
  have f0_2 := HX2.out.f0
  have f1_2 := HX2.out.f1
  have s0_2 := HX2.out.s0
  have s1_2 := HX2.out.s1
  have g0_2 := HX2.out.g0
  have g1_2 := HX2.out.g1
  have lt_2 := HX2.out.lt
  refine (good_yes _ _ xs _ w2 (HR1.out.keep HB2.out) HG1.out.1 HG1.out.2).mono ?_
  rintro e w3 ⟨rfl, hb3⟩
  have HX3 := Lib.hid (HX2.out.keep (fun q hq => hb3.block q hq) hb3.size)
  have HB3 := Lib.hid (HB2.out.trans (hb3.mono HB2.out.size))
  clear hb3 x0_2 x1_2 y0_2 y1_2 r0_2 r1_2 f0_2 f1_2 s0_2 s1_2 g0_2 g1_2 lt_2
  have x0_3 := HX3.out.x0
  have x1_3 := HX3.out.x1
  have y0_3 := HX3.out.y0
  have y1_3 := HX3.out.y1
  have r0_3 := HX3.out.r0
  have r1_3 := HX3.out.r1
  have f0_3 := HX3.out.f0
  have f1_3 := HX3.out.f1
  have s0_3 := HX3.out.s0
  have s1_3 := HX3.out.s1
  have g0_3 := HX3.out.g0
  have g1_3 := HX3.out.g1
  have lt_3 := HX3.out.lt
  go_wp2_with fail
  refine (good_yes _ _ [] _ w3 (HR2.out.keep HB3.out) HG2.out.1 HG2.out.2).mono ?_
  rintro e w4 ⟨rfl, hb4⟩
  have HX4 := Lib.hid (HX3.out.keep (fun q hq => hb4.block q hq) hb4.size)
  have HB4 := Lib.hid (HB3.out.trans (hb4.mono HB3.out.size))
  clear hb4 x0_3 x1_3 y0_3 y1_3 r0_3 r1_3 f0_3 f1_3 s0_3 s1_3 g0_3 g1_3 lt_3
  have x0_4 := HX4.out.x0
  have x1_4 := HX4.out.x1
  have y0_4 := HX4.out.y0
  have y1_4 := HX4.out.y1
  have r0_4 := HX4.out.r0
  have r1_4 := HX4.out.r1
  have f0_4 := HX4.out.f0
  have f1_4 := HX4.out.f1
  have s0_4 := HX4.out.s0
  have s1_4 := HX4.out.s1
  have g0_4 := HX4.out.g0
  have g1_4 := HX4.out.g1
  have lt_4 := HX4.out.lt
  go_wp2_with fail
  refine bodyPost_ret (v := .tuple #[.agg #[.bool false, .slice none 0 0], .agg #[.bool false, .slice none 0 0], .int .i64 6]) (by simp [results, Tryz.results51, go_sem, r0_4, r1_4, s0_4, s1_4]) rfl ⟨rfl, ?_⟩
  exact ((((HB4.out.setCell (by simp; omega) _).setCell (by simp; omega) _).setCell (by simp; omega) _).setCell (by simp; omega) _)
end
end Go.Proofs.YtpebnofjcodikaaGreatDoor
