/- The law of MroKeeps: the copies. -/
import Derived.Test.YtfddcmapjnkhhaaMWords2
namespace Go.Proofs.Ytfddcmapjnkhhaa
open Go.ChangeShapes Go.WideShapes Go.RowKit
set_option linter.unusedVariables false
set_option linter.unusedSimpArgs false
set_option maxRecDepth 100000 in
set_option maxHeartbeats 4000000 in
theorem law_keeps (u : Value) (bs : List (List Int)) (c : Int) (w : World) (h : Rm w u bs) (hl : bs.length ≤ 1048576) (hml : ∀ i, (bs.getD i []).length ≤ 1048576) (hwc : (Lit.int .i64 c).wf = true) :
    Calls Try.prog 5 #[u, .int .i64 c] w fun e w' => e = .returned (.bool true) ∧ Below w.heap.size w w' := by
  obtain ⟨i0, hi, hz0, hz1, hz2⟩ := info_parts infoInt
  obtain ⟨i1, hj, hy0, hy1, hy2⟩ := info_parts infoSl
  have HR := Lib.hid h
  have HML := Lib.hid hml
  obtain ⟨p, cc, rfl, hx1, hx2, hp⟩ := rm_form h
  have HP := Lib.hid hp
  clear h hml hx1 hx2 hp
  go_enter Try.func5, Try.ntmps5
  go_wp2_with fail
  refine (knownM _).mono ?_
  rintro e w1 ⟨rfl, hb1⟩
  have HB1 := Lib.hid hb1
  clear hb1
  go_wp2_with fail
  go_loopw [5, 6, 7] (fun ov wv s wx => ∃ (i : Nat) (vs ws : List Value), s = .int .i64 i ∧ i ≤ bs.length ∧ TabE (fun w => Ent2 w w1.heap.size) wx w1.heap.size ov (bs.take i) vs ∧ TabE (fun w => OI w w1.heap.size) wx w1.heap.size wv (bs.take i) ws ∧ Apart2 ov wv ∧ Below w1.heap.size w1 wx) (fun _ _ s _ => bs.length - (intOf s).toNat)
  case atStart => exact ⟨0, [], [], rfl, Nat.zero_le _, ⟨World.ownsRow_nil w1 _ TI 1, fun i hi => by simp at hi⟩, ⟨World.ownsRow_nil w1 _ TI 1, fun i hi => by simp at hi⟩, fun g h => by simp [Value.ownBlock] at h, Below.refl _ _⟩
  case round =>
    obtain ⟨i, vs, ws, rfl, hil, hT, hU, hAp, hB⟩ := hrel
    have HT := Lib.hid hT
    have HU := Lib.hid hU
    have HA := Lib.hid hAp
    have HB := Lib.hid hB
    have HBW := Lib.hid (HB1.out.trans (hB.mono HB1.out.size))
    clear hT hU hAp hB
    by_cases hlt : i < bs.length
    · obtain ⟨b, off, rfl, hcell⟩ := HP.out (by omega)
      obtain ⟨uc, hci, hru⟩ := hcell i hlt
      obtain ⟨bl, hbl⟩ : ∃ bl, bs.getD i [] = bl := ⟨_, rfl⟩
      rw [hbl] at hru
      have hbll : bl.length ≤ 1048576 := by rw [← hbl]; exact HML.out i
      have HBL := Lib.hid hbl
      have HRU := Lib.hid (hru.keep HBW.out)
      have hru1 := Lib.hid (hru.keep HB1.out)
      obtain ⟨p2, c2, rfl, hc2, hm2, hp2⟩ := ri_form HRU.out
      have hlz : (i : Int) < (bs.length : Int) := by omega
      have hcx := below_cell HBW.out hci
      have hw2 : IntKind.i64.wrap ((bl.length : Int) + 2) = ((bl.length + 2 : Nat) : Int) := by rw [IntWalk.i64_in _ (by omega)]; omega
      have hmk : ∀ wx : World, (Instr.makeSlice 24 (.int .i64 0) (.int .i64 ((bl.length : Int) + 2))).run Try.prog wx = .ok (.slice (some ⟨wx.heap.size, 0, none⟩) 0 (bl.length + 2)) (wx.alloc (.cells (madeCells #[.int .i64 0] (bl.length + 2)) 3)) := fun wx => by
        have := run_make_room (P := Try.prog) 24 3 (.int .i64 0) 8 Try.underlying24 infoInt rfl .i64 .i64 (bl.length + 2) (by omega) (by omega) wx
        rwa [show ((bl.length + 2 : Nat) : Int) = (bl.length : Int) + 2 by omega] at this
      have hms : (madeCells #[Value.int .i64 0] (bl.length + 2)).size = bl.length + 2 := by simp [size_madeCells]
      have HMS := Lib.hid hms
      have hc1 := below_cell HB1.out hci
      have hszI : ∀ wx, (sizeOf (Try.prog.elem 24)).run Try.prog wx = .ok 1 wx := fun wx => by kernel_rfl
      clear hcell hci hbl hru hp2 hms
      go_wp2_with fail
      go_region_held3 (fun w' => w'.cell? ⟨b, off + i, none⟩ = some (.slice p2 bl.length c2)) (first | go_keep | (with_reducible exact below_cell hb3 hcx) | (with_reducible exact below_cell (hb3.alloc hb3.size _) hcx) | (with_reducible exact below_cell hb4 hcx) | (with_reducible exact below_cell (hb4.alloc hs4 _) hcx) | (with_reducible exact below_cell hb5 hc1) | fail)
       (first
        | (refine step_app rfl (.tmp 32) (.tmp 36) rfl Try.underlying24 infoInt rfl rfl (v := .slice (some ⟨_, 0, none⟩) 0 (bl.length + 2)) (base := wr.heap.size) (n := 0) (xs := []) (by first | exact own_freshAt HMS.out (by unfold maxLen; omega) (by first | omega | (simp; done)) (by first | rfl | (simp; done)) | exact World.ownsRow.alloc (own_freshAt HMS.out (by unfold maxLen; omega) (by first | omega | (simp; done)) (by first | rfl | (simp; done))) _) rfl (HRU.out.src.keep (by ((repeat' (first | with_reducible assumption | with_reducible exact Below.refl _ _ | with_reducible refine Below.drew ?_ | with_reducible refine Below.alloc ?_ (by first | omega | (simp; omega) | (simp; done) | fail) _ | with_reducible refine Below.setCell ?_ (by first | omega | (simp; omega) | (simp; done) | fail) _ | fail)); (first | done | fail)))) (ones_int bl) (by unfold maxLen; omega) (by omega) (by first | omega | (simp; omega) | (simp; done)) ?_; intro v3 w3 hap3; rw [Nat.zero_add, List.nil_append] at hap3; have hb3 : Below wr.heap.size wr w3 := Below.trans (by ((repeat' (first | with_reducible assumption | with_reducible exact Below.refl _ _ | with_reducible refine Below.drew ?_ | with_reducible refine Below.alloc ?_ (by first | omega | (simp; omega) | (simp; done) | fail) _ | with_reducible refine Below.setCell ?_ (by first | omega | (simp; omega) | (simp; done) | fail) _ | fail)); (first | done | fail)) : Below wr.heap.size wr _) (hap3.below (by first | omega | (simp; omega) | (simp; done)) (fun g hg => by simp [Value.ownBlock] at hg; omega)); have hs3 := hb3.size; (try (have hlit := lit_B (wr := wr) (lits := .cells #[.int .i64 (-7), .int .i64 (-7)] 3 (0, 0)) hap3.grown rfl rfl)); (try (have hlit := lit_C (wr := wr) (lits := .cells #[.int .i64 (-7), .int .i64 (-7)] 3 (0, 0)) hap3.grown rfl rfl)))
        | (refine step_app rfl (.tmp 37) (.tmp 38) rfl Try.underlying24 infoInt rfl rfl (v := v3) (base := wr.heap.size) (n := bl.length) (m := 2) (xs := bl.map (Value.int .i64)) (news := [.int .i64 (-7), .int .i64 (-7)]) (by first | with_reducible exact hap3.own | exact World.ownsRow.alloc hap3.own _) rfl (by first | exact src_block hlit | exact src_block (heap_alloc_new w3 _)) (ones_two _ _) (by unfold maxLen; omega) (by omega) (by have := hb3.size; simp; omega) ?_; intro v4 w4 hap4; have hb4 : Below wr.heap.size wr w4 := Below.trans (by ((repeat' (first | with_reducible assumption | with_reducible exact Below.refl _ _ | with_reducible refine Below.drew ?_ | with_reducible refine Below.alloc ?_ (by first | omega | (simp; omega) | (simp; done) | fail) _ | with_reducible refine Below.setCell ?_ (by first | omega | (simp; omega) | (simp; done) | fail) _ | fail)); (first | done | fail)) : Below wr.heap.size wr _) (hap4.below (by have := hb3.size; first | omega | (simp; omega)) (fun g hg => (hap3.own.lt g hg).1)); obtain ⟨g4, c4, rfl, hg4, hlt4⟩ := hap4.own.form (by simp); have hs4 := hb4.size; have hc4 := own_capM hap4.own; have hsl := sl_to (P := Try.prog) 24 Try.underlying24 hszI g4 0 (bl.length + 2) c4 bl.length (by omega); have HAP4 := Lib.hid hap4; have HAP3 := Lib.hid hap3; clear hap4 hap3)
        | (refine step_app rfl (.tmp 25) (.tmp 46) rfl Try.underlying22 infoSl rfl rfl (v := u5) (base := w1.heap.size) (n := (bs.take i).length) (m := 1) (xs := vs) (news := [.slice (some ⟨g4, 0, none⟩) bl.length c4]) (own_belowT HT.out.own (by first | exact hb4.alloc hs4 _ | exact hb4)) rfl (by exact src_block (heap_alloc_new w4 _)) (ones_slice _ _ _) (by unfold maxLen; rw [List.length_take]; omega) (by rw [List.length_take]; omega) (by have := HB.out.size; first | omega | (simp; omega)) ?_; intro v5 w5 hap5; have hb5 : Below w1.heap.size w1 w5 := (HB.out.trans ((hb4.alloc hs4 _).mono HB.out.size)).trans (hap5.below (by have := HB.out.size; first | omega | (simp; omega)) (fun g hg => (HT.out.own.lt g hg).1)); have HAP5 := Lib.hid hap5; clear hap5) | fail)
      all_goals
        have HB4 := Lib.hid (hb4.alloc hs4 (Obj.cells #[Value.slice (some ⟨g4, 0, none⟩) bl.length c4] 24))
        have HT5 := Lib.hid (HT.out.snoc (ent2_kept w1.heap.size) HB4.out HAP5.out ⟨g4, c4, rfl, hc4, own_base (own_belowT HAP4.out.own ((Below.refl _ _).alloc (Nat.le_refl _) _)) HB.out.size⟩)
        have HU5 := Lib.hid (HU.out.far (oi_kept w1.heap.size) HB4.out HT.out.own HAP5.out (fun g hg e => HA.out g e hg))
        have HA5 := Lib.hid (HA.out.left HB4.out HU.out.own HAP5.out)
        have hcy := alloc_cell (below_cell hb5 hc1) (Obj.cells #[] 3)
        have HRU5 := Lib.hid (hru1.out.keep hb5)
        have HB5 := Lib.hid hb5
        have hs5 := hb5.size
        clear HB4 HAP4 HAP5 HAP3 hb3 hb4 hb5 hs3 hs4 hcx hc1 hmk hsl
        go_wp2_with (first
          | (at_builtin; refine wpList_app rfl (.tmp 49) (.tmp 53) rfl Try.underlying24 infoInt rfl rfl (v := .slice (some ⟨w5.heap.size, 0, none⟩) 0 0) (base := w5.heap.size) (n := 0) (xs := []) (own_fresh (c := 0) rfl (by unfold maxLen; omega) (Nat.le_refl _)) rfl ((HRU5.out.keep ((Below.refl _ _).alloc (Nat.le_refl _) _)).src) (ones_int bl) (by unfold maxLen; omega) (by omega) (by simp) ?_; intro v6 w6 hap6; rw [Nat.zero_add, List.nil_append] at hap6; have hb6 : Below w5.heap.size w5 w6 := ((Below.refl _ _).alloc (Nat.le_refl _) _).trans (hap6.below (by simp) (fun g hg => Nat.le_of_eq (Option.some.inj hg))); have hs6 := hb6.size; have HAP6 := Lib.hid hap6; obtain ⟨p6, c6, rfl⟩ := own_formS hap6.own; clear hap6)
          | (at_builtin; refine wpList_app rfl (.tmp 48) (.tmp 55) rfl Try.underlying22 infoSl rfl rfl (v := u6) (base := w1.heap.size) (n := (bs.take i).length) (m := 1) (xs := ws) (news := [.slice p6 bl.length c6]) (own_belowT HU5.out.own (hb6.alloc hs6 _)) rfl (by exact src_block (heap_alloc_new w6 _)) (ones_slice _ _ _) (by unfold maxLen; rw [List.length_take]; omega) (by rw [List.length_take]; omega) (by simp; omega) ?_; intro v7 w7 hap7; have HAP7 := Lib.hid hap7; clear hap7))
        have hb7 := Lib.hid (HB5.out.trans (((hb6.alloc hs6 (Obj.cells #[Value.slice p6 bl.length c6] 24)).mono HB5.out.size).trans (HAP7.out.below (by simp; omega) (fun g hg => (HU5.out.own.lt g hg).1))))
        have HU7 := Lib.hid (HU5.out.snoc (oi_kept w1.heap.size) (hb6.alloc hs6 _) HAP7.out (oi_kept _ _ _ _ _ (IntKept.below ((Below.refl _ _).alloc (Nat.le_refl _) _)) (own_lenI (own_base HAP6.out.own HB5.out.size))))
        have HT7 := Lib.hid (HT5.out.far (ent2_kept w1.heap.size) (hb6.alloc hs6 _) HU5.out.own HAP7.out (fun g hg e => HA5.out g hg e))
        have HA7 := Lib.hid ((HA5.out.symm.left (hb6.alloc hs6 _) HT5.out.own HAP7.out).symm)
        go_roundw
        case rel => exact ⟨i + 1, _, _, by go_num, by omega, by rw [take_snocL hlt, HBL.out]; exact HT7.out, by rw [take_snocL hlt, HBL.out]; exact HU7.out, HA7.out, hb7.out⟩
        case measure => simp [intOf]; omega
    · obtain rfl : i = bs.length := by omega
      obtain ⟨wo, rfl⟩ : ∃ wo : World, wo = wr := ⟨_, rfl⟩
      have hT := HT.out
      have hU := HU.out
      rw [List.take_length] at hT hU
      obtain ⟨p5, c5, rfl⟩ := own_formS hT.own
      obtain ⟨p6, c6, rfl⟩ := own_formS hU.own
      have HT2 := Lib.hid hT
      have HU2 := Lib.hid hU
      have HRI := Lib.hid (rm_of_own hT.own (fun i hi => (hT.ent i hi).ri (Nat.le_trans (HML.out i) (by omega))) (by omega))
      have HML2 := Lib.hid (show ∀ i, (bs.getD i []).length ≤ 17592186043904 from fun i => Nat.le_trans (HML.out i) (by omega))
      have hln := ordL_len bs c
      have HPOS := Lib.hid (ord_pos (bs := bs) (c := c))
      obtain ⟨l, hll⟩ : ∃ l, ordL bs c = l := ⟨_, rfl⟩
      obtain ⟨er, her⟩ : ∃ er, ordE bs c = er := ⟨_, rfl⟩
      rw [hll] at hln HPOS
      have HLL := Lib.hid hll
      have HER := Lib.hid her
      clear hT hU HT HU HA hll her
      go_wp2_with fail
      refine (mroorder_any _ bs c _ HRI.out HML2.out).mono ?_
      rintro e w6 ⟨ua, rfl, hua, hb6⟩
      rw [HLL.out] at hua
      rw [HER.out]
      obtain ⟨pa, ca, rfl⟩ := own_formS hua
      have HUA := Lib.hid hua
      have HB6 := Lib.hid hb6
      have hs6 := hb6.size
      clear hua hb6
      go_wp2_with fail
      refine (mroorder_any _ bs c _ (HRI.out.keep HB6.out) HML2.out).mono ?_
      rintro e w7 ⟨ub, rfl, hub, hb7⟩
      rw [HLL.out] at hub
      rw [HER.out]
      obtain ⟨pb, cb, rfl⟩ := own_formS hub
      have HUA7 := Lib.hid (own_belowT HUA.out hb7)
      have HUB := Lib.hid hub
      have HB7 := Lib.hid (HB6.out.trans (hb7.mono HB6.out.size))
      have hs7 := hb7.size
      clear hub hb7
      go_wp2_with fail
      refine (sameints _ _ l _ (Mine.ri (OW.mine HUA7.out) (by omega)) (Mine.ri (OW.mine HUB.out) (by omega))).mono ?_
      rintro e w8 ⟨rfl, hb8⟩
      have HUA8 := Lib.hid (own_belowT HUA7.out hb8)
      have HUB8 := Lib.hid (own_belowT HUB.out hb8)
      have HB8 := Lib.hid (HB7.out.trans (hb8.mono HB7.out.size))
      have hs8 := hb8.size
      clear hb8
      go_wp2_with fail
      go_loopw [12] (fun s wx => ∃ k : Nat, s = .int .i64 k ∧ k ≤ l.length ∧ wx.ownsRow wo.heap.size 3 1 (.slice pa l.length ca) l.length (dones k l) ∧ Mid wo.heap.size w6.heap.size w8 wx) (fun s _ => l.length - (intOf s).toNat)
      case atStart => exact ⟨0, rfl, Nat.zero_le _, by rw [dones_zero]; exact HUA8.out, Mid.refl _ _ _⟩
      case round =>
        obtain ⟨k, rfl, hkl, hA, hM⟩ := hrel
        obtain ⟨w9, rfl⟩ : ∃ w9 : World, w9 = wr := ⟨_, rfl⟩
        have HA2 := Lib.hid hA
        have HM := Lib.hid hM
        clear hA hM
        by_cases hk : k < l.length
        · obtain ⟨ga, ca2, he, hg1, hg2⟩ := HUA.out.form (by omega)
          simp only [Value.slice.injEq] at he
          obtain ⟨rfl, _, rfl⟩ := he
          have hcel := own_cell HA2.out (dones_get hk)
          have hfr := own_frozen HA2.out k
          have hkz : (k : Int) < (l.length : Int) := by omega
          go_wp2_with fail
          go_roundw
          case rel => exact ⟨k + 1, by go_num, by omega, by rw [← dones_set hk]; exact own_set HA2.out k _ hk, HM.out.setCell hg1 hg2 _⟩
          case measure => simp [intOf]; omega
        · obtain rfl : k = l.length := by omega
          have hsA : w8.heap.size ≤ w9.heap.size := HM.out.size
          have HUB9 := Lib.hid (HM.out.own HUB8.out)
          have HB9 := Lib.hid (HB8.out.trans (HM.out.below (Nat.le_trans HB8.out.size (Nat.le_refl _))))
          go_wp2_with (at_builtin; refine wpList_app rfl (.tmp 87) (.tmp 88) rfl Try.underlying24 infoInt rfl rfl (v := .slice pa l.length ca) (base := wo.heap.size) (n := l.length) (m := 3) (xs := dones l.length l) (news := [.int .i64 (-4), .int .i64 (-4), .int .i64 (-4)]) (own_belowT HA2.out ((Below.refl _ _).alloc (Nat.le_refl _) _)) rfl (by exact src_block (heap_alloc_new w9 _)) (ones_three _ _ _) (by unfold maxLen; omega) (by omega) (by simp; omega) ?_; intro vg w10 hap; have HAP := Lib.hid hap; clear hap)
          have HB10 := Lib.hid (HB9.out.trans (((Below.refl w9.heap.size w9).alloc (Nat.le_refl _) (Obj.cells #[Value.int .i64 (-4), Value.int .i64 (-4), Value.int .i64 (-4)] 3)).mono HB9.out.size |>.trans (HAP.out.below (by simp; omega) (fun g hg => (HUA.out.lt g hg).1))))
          have HUB10 := Lib.hid (own_grownM (own_belowT HUB9.out ((Below.refl w9.heap.size w9).alloc (Nat.le_refl _) (Obj.cells #[Value.int .i64 (-4), Value.int .i64 (-4), Value.int .i64 (-4)] 3))) HAP.out.grown (fun g hg => (HUA.out.lt g hg).2))
          obtain ⟨gg, cg, rfl, _, _⟩ := HAP.out.own.form (by omega)
          have HG := Lib.hid HAP.out.own
          have HT10 := Lib.hid (HT2.out.keep (ent2_kept w1.heap.size) HB10.out)
          have HU10 := Lib.hid (HU2.out.keep (oi_kept w1.heap.size) HB10.out)
          have HBZ := Lib.hid (HBW.out.trans (HB10.out.mono HBW.out.size))
          clear HAP
          go_wp2_with fail
          go_loop [14] (fun s => ∃ i : Nat, s = .int .i64 i ∧ i ≤ l.length) (fun s => l.length - (intOf s).toNat)
          case atStart => exact ⟨0, rfl, Nat.zero_le _⟩
          case round =>
            obtain ⟨i3, rfl, hi3⟩ := hrel
            by_cases h3 : i3 < l.length
            · obtain ⟨gb, cb2, he, hg1, hg2⟩ := HUB.out.form (by omega)
              simp only [Value.slice.injEq] at he
              obtain ⟨rfl, _, rfl⟩ := he
              have hcb := own_cell HUB10.out (i := i3) (u := .int .i64 (l.getD i3 0)) (by rw [List.getElem?_map, List.getElem?_eq_getElem h3, List.getD_eq_getElem?_getD, List.getElem?_eq_getElem h3]; rfl)
              have hcg := own_cell HG.out (i := i3) (u := .int .i64 (-3)) (by rw [dones_full, List.getElem?_append_left (by simp; omega), List.getElem?_replicate, if_pos h3])
              have hx := HPOS.out _ (getD_mem h3)
              generalize l.getD i3 0 = x at hcb hx
              have hxn : ¬ x < 0 := by omega
              have hz1 : (i3 : Int) < (l.length : Int) := by omega
              have hz2 : (i3 : Int) < (l.length : Int) + 3 := by omega
              have hz3 : (i3 : Int) < ((l.length + 3 : Nat) : Int) := by omega
              go_wp2_with fail
              go_round
              case rel => exact ⟨i3 + 1, by go_num, by omega⟩
              case measure => simp [intOf]; omega
            · have hz1 : ¬ (i3 : Int) < (l.length : Int) := by omega
              have hszI : ∀ wx, (sizeOf (Try.prog.elem 24)).run Try.prog wx = .ok 1 wx := fun wx => by kernel_rfl
              have HSZ := Lib.hid hszI
              clear hszI
              go_wp2_with fail
              clear hz1
              go_loopw [15, 16] (fun s _ wx => ∃ i q : Nat, s = .int .i64 i ∧ i ≤ bs.length ∧ wx = w10.drewN q) (fun s _ _ => bs.length - (intOf s).toNat)
              case atStart => exact ⟨0, 0, rfl, Nat.zero_le _, rfl⟩
              case round =>
                obtain ⟨i4, q, rfl, hi4, rfl⟩ := hrel
                by_cases h4 : i4 < bs.length
                · have hz1 : (i4 : Int) < (bs.length : Int) := by omega
                  obtain ⟨g5, c5z, he, _, _⟩ := HT10.out.own.form (by omega)
                  simp only [Value.slice.injEq] at he
                  obtain ⟨rfl, _, rfl⟩ := he
                  obtain ⟨g6, c6z, he, _, _⟩ := HU10.out.own.form (by omega)
                  simp only [Value.slice.injEq] at he
                  obtain ⟨rfl, _, rfl⟩ := he
                  have hvl := HT10.out.len
                  have hwl := HU10.out.len
                  have e5 := own_cell HT10.out.own (i := i4) (u := vs.getD i4 nilS) (by rw [List.getD_eq_getElem?_getD, List.getElem?_eq_getElem (by omega)]; rfl)
                  have e6 := own_cell HU10.out.own (i := i4) (u := ws.getD i4 nilS) (by rw [List.getD_eq_getElem?_getD, List.getElem?_eq_getElem (by omega)]; rfl)
                  have hml4 := HML.out i4
                  have hent := HT10.out.ent i4 h4
                  have hri1 := hent.ri (Nat.le_trans hml4 (by omega))
                  have hoi := HU10.out.ent i4 h4
                  have hri2 := Mine.ri (OW.mine hoi) (Nat.le_trans hml4 (by omega))
                  generalize bs.getD i4 [] = bl at hml4 hent hri1 hoi hri2
                  obtain ⟨ge, ce, hue, hce, hoe⟩ := hent
                  obtain ⟨pw, cw, hwe⟩ := own_formS hoi
                  rw [hue] at e5 hri1
                  rw [hwe] at e6 hri2
                  have hsl : ∀ wx, (Instr.slice 24 (.slice (some ⟨ge, 0, none⟩) bl.length ce) none (some (.int .i64 ((bl.length : Int) + 2))) none).run Try.prog wx = .ok (.slice (some ⟨ge, 0, none⟩) (bl.length + 2) ce) wx := by
                    have := sl_to (P := Try.prog) 24 Try.underlying24 HSZ.out ge 0 bl.length ce (bl.length + 2) hce
                    rwa [show ((bl.length + 2 : Nat) : Int) = (bl.length : Int) + 2 by omega] at this
                  have hw2 : IntKind.i64.wrap ((bl.length : Int) + 2) = (bl.length : Int) + 2 := IntWalk.i64_in _ (by omega)
                  have hw3 : IntKind.i64.wrap ((bl.length : Int) + 1) = (bl.length : Int) + 1 := IntWalk.i64_in _ (by omega)
                  have c7a := own_cell hoe (i := bl.length) (u := .int .i64 (-7)) (by rw [List.getElem?_append_right (by simp)]; simp)
                  have c7b := own_cell hoe (i := bl.length + 1) (u := .int .i64 (-7)) (by rw [List.getElem?_append_right (by simp)]; simp)
                  have hm1 : (bl.length : Int) < ((bl.length + 2 : Nat) : Int) := by omega
                  have hm2 : (bl.length : Int) < (bl.length : Int) + 2 := by omega
                  have hm3 : (bl.length : Int) + 1 < ((bl.length + 2 : Nat) : Int) := by omega
                  have hm4 : (bl.length : Int) + 1 < (bl.length : Int) + 2 := by omega
                  have hm5 : (0 : Int) ≤ (bl.length : Int) + 1 := by omega
                  have hm6 : ((bl.length : Int) + 1).toNat = bl.length + 1 := by omega
                  have HQ1 := Lib.hid hri1
                  have HQ2 := Lib.hid hri2
                  clear hri1 hri2 hoi hoe hue hwe hvl hwl
                  go_wp2_with fail
                  go_quiet (fail)
                  go_wp2_with fail
                  go_quiet ((go_at_call 9; exact quiet_at (sameints_q _ _ bl _ HQ1.out HQ2.out)))
                  go_wp2_with fail
                  go_roundw
                  case rel => exact ⟨i4 + 1, _, by go_num, by omega, rfl⟩
                  case measure => simp [intOf]; omega
                · have hz1 : ¬ (i4 : Int) < (bs.length : Int) := by omega
                  go_wp2_with fail
                  go_ret
                  exact ⟨rfl, HBZ.out.trans ⟨rfl, rfl, rfl, Nat.le_refl _, fun _ _ => rfl⟩⟩
end Go.Proofs.Ytfddcmapjnkhhaa
