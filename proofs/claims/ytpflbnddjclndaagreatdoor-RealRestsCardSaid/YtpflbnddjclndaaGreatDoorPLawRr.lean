/- Where rests lie; that quotients are whole: the law. -/
import Derived.Test.YtpflbnddjclndaaGreatDoorPGRlQ
import Derived.Test.YtpflbnddjclndaaGreatDoorPGRlR
import Derived.Test.YtpflbnddjclndaaGreatDoorPRlCb
namespace Go.Proofs.YtpflbnddjclndaaGreatDoor
open Go Go.ChangeShapes Go.WideShapes Go.ChangeAt Go.RowKit
set_option linter.unusedVariables false
set_option linter.unusedSimpArgs false
set_option maxRecDepth 100000 in
theorem whole_infy (b : Nat) (hb : b < 18446744073709551616) (hn : nanB b = false) (hi : infB b = true) (w : World) :
    Calls Tryz.prog 11 #[.int .u64 (b : Int)] w fun e w' => e = .returned (.tuple #[.agg #[.bool false, .slice none 0 0], .int .i64 7]) ∧ Below w.heap.size w w' := by
  have HNn := Lib.hid (isNaN_nn hn)
  have HIn := Lib.hid (isInf0 b hb hn)
  rw [hi] at HIn
  clear hi hn hb
  go_enter Tryz.func11, Tryz.ntmps11
  go_wp2_with (first
    | (go_at_call 15; (with_reducible refine (number_any b _).mono ?_); rintro e w9 ⟨rfl, rfl⟩)
    | (go_at_call 18; (with_reducible refine (HNn.out _).mono ?_); rintro e w9 ⟨rfl, rfl⟩)
    | (go_at_call 19; (with_reducible refine (HIn.out _).mono ?_); rintro e w9 ⟨rfl, rfl⟩)
    | fail)
  have z := Box2.new w (.bool false) (.slice none 0 0) 30 rfl
  have z1 := z.c0
  have z2 := z.c1
  exact bodyPost_ret (v := .tuple #[.agg #[.bool false, .slice none 0 0], .int .i64 7]) (by simp [results, Tryz.results11, go_sem, z1, z2]) rfl ⟨rfl, (Below.refl _ _).alloc (Nat.le_refl _) _⟩
theorem cmpI_self (z : Int) : cmpI z z = 0 := by unfold cmpI; simp
theorem cb_same {f : Nat} {n : Bool} {ws : List Int} (hn : nanB f = false) (hi : infB f = false) (hw : WH f) (hs : Sgn B18 n ws (trZ f)) : cbB f n ws = true ∧ cbV f n ws = 0 := by
  have hl := hs.small.2 (trZ_small f)
  have hg := goodB_of hs hl
  unfold cbB cbV cbZ
  rw [hn, hg, hi, wh_lost hw hi, ← hs.eq, cmpI_self]
  simp
set_option maxRecDepth 100000 in
set_option maxHeartbeats 4000000 in
theorem law_rests (a b : Nat) (ha : a < 18446744073709551616) (hb : b < 18446744073709551616) (w : World) (ht : PT w) (hp : P10R w) :
    Calls Tryz.prog 3 #[.int .u64 (a : Int), .int .u64 (b : Int)] w fun e w' => e = .returned (.bool true) ∧ Below w.heap.size w w' := by
  have HT := Lib.hid ht
  have HP := Lib.hid hp
  have HX := Lib.hid (Below.refl w.heap.size w)
  have KZ := Lib.hid (risZero_any b hb)
  have KNa := Lib.hid (risNaN_any a ha)
  have KNb := Lib.hid (risNaN_any b hb)
  have KIa := Lib.hid (risInf_any a ha)
  have KLb := Lib.hid (below_anyB b hb)
  cases hz : zeroB b with
  | true =>
    have K1 := Lib.hid (floorA_z a b hz)
    have K2 := Lib.hid (modA_z a b hz)
    rw [hz] at KZ
    clear ha hb ht hp hz
    go_enter Tryz.func3, Tryz.ntmps3
    go_wp2_with (first
      | (go_at_call 6; (with_reducible refine (K1.out _).mono ?_); rintro e w9 ⟨rfl, rfl⟩)
      | (go_at_call 5; (with_reducible refine (K2.out _).mono ?_); rintro e w9 ⟨rfl, rfl⟩)
      | (go_at_call 7; (with_reducible refine (KZ.out _).mono ?_); rintro e w9 ⟨rfl, rfl⟩)
      | (go_at_call 8; first | ((with_reducible refine (KNa.out _).mono ?_); rintro e w9 ⟨rfl, rfl⟩) | ((with_reducible refine (KNb.out _).mono ?_); rintro e w9 ⟨rfl, rfl⟩) | ((with_reducible refine (KNm.out _).mono ?_); rintro e w9 ⟨rfl, rfl⟩))
      | (go_at_call 9; first | ((with_reducible refine (KIa.out _).mono ?_); rintro e w9 ⟨rfl, rfl⟩) | ((with_reducible refine (KIf.out _).mono ?_); rintro e w9 ⟨rfl, rfl⟩))
      | (go_at_call 10; first | ((with_reducible refine (KLm.out _).mono ?_); rintro e w9 ⟨rfl, rfl⟩) | ((with_reducible refine (KLb.out _).mono ?_); rintro e w9 ⟨rfl, rfl⟩))
      | (go_at_call 4; (with_reducible refine (known03 _ (HT.out.keep HX.out) (HP.out.keep HX.out)).mono ?_); rintro e vv ⟨rfl, hvv⟩; replace HX := Lib.hid (HX.out.trans (hvv.mono HX.out.size)); clear hvv)
      | fail)
    go_ret
    exact ⟨by first | rfl | simp, HX.out⟩
  | false =>
    rw [hz] at KZ
    obtain ⟨f, m, H, hf, hm, pf, pm⟩ := fm_ex a b ha hb hz
    have K1 := Lib.hid (floorA_n a b f m ha hb hz H pf)
    have K2 := Lib.hid (modA_n a b f m ha hb hz H pm)
    rcases H with ⟨h, rfl, rfl⟩ | ⟨h1, h2, h3, rr, s, d0, d1, hr, H⟩
    · obtain ⟨na, hna⟩ : ∃ x, nanB a = x := ⟨_, rfl⟩
      obtain ⟨nb, hnb⟩ : ∃ x, nanB b = x := ⟨_, rfl⟩
      obtain ⟨ia, hia⟩ : ∃ x, infB a = x := ⟨_, rfl⟩
      rw [hna] at KNa h
      rw [hnb] at KNb h
      rw [hia] at KIa h
      have hcs : na = true ∨ (na = false ∧ nb = true) ∨ (na = false ∧ nb = false ∧ ia = true) := by cases na <;> cases nb <;> simp_all
      clear h hna hnb hia ha hb hz hf hm pf pm ht hp
      rcases hcs with rfl | ⟨rfl, rfl⟩ | ⟨rfl, rfl, rfl⟩
      all_goals
        go_enter Tryz.func3, Tryz.ntmps3
        go_wp2_with (first
          | (go_at_call 6; (with_reducible refine (K1.out _).mono ?_); rintro e w9 ⟨rfl, rfl⟩)
          | (go_at_call 5; (with_reducible refine (K2.out _).mono ?_); rintro e w9 ⟨rfl, rfl⟩)
          | (go_at_call 7; (with_reducible refine (KZ.out _).mono ?_); rintro e w9 ⟨rfl, rfl⟩)
          | (go_at_call 8; first | ((with_reducible refine (KNa.out _).mono ?_); rintro e w9 ⟨rfl, rfl⟩) | ((with_reducible refine (KNb.out _).mono ?_); rintro e w9 ⟨rfl, rfl⟩) | ((with_reducible refine (KNm.out _).mono ?_); rintro e w9 ⟨rfl, rfl⟩))
          | (go_at_call 9; first | ((with_reducible refine (KIa.out _).mono ?_); rintro e w9 ⟨rfl, rfl⟩) | ((with_reducible refine (KIf.out _).mono ?_); rintro e w9 ⟨rfl, rfl⟩))
          | (go_at_call 10; first | ((with_reducible refine (KLm.out _).mono ?_); rintro e w9 ⟨rfl, rfl⟩) | ((with_reducible refine (KLb.out _).mono ?_); rintro e w9 ⟨rfl, rfl⟩))
          | (go_at_call 4; (with_reducible refine (known03 _ (HT.out.keep HX.out) (HP.out.keep HX.out)).mono ?_); rintro e vv ⟨rfl, hvv⟩; replace HX := Lib.hid (HX.out.trans (hvv.mono HX.out.size)); clear hvv)
          | fail)
        go_ret
        exact ⟨by first | rfl | simp, HX.out⟩
    · rw [h1] at KNa
      rw [h2] at KNb
      rw [h3] at KIa
      obtain ⟨n1, n2, n3⟩ := dv_where hr hb h2 hz H
      have KNm := Lib.hid (risNaN_any m hm)
      rw [H.nm.1] at KNm
      have KLm := Lib.hid (below_anyB m hm)
      rw [n1] at KLm
      have KIf := Lib.hid (risInf_any f hf)
      have g1 := and_u m hm
      have g2 := and_u b hb
      have g3 : ((m % fSG : Nat) : Int) ≤ ((b % fSG : Nat) : Int) := by omega
      obtain ⟨x, hx⟩ : ∃ x, m % fSG = x := ⟨_, rfl⟩
      obtain ⟨y, hy⟩ : ∃ y, b % fSG = y := ⟨_, rfl⟩
      rw [hx] at g1 g3
      rw [hy] at g2 g3
      have HNF := Lib.hid H.nf
      have HWH := Lib.hid n3
      have HFF := Lib.hid hf
      obtain ⟨nB, hnB⟩ : ∃ n, negB b = n := ⟨_, rfl⟩
      rw [hnB] at KLm KLb
      clear n1 n2 n3 hx hy H hr h1 h2 h3 hz ha hb hf hm pf pm ht hp hnB
      cases hif : infB f with
      | true =>
        rw [hif] at KIf
        have KW := Lib.hid (whole_infy f HFF.out HNF.out.1 hif)
        clear hif
        go_enter Tryz.func3, Tryz.ntmps3
        go_wp2_with (first
          | (go_at_call 6; (with_reducible refine (K1.out _).mono ?_); rintro e w9 ⟨rfl, rfl⟩)
          | (go_at_call 5; (with_reducible refine (K2.out _).mono ?_); rintro e w9 ⟨rfl, rfl⟩)
          | (go_at_call 7; (with_reducible refine (KZ.out _).mono ?_); rintro e w9 ⟨rfl, rfl⟩)
          | (go_at_call 8; first | ((with_reducible refine (KNa.out _).mono ?_); rintro e w9 ⟨rfl, rfl⟩) | ((with_reducible refine (KNb.out _).mono ?_); rintro e w9 ⟨rfl, rfl⟩) | ((with_reducible refine (KNm.out _).mono ?_); rintro e w9 ⟨rfl, rfl⟩))
          | (go_at_call 9; first | ((with_reducible refine (KIa.out _).mono ?_); rintro e w9 ⟨rfl, rfl⟩) | ((with_reducible refine (KIf.out _).mono ?_); rintro e w9 ⟨rfl, rfl⟩))
          | (go_at_call 10; first | ((with_reducible refine (KLm.out _).mono ?_); rintro e w9 ⟨rfl, rfl⟩) | ((with_reducible refine (KLb.out _).mono ?_); rintro e w9 ⟨rfl, rfl⟩))
          | (go_at_call 4; (with_reducible refine (known03 _ (HT.out.keep HX.out) (HP.out.keep HX.out)).mono ?_); rintro e vv ⟨rfl, hvv⟩; replace HX := Lib.hid (HX.out.trans (hvv.mono HX.out.size)); clear hvv)
          | (go_at_call 11; (with_reducible refine (KW.out _).mono ?_); rintro e vv ⟨rfl, hvv⟩; replace HX := Lib.hid (HX.out.trans (hvv.mono HX.out.size)); clear hvv)
          | fail)
        go_ret
        exact ⟨by first | rfl | simp, HX.out.alloc HX.out.size _⟩
      | false =>
        rw [hif] at KIf
        have KW := Lib.hid (whole_any f HFF.out HNF.out.1 hif)
        have HCB := Lib.hid (fun n ws => @cb_same f n ws HNF.out.1 hif HWH.out)
        clear hif
        go_enter Tryz.func3, Tryz.ntmps3
        go_upto_region 13 with (first
          | (go_at_call 6; (with_reducible refine (K1.out _).mono ?_); rintro e w9 ⟨rfl, rfl⟩)
          | (go_at_call 5; (with_reducible refine (K2.out _).mono ?_); rintro e w9 ⟨rfl, rfl⟩)
          | (go_at_call 7; (with_reducible refine (KZ.out _).mono ?_); rintro e w9 ⟨rfl, rfl⟩)
          | (go_at_call 8; first | ((with_reducible refine (KNa.out _).mono ?_); rintro e w9 ⟨rfl, rfl⟩) | ((with_reducible refine (KNb.out _).mono ?_); rintro e w9 ⟨rfl, rfl⟩) | ((with_reducible refine (KNm.out _).mono ?_); rintro e w9 ⟨rfl, rfl⟩))
          | (go_at_call 9; first | ((with_reducible refine (KIa.out _).mono ?_); rintro e w9 ⟨rfl, rfl⟩) | ((with_reducible refine (KIf.out _).mono ?_); rintro e w9 ⟨rfl, rfl⟩))
          | (go_at_call 10; first | ((with_reducible refine (KLm.out _).mono ?_); rintro e w9 ⟨rfl, rfl⟩) | ((with_reducible refine (KLb.out _).mono ?_); rintro e w9 ⟨rfl, rfl⟩))
          | (go_at_call 4; (with_reducible refine (known03 _ (HT.out.keep HX.out) (HP.out.keep HX.out)).mono ?_); rintro e vv ⟨rfl, hvv⟩; replace HX := Lib.hid (HX.out.trans (hvv.mono HX.out.size)); clear hvv)
          | fail)
        go_wp2_with fail
        refine (KW.out _).mono ?_
        rintro e w3 ⟨n3, p3, c3, ws3, rfl, hR3, hS3, hB3⟩
        have HB3 := Lib.hid (HX.out.trans (hB3.mono HX.out.size))
        have HR3 := Lib.hid hR3
        have HFit := Lib.hid hS3.canon.fit
        obtain ⟨cb1, cb2⟩ := HCB.out n3 ws3 hS3
        have CB1 := Lib.hid cb1
        have CB2 := Lib.hid cb2
        clear hR3 hS3 hB3 cb1 cb2
        go_upto_region 14 with fail
        obtain ⟨W4, hW4⟩ : ∃ x, w3.alloc (.cells #[.bool n3, .slice p3 ws3.length c3] 30) = x := ⟨_, rfl⟩
        have hb4 : Below w3.heap.size w3 W4 := by rw [← hW4]; exact (Below.refl _ _).alloc (Nat.le_refl _) _
        have HD4 := Lib.hid (show Box2 W4 w3.heap.size (.bool n3) (.slice p3 ws3.length c3) by rw [← hW4]; exact Box2.new _ _ _ _ rfl)
        have HB4 := Lib.hid (HB3.out.trans (hb4.mono HB3.out.size))
        have HR4 := Lib.hid (HR3.out.keep hb4)
        rw [hW4]
        clear hW4 hb4
        have e0 := HD4.out.c0
        have e1 := HD4.out.c1
        have HCM := Lib.hid (cmpBig_any f HFF.out n3 _ ws3 W4 HR4.out HFit.out)
        rw [CB1.out, CB2.out] at HCM
        go_wp2_with (first
          | (go_at_call 12; (with_reducible refine HCM.out.mono ?_); rintro e w5 ⟨rfl, hB5⟩; have HB5 := Lib.hid (HB4.out.trans (hB5.mono HB4.out.size)); clear hB5)
          | fail)
        go_ret
        exact ⟨by first | rfl | simp, HB5.out⟩
end Go.Proofs.YtpflbnddjclndaaGreatDoor
