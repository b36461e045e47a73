/- strconv's decimal: floatBits, of any decimal. -/
import Derived.Test.YtbhaigbgembcaaaGreatDoorPPfW
namespace Go.Proofs.YtbhaigbgembcaaaGreatDoor
open Go Go.ChangeShapes Go.WideShapes Go.RowKit
set_option linter.unusedVariables false
set_option linter.unusedSimpArgs false
/-- What floatBits answers. -/
noncomputable def fba (s : DS) (ng : Bool) : Nat × Bool :=
  if s.n = 0 then (Ieee.double.word ng 0, false) else if 310 < s.dp then (Ieee.double.word ng fIN, true) else if s.dp < -330 then (Ieee.double.word ng 0, false) else fb s ng
set_option maxRecDepth 100000 in
set_option maxHeartbeats 4000000 in
theorem fba_any (b F : Nat) (s : DS) (ng : Bool) (w : World) (hN : s.n = 0 ∨ Nrm s) (hM : DM w b s ng) (hC : LC w b) (hP : PWT w b) (hF : FI w F b) :
    Calls Tryz.prog 66 #[.pointer (some ⟨b, 0, none⟩), .pointer (some ⟨F, 0, none⟩)] w fun e w' => e = .returned (.tuple #[.int .u64 (((fba s ng).1 : Nat) : Int), .bool (fba s ng).2]) ∧ Below b w w' := by
  by_cases hin : s.n ≠ 0 ∧ ¬ 310 < s.dp ∧ ¬ s.dp < -330
  · obtain ⟨h0, h1, h2⟩ := hin
    have e : fba s ng = fb s ng := by unfold fba; rw [if_neg h0, if_neg h1, if_neg h2]
    rw [e]
    exact fb_any b F s ng w (by rcases hN with h | h; { exact absurd h h0 }; { exact h }) ⟨by omega, by omega⟩ hM hC hP hF
  · have hE : fba s ng = if s.n = 0 then (Ieee.double.word ng 0, false) else if 310 < s.dp then (Ieee.double.word ng fIN, true) else (Ieee.double.word ng 0, false) := by
      unfold fba
      by_cases h0 : s.n = 0
      · rw [if_pos h0, if_pos h0]
      · rw [if_neg h0, if_neg h0]
        by_cases h1 : 310 < s.dp
        · rw [if_pos h1, if_pos h1]
        · rw [if_neg h1, if_neg h1, if_pos (by omega)]
    obtain ⟨R, hR⟩ : ∃ R, fba s ng = R := ⟨_, rfl⟩
    rw [hR] at hE ⊢
    have hway : s.n = 0 ∨ (s.n ≠ 0 ∧ 310 < s.dp) ∨ (s.n ≠ 0 ∧ s.dp ≤ 310 ∧ s.dp < -330) := by omega
    obtain ⟨g, hD, _⟩ := hM.ex
    have c0 := hD.cn
    have c1 := hD.cd
    have cgw := hD.cg
    have HF := Lib.hid hF
    have HXw := Lib.hid (Below.refl b w)
    have k1 := hF.m
    have k2 := hF.e
    have k3 := hF.bs
    obtain ⟨dp, hdp⟩ : ∃ dp, s.dp = dp := ⟨_, rfl⟩
    obtain ⟨n, hn⟩ : ∃ n, s.n = n := ⟨_, rfl⟩
    rw [hdp] at c1 hway hE
    rw [hn] at c0 hway hE
    have HE := Lib.hid hE
    clear hE hR hN hM hC hP hF hD hdp hn hin
    rcases hway with rfl | ⟨h0, h1⟩ | ⟨h0, h1, h2⟩
    · have HRE := Lib.hid (show R = (Ieee.double.word ng 0, false) by rw [HE.out, if_pos rfl])
      clear HE
      go_enter Tryz.func66, Tryz.ntmps66
      go_wp2_with fail
      refine wp_scope_fwd2 (r0 := ?r0) (r1 := ?r1) ?h0 ?h1 ?h
      case h0 => rfl
      case h1 => rfl
      intro J1 J0 hJ1 hJ0
      have HJ1 := Lib.hid hJ1
      have HJ0 := Lib.hid hJ0
      clear hJ1 hJ0
      go_wp2_with fail
      go_step3
      refine (show J0 _ _ from ?_)
      refine HJ0.out _ _ ?_
      obtain ⟨W6, hW6⟩ : ∃ W6, w = W6 := ⟨_, rfl⟩
      rw [hW6]
      have HX6 := Lib.hid (show Below b w W6 by rw [← hW6]; exact HXw.out)
      have cg6 : W6.cell? ⟨b, 802, none⟩ = some (.bool ng) := by rw [← hW6]; simpa using cgw
      clear hW6
      obtain ⟨l1, l2, l3, l4⟩ := HF.out.keep HX6.out
      have HZ6 := Lib.hid (show bits .or .u64 0 9223372036854775808 = ((Ieee.double.word true 0 : Nat) : Int) from or_sign 0 true (by omega))
      have ha : bits .and .u64 0 4503599627370495 = 0 := by rfl
      have he : bits .and .i64 0 2047 = 0 := by rfl
      have ho : bits .or .u64 0 0 = 0 := by rfl
      go_wp2_with fail
      go_quiet (fail)
      have r1 : (W6.drewN nq).cell? ⟨F, 0, none⟩ = some (.int .u64 52) := by simpa using l1
      have r2 : (W6.drewN nq).cell? ⟨F, 1, none⟩ = some (.int .u64 11) := by simpa using l2
      have r3 : (W6.drewN nq).cell? ⟨F, 2, none⟩ = some (.int .i64 (-1023)) := by simpa using l3
      have cg7 : (W6.drewN nq).cell? ⟨b, 802, none⟩ = some (.bool ng) := by simpa using cg6
      clear ha he ho
      cases ng with
      | true =>
        have hz6 := HZ6.out
        go_wp2_with fail
        go_quiet (fail)
        go_wp2_with fail
        try rw [onGo_ret]
        rw [Exit.noGoto_ret]
        go_ret2
        exact ⟨by rw [HRE.out]; rfl, by first | exact (HX6.out.trans (below_drewN (Below.refl _ _) _)).trans (below_drewN (Below.refl _ _) _) | exact HX6.out.trans (below_drewN (Below.refl _ _) _)⟩
      | false =>
        go_wp2_with fail
        try rw [onGo_ret]
        rw [Exit.noGoto_ret]
        go_ret2
        exact ⟨by rw [HRE.out]; rfl, HX6.out.trans (below_drewN (Below.refl _ _) _)⟩
    · have h0I : ((n : Int) == 0) = false := by simp; omega
      have HRE := Lib.hid (show R = (Ieee.double.word ng fIN, true) by rw [HE.out, if_neg h0, if_pos h1])
      clear HE h0
      go_enter Tryz.func66, Tryz.ntmps66
      go_wp2_with fail
      refine wp_scope_fwd2 (r0 := ?r0) (r1 := ?r1) ?h0 ?h1 ?h
      case h0 => rfl
      case h1 => rfl
      intro J1 J0 hJ1 hJ0
      have HJ1 := Lib.hid hJ1
      have HJ0 := Lib.hid hJ0
      clear hJ1 hJ0
      go_wp2_with fail
      go_step3
      refine (show J1 _ _ from ?_)
      refine HJ1.out _ _ ?_
      obtain ⟨W5, hW5⟩ : ∃ W5, w = W5 := ⟨_, rfl⟩
      rw [hW5]
      have HX5 := Lib.hid (show Below b w W5 by rw [← hW5]; exact HXw.out)
      have cg5 : W5.cell? ⟨b, 802, none⟩ = some (.bool ng) := by rw [← hW5]; simpa using cgw
      clear hW5
      obtain ⟨l1, l2, l3, l4⟩ := HF.out.keep HX5.out
      go_wp2_with fail
      go_quiet (fail)
      clear l1 l2 l3 l4
      go_wp2_with fail
      go_step3
      obtain ⟨W6, hW6⟩ : ∃ W6, W5.drewN nq = W6 := ⟨_, rfl⟩
      rw [hW6]
      have HX6 := Lib.hid (show Below b w W6 by rw [← hW6]; exact HX5.out.trans (below_drewN (Below.refl _ _) _))
      have cg6 : W6.cell? ⟨b, 802, none⟩ = some (.bool ng) := by rw [← hW6]; simpa using cg5
      clear hW6
      obtain ⟨l1, l2, l3, l4⟩ := HF.out.keep HX6.out
      have HZ6 := Lib.hid (show bits .or .u64 9218868437227405312 9223372036854775808 = ((Ieee.double.word true fIN : Nat) : Int) from or_sign 9218868437227405312 true (by omega))
      have ha : bits .and .u64 0 4503599627370495 = 0 := by rfl
      have he : bits .and .i64 2047 2047 = 2047 := by rfl
      have ho : bits .or .u64 0 9218868437227405312 = 9218868437227405312 := by rfl
      go_wp2_with fail
      go_quiet (fail)
      have r1 : (W6.drewN nq).cell? ⟨F, 0, none⟩ = some (.int .u64 52) := by simpa using l1
      have r2 : (W6.drewN nq).cell? ⟨F, 1, none⟩ = some (.int .u64 11) := by simpa using l2
      have r3 : (W6.drewN nq).cell? ⟨F, 2, none⟩ = some (.int .i64 (-1023)) := by simpa using l3
      have cg7 : (W6.drewN nq).cell? ⟨b, 802, none⟩ = some (.bool ng) := by simpa using cg6
      clear ha he ho
      cases ng with
      | true =>
        have hz6 := HZ6.out
        go_wp2_with fail
        go_quiet (fail)
        go_wp2_with fail
        try rw [onGo_ret]
        rw [Exit.noGoto_ret]
        go_ret2
        exact ⟨by rw [HRE.out]; rfl, by first | exact (HX6.out.trans (below_drewN (Below.refl _ _) _)).trans (below_drewN (Below.refl _ _) _) | exact HX6.out.trans (below_drewN (Below.refl _ _) _)⟩
      | false =>
        go_wp2_with fail
        try rw [onGo_ret]
        rw [Exit.noGoto_ret]
        go_ret2
        exact ⟨by rw [HRE.out]; rfl, HX6.out.trans (below_drewN (Below.refl _ _) _)⟩
    · have h0I : ((n : Int) == 0) = false := by simp; omega
      have h1I : ¬ 310 < dp := by omega
      have HRE := Lib.hid (show R = (Ieee.double.word ng 0, false) by rw [HE.out, if_neg h0, if_neg h1I])
      clear HE h0 h1
      go_enter Tryz.func66, Tryz.ntmps66
      go_wp2_with fail
      refine wp_scope_fwd2 (r0 := ?r0) (r1 := ?r1) ?h0 ?h1 ?h
      case h0 => rfl
      case h1 => rfl
      intro J1 J0 hJ1 hJ0
      have HJ1 := Lib.hid hJ1
      have HJ0 := Lib.hid hJ0
      clear hJ1 hJ0
      go_wp2_with fail
      go_step3
      refine (show J0 _ _ from ?_)
      refine HJ0.out _ _ ?_
      obtain ⟨W6, hW6⟩ : ∃ W6, w = W6 := ⟨_, rfl⟩
      rw [hW6]
      have HX6 := Lib.hid (show Below b w W6 by rw [← hW6]; exact HXw.out)
      have cg6 : W6.cell? ⟨b, 802, none⟩ = some (.bool ng) := by rw [← hW6]; simpa using cgw
      clear hW6
      obtain ⟨l1, l2, l3, l4⟩ := HF.out.keep HX6.out
      have HZ6 := Lib.hid (show bits .or .u64 0 9223372036854775808 = ((Ieee.double.word true 0 : Nat) : Int) from or_sign 0 true (by omega))
      have ha : bits .and .u64 0 4503599627370495 = 0 := by rfl
      have he : bits .and .i64 0 2047 = 0 := by rfl
      have ho : bits .or .u64 0 0 = 0 := by rfl
      go_wp2_with fail
      go_quiet (fail)
      have r1 : (W6.drewN nq).cell? ⟨F, 0, none⟩ = some (.int .u64 52) := by simpa using l1
      have r2 : (W6.drewN nq).cell? ⟨F, 1, none⟩ = some (.int .u64 11) := by simpa using l2
      have r3 : (W6.drewN nq).cell? ⟨F, 2, none⟩ = some (.int .i64 (-1023)) := by simpa using l3
      have cg7 : (W6.drewN nq).cell? ⟨b, 802, none⟩ = some (.bool ng) := by simpa using cg6
      clear ha he ho
      cases ng with
      | true =>
        have hz6 := HZ6.out
        go_wp2_with fail
        go_quiet (fail)
        go_wp2_with fail
        try rw [onGo_ret]
        rw [Exit.noGoto_ret]
        go_ret2
        exact ⟨by rw [HRE.out]; rfl, by first | exact (HX6.out.trans (below_drewN (Below.refl _ _) _)).trans (below_drewN (Below.refl _ _) _) | exact HX6.out.trans (below_drewN (Below.refl _ _) _)⟩
      | false =>
        go_wp2_with fail
        try rw [onGo_ret]
        rw [Exit.noGoto_ret]
        go_ret2
        exact ⟨by rw [HRE.out]; rfl, HX6.out.trans (below_drewN (Below.refl _ _) _)⟩
end Go.Proofs.YtbhaigbgembcaaaGreatDoor
