/- Layer 20: every question of a frame, asked of the program and of the document: the answers are alike. -/
import Derived.Test.YtilonacjmihglaaPGFcCh
import Derived.Test.YtilonacjmihglaaPFcWd
import Derived.Test.YtilonacjmihglaaPSamew
namespace Go.Proofs.Ytilonacjmihglaa
open Go Go.ChangeShapes Go.WideShapes Go.ChangeAt Go.RowKit
set_option linter.unusedVariables false
set_option linter.unusedSimpArgs false
/-- What Regs and Is say of each other. -/
theorem regs_is (vs : List Int) (f : Int) : (isF vs f = true ∧ regE vs f = 0 ∧ ∃ n : Nat, frN vs f = (n : Int) ∧ (tagL vs f).length = n + 6) ∨ (isF vs f = false ∧ regE vs f = 1 ∧ frN vs f = 0) := by
  cases h : isF vs f
  · right; exact ⟨rfl, by unfold regE; rw [h]; rfl, by unfold frN; rw [h]; rfl⟩
  · left
    obtain ⟨n, hn, hl, _⟩ := isF_tag h
    exact ⟨rfl, by unfold regE; rw [h]; rfl, n, hn, hl⟩
set_option maxRecDepth 100000 in
set_option maxHeartbeats 8000000 in
theorem asks_any (v : Value) (ws : List Int) (tn : Nat) (f i : Int) (w : World) (hr : Rd w v ws) (hf : Fit ws) (ht : tn ≤ ws.length) (hm20 : ws.length ≤ 17592186043904) (hw : (Lit.int .u64 f).wf = true) (hi : -9223372036854775808 ≤ i ∧ i ≤ 9223372036854775807) :
    Calls Try.prog 16 #[.agg #[v, .int .i64 tn], .int .u64 f, .int .i64 i] w fun e w' => e = .returned (.bool true) ∧ Below w.heap.size w w' := by
  have H1 := Lib.hid (fun (wx : World) (hx : Below w.heap.size w wx) => regs_any v ws tn f wx (hr.keep hx) hf ht hw)
  have H2 := Lib.hid (fun (wx : World) (hx : Below w.heap.size w wx) => ris_f v ws tn f w wx hr hx hf ht (by omega) hw)
  have H3 := Lib.hid (fun (wx : World) (hx : Below w.heap.size w wx) => field_any v ws tn f i wx (hr.keep hx) hf ht hw hi)
  have H4 := Lib.hid (fun (wx : World) (hx : Below w.heap.size w wx) => rword_f v ws tn f i wx (hr.keep hx) hf ht (by omega) hw hi)
  have H5 := Lib.hid (fun (wx : World) (hx : Below w.heap.size w wx) => reg_any v ws tn f i wx (hr.keep hx) hf ht hw hi)
  have H6 := Lib.hid (fun (wx : World) (hx : Below w.heap.size w wx) => rword_r v ws tn f i wx (hr.keep hx) hf ht (by omega) hw hi)
  have H7 := Lib.hid (fun (wx : World) (hx : Below w.heap.size w wx) => chain_any v ws tn f wx (hr.keep hx) hf ht hm20 hw)
  have H8 := Lib.hid (fun (wx : World) (hx : Below w.heap.size w wx) => rchain_any v ws tn f wx (hr.keep hx) hf ht hm20 hw)
  obtain ⟨p, c, rfl, hm⟩ := rd_form0 hr
  obtain ⟨vs, hvs⟩ : ∃ vs, ws.take tn = vs := ⟨_, rfl⟩
  rw [hvs] at H1 H2 H3 H4 H5 H6 H7 H8
  clear hr hf hvs
  go_enter Try.func16, Try.ntmps16
  go_upto_region 1 with fail
  generalize hw1 : World.alloc w _ = w1
  have HB1 := Lib.hid (show Below w.heap.size w w1 by rw [← hw1]; exact (Below.refl _ _).alloc (Nat.le_refl _) _)
  have HM1 := Lib.hid (show Bm w1 w.heap.size p ws.length c tn by rw [← hw1]; exact Bm.new _ _ _ _ _ _)
  obtain ⟨m0, m1⟩ := HM1.out
  clear hw1
  go_wp2_with fail
  refine (H1.out _ HB1.out).mono ?_
  rintro e w2 ⟨rfl, hb⟩
  have HB2 := Lib.hid (HB1.out.trans (hb.mono HB1.out.size))
  have HM2 := Lib.hid (HM1.out.keep hb)
  clear hb HB1 HM1 m0 m1
  obtain ⟨m0, m1⟩ := HM2.out
  obtain ⟨N, hN⟩ : ∃ x, frN vs f = x := ⟨_, rfl⟩
  obtain ⟨E, hE⟩ : ∃ x, regE vs f = x := ⟨_, rfl⟩
  have HRI := Lib.hid (regs_is vs f)
  rw [hN, hE]
  have HNN := Lib.hid hN
  have HEE := Lib.hid hE
  rw [hN, hE] at HRI
  clear hN hE
  go_wp2_with fail
  refine (H2.out _ HB2.out).mono ?_
  rintro e w3 ⟨tv, rv, rfl, hr1, hr2, hb⟩
  obtain ⟨p1, c1, rfl, htb⟩ := rd_form0 (hr1 _ (Below.refl _ _))
  have HTB := Lib.hid htb
  clear htb
  obtain ⟨p2, c2, rfl, _⟩ := rd_form0 (hr2 _ (Below.refl _ _))
  have HB3 := Lib.hid (HB2.out.trans (hb.mono HB2.out.size))
  have HM3 := Lib.hid (HM2.out.keep hb)
  clear hb HB2 HM2 hr1 hr2 m0 m1
  go_upto_region 3 with fail
  generalize hw4 : World.alloc w3 _ = w4
  have hb4 : Below w3.heap.size w3 w4 := by rw [← hw4]; exact (Below.refl _ _).alloc (Nat.le_refl _) _
  have k2 : w4.cell? ⟨w3.heap.size, 2, none⟩ = some (.slice p1 (tagL vs f).length c1) := by rw [← hw4]; simp
  have HB4 := Lib.hid (HB3.out.trans (hb4.mono HB3.out.size))
  have HM4 := Lib.hid (HM3.out.keep hb4)
  clear hw4 hb4 HB3 HM3
  obtain ⟨m0, m1⟩ := HM4.out
  obtain ⟨J, hJ⟩ : ∃ x, isF vs f = x := ⟨_, rfl⟩
  rw [hJ] at HRI ⊢
  clear hJ
  obtain ⟨TL, hTL⟩ : ∃ x, (tagL vs f).length = x := ⟨_, rfl⟩
  rw [hTL] at k2 HRI HTB ⊢
  clear hTL
  go_upto_region 3 with fail
  go_cut [54] from 28 to 54 (fun s wx => s = .bool false ∧ w4 = wx)
  case first =>
    rcases HRI.out with ⟨rfl, rfl, n, rfl, hl⟩ | ⟨rfl, rfl, rfl⟩
    · have e2 : IntKind.i64.wrap ((TL : Int) - 6) = (n : Int) := by rw [hl, show ((n + 6 : Nat) : Int) - 6 = (n : Int) by omega]; exact IntWalk.i64_in _ (by have := HTB.out; omega)
      clear hl
      go_wp2_with fail
      go_meet
      exact ⟨rfl, rfl⟩
    · go_wp2_with fail
      go_meet
      exact ⟨rfl, rfl⟩
  case rest =>
    obtain ⟨rfl, rfl⟩ := hcut
    clear k2 HRI
    obtain ⟨V1, hV1⟩ : ∃ x, slotV vs f 0 6 i = x := ⟨_, rfl⟩
    obtain ⟨E1, hE1⟩ : ∃ x, slotE vs f 6 i = x := ⟨_, rfl⟩
    obtain ⟨V2, hV2⟩ : ∃ x, slotV vs f 6 (frN vs f) i = x := ⟨_, rfl⟩
    obtain ⟨E2, hE2⟩ : ∃ x, slotE vs f (frN vs f) i = x := ⟨_, rfl⟩
    have HV1 := Lib.hid hV1
    have HE1 := Lib.hid hE1
    have HV2 := Lib.hid hV2
    have HE2 := Lib.hid hE2
    clear hV1 hE1 hV2 hE2
    go_wp2_with fail
    refine (H3.out _ HB4.out).mono ?_
    rintro e w5 ⟨rfl, hb⟩
    rw [HV1.out, HE1.out]
    have HB5 := Lib.hid (HB4.out.trans (hb.mono HB4.out.size))
    have HM5 := Lib.hid (HM4.out.keep hb)
    clear hb HB4 HM4 m0 m1
    obtain ⟨m0, m1⟩ := HM5.out
    go_wp2_with fail
    refine (H4.out _ HB5.out).mono ?_
    rintro e w6 ⟨rfl, hb⟩
    rw [HV1.out, HE1.out]
    have HB6 := Lib.hid (HB5.out.trans (hb.mono HB5.out.size))
    have HM6 := Lib.hid (HM5.out.keep hb)
    clear hb HB5 HM5 m0 m1
    obtain ⟨m0, m1⟩ := HM6.out
    go_wp2_with fail
    refine (H5.out _ HB6.out).mono ?_
    rintro e w7 ⟨rfl, hb⟩
    rw [HV2.out, HE2.out]
    have HB7 := Lib.hid (HB6.out.trans (hb.mono HB6.out.size))
    have HM7 := Lib.hid (HM6.out.keep hb)
    clear hb HB6 HM6 m0 m1
    obtain ⟨m0, m1⟩ := HM7.out
    go_wp2_with fail
    refine (H6.out _ HB7.out).mono ?_
    rintro e w8 ⟨rfl, hb⟩
    rw [HV2.out, HE2.out]
    have HB8 := Lib.hid (HB7.out.trans (hb.mono HB7.out.size))
    have HM8 := Lib.hid (HM7.out.keep hb)
    clear hb HB7 HM7 m0 m1
    obtain ⟨m0, m1⟩ := HM8.out
    go_wp2_with fail
    refine (H7.out _ HB8.out).mono ?_
    rintro e w9 ⟨x, rfl, hrx, hb⟩
    rw [HEE.out]
    have HB9 := Lib.hid (HB8.out.trans (hb.mono HB8.out.size))
    have HM9 := Lib.hid (HM8.out.keep hb)
    have HRx := Lib.hid hrx
    obtain ⟨px, cx, rfl, _⟩ := rd_form0 hrx
    clear hrx HB8 HM8 m0 m1
    obtain ⟨m0, m1⟩ := HM9.out
    go_wp2_with fail
    refine (H8.out _ HB9.out).mono ?_
    rintro e w10 ⟨y, rfl, hry, hb⟩
    rw [HEE.out]
    have HB10 := Lib.hid (HB9.out.trans (hb.mono HB9.out.size))
    have HM10 := Lib.hid (HM9.out.keep hb)
    have HRy := Lib.hid hry
    obtain ⟨py, cy, rfl, _⟩ := rd_form0 hry
    have HRX := Lib.hid (HRx.out.keep hb)
    clear hb hry HB9 HM9 m0 m1
    obtain ⟨m0, m1⟩ := HM10.out
    obtain ⟨LC, hLC⟩ : ∃ x, chainL vs f = x := ⟨_, rfl⟩
    rw [hLC] at HRX HRy ⊢
    clear hLC HRx
    go_wp2_with fail
    refine (samew _ _ LC w10 HRX.out HRy.out).mono ?_
    rintro e w11 ⟨rfl, q, rfl⟩
    have HBL := Lib.hid (below_drewN HB10.out q)
    have m0 : (w10.drewN q).cell? ⟨w.heap.size, 0, none⟩ = some (.slice p ws.length c) := m0
    have m1 : (w10.drewN q).cell? ⟨w.heap.size, 1, none⟩ = some (.int .i64 tn) := m1
    generalize w10.drewN q = w11 at *
    go_wp2_with fail
    go_ret
    exact ⟨rfl, HBL.out⟩
end Go.Proofs.Ytilonacjmihglaa
