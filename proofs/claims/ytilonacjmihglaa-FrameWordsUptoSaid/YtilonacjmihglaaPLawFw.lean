/- The law of FrameWords, walked. -/
import Derived.Test.YtilonacjmihglaaPFcStp
import Derived.Test.YtilonacjmihglaaPFcAsk
import Derived.Test.YtilonacjmihglaaPRight20
import Derived.Test.YtilonacjmihglaaPHas
import Derived.Deep.CutBlock
namespace Go.Proofs.Ytilonacjmihglaa
open Go Go.ChangeShapes Go.WideShapes Go.ChangeAt Go.RowKit
set_option linter.unusedVariables false
set_option linter.unusedSimpArgs false
theorem rd_src {w : World} {v : Value} {ws : List Int} (h : Rd w v ws) : ∀ wx, Below w.heap.size w wx → Src wx v ws.length (ws.map (Value.int .u64)) := by
  intro wx hx
  rcases h with ⟨p, rfl, rfl⟩ | ⟨b, off, c, rfl, h1, h2, h3⟩
  · refine ⟨rfl, ?_⟩
    cases p with
    | none => exact .inl ⟨rfl, rfl⟩
    | some ad => exact .inr ⟨ad, 0, rfl, fun j u hj => by simp at hj⟩
  · refine ⟨by simp, .inr ⟨_, c, rfl, fun j u hj => ?_⟩⟩
    have hj' : j < ws.length := by
      rw [List.getElem?_eq_some_iff] at hj
      simpa using hj.1
    rw [show (⟨b, off, none⟩ : Addr).add j = ⟨b, off + j, none⟩ by unfold Addr.add; split <;> simp_all, below_cell hx (h3 j hj')]
    rw [List.getElem?_map, List.getElem?_eq_getElem hj'] at hj
    simp only [Option.map_some, Option.some.injEq] at hj
    rw [← hj, List.getD_eq_getElem?_getD, List.getElem?_eq_getElem hj']
    rfl
theorem fit_snoc {l : List Int} (h : Fit l) (x : Int) (hx : 0 ≤ x ∧ x ≤ 18446744073709551615) : Fit (l ++ [x]) := fun i => by
  rw [List.getD_eq_getElem?_getD]
  by_cases e : i < l.length
  · rw [List.getElem?_append_left e, ← List.getD_eq_getElem?_getD]; exact h i
  · by_cases e2 : i = l.length
    · subst e2; simpa using hx
    · rw [List.getElem?_eq_none (by simp; omega)]; simp
theorem idx_of (y : Int) (n : Nat) (h0 : 0 ≤ y) (hn : 0 < n) (hm : n ≤ 1099511627776) : ∃ i : Nat, i < n ∧ wrap64 (y.tmod (n : Int)) = (i : Int) := by
  rw [Int.tmod_eq_emod_of_nonneg h0]
  have h1 := Int.emod_nonneg y (by omega : (n : Int) ≠ 0)
  have h2 := Int.emod_lt_of_pos y (by omega : (0 : Int) < n)
  refine ⟨(y % n).toNat, by omega, ?_⟩
  rw [i64w]; omega
theorem idx_of2 (y : Int) (n : Nat) (h0 : 0 ≤ y) (hn : 0 < n) (hm : n ≤ 1099511627776) : ∃ i : Nat, i < n ∧ wrap64 (y % (n : Int)) = (i : Int) := by
  have h1 := Int.emod_nonneg y (by omega : (n : Int) ≠ 0)
  have h2 := Int.emod_lt_of_pos y (by omega : (0 : Int) < n)
  refine ⟨(y % n).toNat, by omega, ?_⟩
  rw [i64w]; omega
theorem u64_nn (x : Int) : 0 ≤ IntKind.u64.wrap x := by rw [u64w]; omega
theorem rd_formN {w : World} {v : Value} {ws : List Int} (h : Rd w v ws) : ∃ p c, v = .slice p ws.length c ∧ ws.length ≤ 17592186043904 := rd_form0 h
set_option maxRecDepth 100000 in
set_option maxHeartbeats 8000000 in
theorem law_fw (u : Value) (ws : List Int) (top : Int) (qv : Value) (qs : List Int) (sv : Value) (ss : List StD) (w : World) (hr : Rd w u ws) (hf : Fit ws) (ht : -9223372036854775808 ≤ top ∧ top ≤ 9223372036854775807) (hq : Rd w qv qs) (hfq : Fit qs) (hql : qs.length ≤ 1048576) (hs : Sts w sv ss) :
    Calls Try.prog 3 #[.agg #[u, .int .i64 top], qv, sv] w fun e w' => e = .returned (.bool true) ∧ Below w.heap.size w w' := by
  have HR := Lib.hid hr
  have HF := Lib.hid hf
  have HQ := Lib.hid hq
  have HFQ := Lib.hid hfq
  have HS := Lib.hid hs
  have HSRC := Lib.hid (rd_src hq)
  obtain ⟨p, c, rfl, hm⟩ := rd_form0 hr
  obtain ⟨pq, cq, rfl, hmq⟩ := rd_form0 hq
  obtain ⟨ps, cs, rfl, hsc, hsm, hscell⟩ := sts_form hs
  have HSC := Lib.hid hscell
  clear hr hf hq hfq hs hscell
  go_enter Try.func3, Try.ntmps3
  go_wp2_with fail
  generalize hw1 : World.alloc w _ = w1
  have HB1 := Lib.hid (show Below w.heap.size w w1 by rw [← hw1]; exact (Below.refl _ _).alloc (Nat.le_refl _) _)
  have HM1 := Lib.hid (show Bm w1 w.heap.size p ws.length c top by rw [← hw1]; exact Bm.new _ _ _ _ _ _)
  have HZ1 := Lib.hid (show (w1.frozen? ⟨w.heap.size, 0, none⟩ = false ∧ w1.frozen? ⟨w.heap.size, 1, none⟩ = false) ∧ w.heap.size < w1.heap.size by rw [← hw1]; simp)
  clear hw1
  refine (known20 _).mono ?_
  rintro e w2 ⟨rfl, hb⟩
  have HB2 := Lib.hid (HB1.out.trans (hb.mono HB1.out.size))
  have HM2 := Lib.hid (HM1.out.keep hb)
  have HZ2 := Lib.hid (show (w2.frozen? ⟨w.heap.size, 0, none⟩ = false ∧ w2.frozen? ⟨w.heap.size, 1, none⟩ = false) ∧ w.heap.size < w2.heap.size from
    ⟨⟨below_frozen hb HZ1.out.2 HZ1.out.1.1, below_frozen hb HZ1.out.2 HZ1.out.1.2⟩, by have := HZ1.out.2; have := hb.size; omega⟩)
  clear hb HB1 HM1 HZ1
  obtain ⟨m0, m1⟩ := HM2.out
  go_wp2_with fail
  refine (right20_any _ ws top _ (HR.out.keep HB2.out) HF.out ht).mono ?_
  rintro e w3 ⟨rfl, hb⟩
  have HB3 := Lib.hid (HB2.out.trans (hb.mono HB2.out.size))
  have HM3 := Lib.hid (HM2.out.keep hb)
  have HZ3 := Lib.hid (show (w3.frozen? ⟨w.heap.size, 0, none⟩ = false ∧ w3.frozen? ⟨w.heap.size, 1, none⟩ = false) ∧ w.heap.size < w3.heap.size from
    ⟨⟨below_frozen hb HZ2.out.2 HZ2.out.1.1, below_frozen hb HZ2.out.2 HZ2.out.1.2⟩, by have := HZ2.out.2; have := hb.size; omega⟩)
  clear hb HB2 HM2 HZ2 m0 m1
  obtain ⟨m0, m1⟩ := HM3.out
  cases hmk : memOk ws top with
  | false =>
    go_wp2_with fail
    go_ret
    exact ⟨rfl, HB3.out⟩
  | true =>
    obtain ⟨tn, rfl, hform⟩ := form_of hmk
    have HFO := Lib.hid hform
    have htn := hform.le
    have htn1 := hform.one
    have hmost := hform.most
    have htwo := hform.two
    clear hmk hform
    go_wp2_with fail
    refine (right14_any _ ws tn _ qs _ (HR.out.keep HB3.out) HF.out ht (HQ.out.keep HB3.out) HFQ.out).mono ?_
    rintro e w4 ⟨rfl, hb⟩
    have HB4 := Lib.hid (HB3.out.trans (hb.mono HB3.out.size))
    have HM4 := Lib.hid (HM3.out.keep hb)
    have HZ4 := Lib.hid (show (w4.frozen? ⟨w.heap.size, 0, none⟩ = false ∧ w4.frozen? ⟨w.heap.size, 1, none⟩ = false) ∧ w.heap.size < w4.heap.size from
      ⟨⟨below_frozen hb HZ3.out.2 HZ3.out.1.1, below_frozen hb HZ3.out.2 HZ3.out.1.2⟩, by have := HZ3.out.2; have := hb.size; omega⟩)
    clear hb HB3 HM3 HZ3 m0 m1
    obtain ⟨m0, m1⟩ := HM4.out
    cases hrb : rootsB ws tn qs with
    | false =>
      go_wp2_with fail
      go_ret
      exact ⟨rfl, HB4.out⟩
    | true =>
      clear hrb
      have hx4 := HZ4.out.2
      have HO := Lib.hid (World.ownsRow_made (base := w.heap.size + 1) (e := 29) (size := 1) w4 #[] 0 (by omega) (by unfold maxLen; omega) (by simp))
      have tok1 : True := trivial
      go_wp2_with (first
        | (at_builtin; have _t := tok1; refine wpList_app (t := 22) (e := 29) (z := .int .u64 0) (bytes := 8) (base := w.heap.size + 1) (n := 0) (m := qs.length) (xs := []) (news := qs.map (Value.int .u64)) (v := .slice (some ⟨w4.heap.size, 0, none⟩) 0 0) (x := .slice pq qs.length cq) rfl (.tmp 30) (.tmp 31) rfl Try.underlying22 infoU64 rfl rfl HO.out rfl (HSRC.out _ (HB4.out.alloc HB4.out.size _)) (by simp [Value.oneCell']) (by unfold maxLen; omega) (by omega) (by simp; omega) ?_; intro v5 w5 hap; have hb5 : Below w4.heap.size w4 w5 := ((Below.refl _ _).alloc (Nat.le_refl _) _).trans (hap.below (by simp) (fun g hg => Nat.le_of_eq (Option.some.inj hg))); have hown5 := hap.own; rw [Nat.zero_add, List.nil_append] at hown5; have HO5 := Lib.hid (show OW .u64 29 w5 (w.heap.size + 1) v5 qs from hown5); have HB5 := Lib.hid hb5; have hs5 := hb5.size; obtain ⟨p5, c5, rfl⟩ := ow_form HO5.out; have HAT := Lib.hid (show ∀ g, (Value.slice p5 qs.length c5).ownBlock = some g → w4.heap.size ≤ g from fun g hg => by (rcases hap.at_ with hh | hh; (rw [hh] at hg; cases hg; exact Nat.le_refl _); (rw [hh] at hg; cases hg; simp))); clear hap hb5 hown5 tok1)
        | (at_builtin; refine wpList_app (t := 22) (e := 29) (z := .int .u64 0) (bytes := 8) (base := w.heap.size + 1) (n := qs.length) (m := 1) (xs := qs.map (Value.int .u64)) (news := [.int .u64 2]) (v := .slice p5 qs.length c5) (x := .slice (some ⟨w5.heap.size, 0, none⟩) 1 1) rfl (.tmp 32) (.tmp 33) rfl Try.underlying22 infoU64 rfl rfl (HO5.out.alloc _) rfl (src_one rfl) (by simp [Value.oneCell']) (by unfold maxLen; omega) (by omega) (by simp; omega) ?_; intro v6 w6 hap; have hb6 : Below w4.heap.size w4 w6 := (HB5.out.alloc hs5 _).trans (hap.below (by simp; omega) HAT.out); have HAP := Lib.hid hap; have HB46 := Lib.hid hb6; have m0 := below_cell hb6 m0; have m1 := below_cell hb6 m1; clear hap hb6)
        | fail)
      have HB6 := Lib.hid (HB4.out.trans (HB46.out.mono HB4.out.size))
      have hx6 : w.heap.size < w6.heap.size := by have := HB46.out.size; omega
      have HOW6 := Lib.hid (show OW .u64 29 w6 (w.heap.size + 1) v6 (qs ++ [2]) from own_apd HAP.out)
      refine (copy13_any _ ws tn _ (HR.out.keep HB6.out)).mono ?_
      rintro e w7 ⟨v', rfl, hown, hb⟩
      obtain ⟨g, cap, rfl, hg, hcap, hrow⟩ := row_own hown (by omega)
      have HB7 := Lib.hid (HB6.out.trans (hb.mono HB6.out.size))
      have m0 := below_cell hb m0
      have m1 := below_cell hb m1
      have hgl := hrow.lt
      have HROW := Lib.hid hrow
      have HOW7 := Lib.hid (HOW6.out.keep hb)
      have HWO := Lib.hid (fun q (hq : v6.ownBlock = some q) => (OW.lt HOW6.out hq).2)
      have hs7 := hb.size
      have HF7 := Lib.hid (show w7.frozen? ⟨w.heap.size, 0, none⟩ = false ∧ w7.frozen? ⟨w.heap.size, 1, none⟩ = false from
        ⟨below_frozen hb hx6 (below_frozen HB46.out hx4 HZ4.out.1.1), below_frozen hb hx6 (below_frozen HB46.out hx4 HZ4.out.1.2)⟩)
      have HM7 := Lib.hid (And.intro m0 m1)
      clear hown hrow hb HB6 HOW6 HB46 HAP
      go_upto_region 7 with fail
      generalize hw8 : World.alloc w7 _ = w8
      have hb8 : Below w7.heap.size w7 w8 := by rw [← hw8]; exact (Below.refl _ _).alloc (Nat.le_refl _) _
      obtain ⟨b0, off0, k0, hu, hult⟩ := rd_ltb HR.out (by omega)
      have hx7 : w.heap.size < w7.heap.size := by omega
      have HL8 := Lib.hid (show LW w w.heap.size w7.heap.size g cap (.slice p ws.length c) ws tn v6 (qs ++ [2]) w8 from by
        refine ⟨⟨below_cell hb8 HM7.out.1, below_cell hb8 HM7.out.2, below_frozen hb8 hx7 HF7.out.1, below_frozen hb8 hx7 HF7.out.2, ?_, HOW7.out.keep hb8, HB7.out.trans (hb8.mono HB7.out.size), ⟨Nat.le_refl _, by omega, by omega⟩, fun q hq => ?_⟩, ⟨HR.out.keep (HB7.out.trans (hb8.mono HB7.out.size)), ⟨b0, off0, k0, hu, ?_, by omega, by omega, by omega, fun e => ?_⟩⟩⟩
        · exact ⟨⟨by rw [← hw8]; simp, by rw [← hw8]; simp, by rw [← hw8]; simp, HROW.out.block (hb8.block g hgl), hcap, by omega, by omega⟩, HF.out, htn⟩
        · have := HWO.out q hq; omega
        · have := hb8.size; omega
        · have := (HOW7.out.lt e).1; omega)
      clear hw8 hb8 HM7 HF7 HOW7 HROW HB7 HWO m0 m1 HO HO5 HB5 HAT
      go_wp2_with fail
      have hfit0 : Fit (qs ++ [2]) := fit_snoc HFQ.out 2 (by omega)
      obtain ⟨X, hX⟩ : ∃ x, w.heap.size = x := ⟨_, rfl⟩
      obtain ⟨BC, hBC⟩ : ∃ x, w7.heap.size = x := ⟨_, rfl⟩
      rw [hX, hBC] at HL8 ⊢
      clear hX hBC
      go_loopw [1, 8] (fun wv s wr => ∃ (k : Nat) (mv : Value) (wm : List Int) (tm : Nat) (wl : List Int), s = .int .i64 k ∧ k ≤ ss.length ∧ LW w X BC g cap mv wm tm wv wl wr ∧ wm.length = ws.length ∧ 1 ≤ tm ∧ wl.length ≤ qs.length + 1 + k ∧ 1 ≤ wl.length ∧ Fit wl) (fun _ s _ => ss.length - (intOf s).toNat)
      case atStart => exact ⟨0, _, _, _, _, by go_num, Nat.zero_le _, HL8.out, rfl, htn1, by simp, by simp, hfit0⟩
      case round =>
        obtain ⟨k, mv, wm, tm, wl, rfl, hk, hL, hwm, htm, hwl1, hwl2, hfwl⟩ := hrel
        have HL := Lib.hid hL
        have HFW := Lib.hid hfwl
        obtain ⟨pw, cw, rfl⟩ := ow_form hL.lb.row
        clear hL hfwl HL8
        by_cases hlt : k < ss.length ∧ k < 100
        · obtain ⟨hlt, hk100⟩ := hlt
          have hlz : (k : Int) < (ss.length : Int) := by omega
          have hlz2 : (k : Int) < 100 := by omega
          have hbel := HL.out.lb.bel
          have HL2 := Lib.hid (HSC.out (by omega))
          obtain ⟨bs, os, rfl, hat⟩ := HL2.out
          obtain ⟨lv, hat⟩ := hat k hlt
          have HLV := Lib.hid hat.2.2.2.2.2.1
          obtain ⟨a0, a1, a2, a3, a4, a5, a6, a7, a8, a9⟩ := hat.keep hbel
          have HFL := Lib.hid a6
          obtain ⟨plv, clv, rfl, _⟩ := rd_form0 a5
          generalize ss.getD k stZ = sd at *
          obtain ⟨sk, sf, si, sw, sl⟩ := sd
          dsimp only at a0 a1 a2 a3 a4 a7 a8 a9 HLV HFL
          clear hat a5 a6 hbel HL2
          go_upto_region 11 with fail
          generalize hw9 : World.alloc wr _ = w9
          have hb9 : Below wr.heap.size wr w9 := by rw [← hw9]; exact (Below.refl _ _).alloc (Nat.le_refl _) _
          have z0 : w9.cell? ⟨wr.heap.size, 0, none⟩ = some (.int .i64 sk) := by rw [← hw9]; simp
          have z1 : w9.cell? ⟨wr.heap.size, 1, none⟩ = some (.int .i64 sf) := by rw [← hw9]; simp
          have z2 : w9.cell? ⟨wr.heap.size, 2, none⟩ = some (.int .i64 si) := by rw [← hw9]; simp
          have z3 : w9.cell? ⟨wr.heap.size, 3, none⟩ = some (.int .u64 sw) := by rw [← hw9]; simp
          have z4 : w9.cell? ⟨wr.heap.size, 4, none⟩ = some (.slice plv sl.length clv) := by rw [← hw9]; simp
          have HL9 := Lib.hid (HL.out.keep hb9)
          have hZ := HL.out.lb.ltX
          have HZN := Lib.hid hZ
          have HWZ := Lib.hid (fun q (hq : (Value.slice pw wl.length cw).ownBlock = some q) => (OW.lt HL.out.lb.row hq).2)
          obtain ⟨Z, hZZ⟩ : ∃ z, wr.heap.size = z := ⟨_, rfl⟩
          rw [hZZ] at z0 z1 z2 z3 z4 HZN HWZ ⊢
          clear hw9 hb9 hZ hZZ a0 a1 a2 a3 a4 HL
          obtain ⟨bw, ow, cw', hsl, hwc, hwm2, hwcell⟩ := (HL9.out.lb.row.rd (by omega)).some (by omega)
          injection hsl with e1 e2 e3
          subst e1 e3
          have HWC := Lib.hid hwcell
          clear hwcell
          have hf0 := wfu a9
          obtain ⟨i0, hi0, hidx0⟩ := idx_of (IntKind.u64.wrap sf) wl.length (u64_nn sf) (by omega) (by omega)
          obtain ⟨i1, hi1, hidx1⟩ := idx_of2 sw wl.length hf0.1 (by omega) (by omega)
          have hl0' : (0 : Int) < (wl.length : Int) := by omega
          have hi0' : (i0 : Int) < (wl.length : Int) := by omega
          have hi1' : (i1 : Int) < (wl.length : Int) := by omega
          have hc0 := HWC.out i0 hi0
          have hc1 := HWC.out i1 hi1
          have hwf0 := wfu_mk (HFW.out i0)
          have hwf1 := wfu_mk (HFW.out i1)
          generalize wl.getD i0 0 = fw at hc0 hwf0
          generalize wl.getD i1 0 = vw at hc1 hwf1
          go_upto_region 13 with fail
          clear hidx0 hc0 hi0 hi0'
          go_cut [66] from 64 to 66 (fun s wx => ∃ fb : Bool, s = .bool fb ∧ (fb = true → sw % 2 = 0) ∧ w9 = wx)
          case first =>
            by_cases h2 : sw % 2 = 0
            · have hb2 : (sw % 2 == 0) = true := by simp [h2]
              go_wp2_with fail
              go_meet
              exact ⟨true, rfl, fun _ => h2, rfl⟩
            · have hb2 : (sw % 2 == 0) = false := by simpa using h2
              go_wp2_with fail
              go_meet
              exact ⟨false, rfl, (fun e => by cases e), rfl⟩
          case rest =>
          obtain ⟨fb, hfb, _, rfl⟩ := hcut
          have HFB := Lib.hid hfb
          clear hfb
          go_upto_region 17 with fail
          go_cut [11] from 67 to 76 (fun s wx => ∃ x : Int, s = .int .u64 x ∧ (Lit.int .u64 x).wf = true ∧ w9 = wx)
          case first =>
            have hfb := HFB.out
            subst hfb
            cases fb with
            | true =>
              go_wp2_with fail
              go_meet
              exact ⟨vw, rfl, hwf1, rfl⟩
            | false =>
              go_wp2_with fail
              go_meet
              exact ⟨sw, rfl, a9, rfl⟩
          case rest =>
            obtain ⟨x, rfl, hxw, rfl⟩ := hcut
            clear hidx1 hc1 hi1 hi1' hwf1 HWC
            go_upto_block 2 with fail
            go_cut [1, 12, 13] from 37 to 168 (fun wv' s12 s13 wx => ∃ (mv' : Value) (wm' : List Int) (tm' : Nat) (wl' : List Int) (e : Int), s12 = .int .i64 e ∧ s13 = .int .i64 e ∧ LW w X BC g cap mv' wm' tm' wv' wl' wx ∧ wm'.length = ws.length ∧ 1 ≤ tm' ∧ wl'.length ≤ wl.length + 1 ∧ 1 ≤ wl'.length ∧ Fit wl' ∧ (wx.cell? ⟨Z, 2, none⟩ = some (.int .i64 si) ∧ Z < wx.heap.size))
            case first =>
              have hi64 := wfi a8
              have hmx : wm.length ≤ 17592186043904 := by omega
              have htl := HL9.out.lb.pm.t1
              by_cases hk0 : sk = 0
              · subst hk0
                obtain ⟨c0, c1, _, _, _, _, _, _, _⟩ := HL9.out.lb
                go_wp2_with fail
                refine (rnew_any mv wm tm si w9 HL9.out.mo.rd htm htl (by omega) hi64).mono ?_
                rintro e wA ⟨mv', rfl, hrA, hbA, hfr⟩
                have HMA := Lib.hid (MO.new HL9.out.lb HL9.out.mo hrA (by rw [newM_len]; omega) hfr)
                have HLA := Lib.hid (HL9.out.lb.keep hbA)
                have z2 := below_cell hbA z2
                obtain ⟨pm', cm', rfl, _⟩ := rd_form0 hrA
                have HNL := Lib.hid (newM_len wm tm si)
                have HNT := Lib.hid (newT_one (len := wm.length) (n := si) htm)
                have HNW := Lib.hid (newW_wf (len := wm.length) (tn := tm) (n := si) (by omega))
                have hsA := hbA.size
                clear hrA hbA hfr c0 c1
                obtain ⟨NM, hNM⟩ : ∃ x, newM wm tm si = x := ⟨_, rfl⟩
                obtain ⟨NT, hNT⟩ : ∃ x, newT wm.length tm si = x := ⟨_, rfl⟩
                obtain ⟨NW, hNW⟩ : ∃ x, newW wm.length tm si = x := ⟨_, rfl⟩
                obtain ⟨NE, hNE⟩ : ∃ x, newE wm.length tm si = x := ⟨_, rfl⟩
                have HFN := Lib.hid (fun (wx : World) (hp : PM wx BC g cap tm wm) => fnew_any hp si htm (by omega))
                unfold PNPost at HFN
                rw [hNM] at HMA HNL HFN
                rw [hNT] at HNT HFN
                rw [hNW] at HNW HFN
                rw [hNE] at HFN
                rw [hNM, hNT, hNW, hNE]
                clear hNM hNT hNW hNE
                go_upto_region 20 with fail
                generalize hwB : World.alloc wA _ = wB
                have hbB : Below wA.heap.size wA wB := by rw [← hwB]; exact (Below.refl _ _).alloc (Nat.le_refl _) _
                have q0 : wB.cell? ⟨wA.heap.size, 0, none⟩ = some (.slice pm' NM.length cm') := by rw [← hwB]; simp
                have q1 : wB.cell? ⟨wA.heap.size, 1, none⟩ = some (.int .i64 NT) := by rw [← hwB]; simp
                have HMB := Lib.hid (HMA.out.keep hbB)
                have HLB := Lib.hid (HLA.out.keep hbB)
                have z2 := below_cell hbB z2
                have HSA := Lib.hid (show X < wA.heap.size ∧ BC < wA.heap.size ∧ g < wA.heap.size from HLA.out.ltX)
                have HWA := Lib.hid (fun q (hq : (Value.slice (some ⟨bw, ow, none⟩) wl.length cw).ownBlock = some q) => (OW.lt HLA.out.row hq).2)
                obtain ⟨Q, hQ⟩ : ∃ q, wA.heap.size = q := ⟨_, rfl⟩
                rw [hQ] at q0 q1 HSA HWA ⊢
                clear hwB hbB HMA HLA hQ
                go_wp2_with fail
                refine (HFN.out _ HLB.out.pm).mono ?_
                rintro e wC ⟨rfl, hp, hbt⟩
                have HLC := Lib.hid (HLB.out.setC hbt hp)
                have HMC := Lib.hid (HMB.out.setC hbt)
                have z2 := hbt.cell z2 (by have := HZN.out; omega) (by have := HZN.out; omega)
                have q0 := hbt.cell q0 (by have := HSA.out; omega) (by have := HSA.out; omega)
                have q1 := hbt.cell q1 (by have := HSA.out; omega) (by have := HSA.out; omega)
                clear hp hbt HLB HMB HFN
                by_cases hne : NE = 0
                · subst hne
                  have HOS := Lib.hid HLC.out.row
                  have hXs := HLC.out.ltX.1
                  go_upto_region 25 with (at_builtin; refine wpList_app (t := 22) (e := 29) (z := .int .u64 0) (bytes := 8) (base := X + 1) (n := wl.length) (m := 1) (xs := wl.map (Value.int .u64)) (news := [.int .u64 NW]) (v := .slice (some ⟨bw, ow, none⟩) wl.length cw) (x := .slice (some ⟨wC.heap.size, 0, none⟩) 1 1) rfl (.tmp 99) (.tmp 101) rfl Try.underlying22 infoU64 rfl rfl (HOS.out.alloc _) rfl (src_one rfl) (by simp [Value.oneCell']) (by unfold maxLen; omega) (by omega) (by simp; omega) ?_; intro u' wD hap; have HAP := Lib.hid hap; clear hap)
                  have HLD := Lib.hid (HLC.out.push HAP.out).1
                  have HMD := Lib.hid (HMC.out.push HLC.out HAP.out)
                  have z2 := apd_cell HAP.out HOS.out z2 (fun e => by have := HWZ.out _ e; omega)
                  have q0 := apd_cell HAP.out HOS.out q0 (fun e => by have := HWA.out _ e; omega)
                  have q1 := apd_cell HAP.out HOS.out q1 (fun e => by have := HWA.out _ e; omega)
                  clear HLC HMC
                  obtain ⟨d0, d1, d2, d3, _, _, _, _, _⟩ := HLD.out
                  go_wp2_with fail
                  go_meet
                  exact ⟨_, NM, NT, wl ++ [NW], 0, rfl, rfl, LW.mk2 HLD.out HMD.out, by rw [HNL.out]; exact hwm, HNT.out, by simp, by simp, fit_snoc HFW.out _ HNW.out, HLD.out.boxZ _ _ z2 (by have := HZN.out; omega)⟩
                · have hne2 : (NE == 0) = false := by simpa using hne
                  obtain ⟨d0, d1, d2, d3, _, _, _, _, _⟩ := HLC.out
                  go_wp2_with fail
                  go_meet
                  exact ⟨_, NM, NT, wl, NE, rfl, rfl, LW.mk2 HLC.out HMC.out, by rw [HNL.out]; exact hwm, HNT.out, by omega, hwl2, HFW.out, HLC.out.boxZ _ _ z2 (by have := HZN.out; omega)⟩
              · have dk0 : (sk == 0) = false := by simpa using hk0
                clear hk0
                by_cases hk1 : sk = 1
                · subst hk1
                  obtain ⟨c0, c1, _, _, _, _, _, _, _⟩ := HL9.out.lb
                  go_wp2_with fail
                  refine (rset_f mv wm tm fw si x w9 HL9.out.mo.rd HL9.out.lb.pm.fit htl hmx hwf0 hi64 hxw).mono ?_
                  rintro e wA ⟨mv', rfl, hrA, hbA, hfr⟩
                  have HMA := Lib.hid (MO.new HL9.out.lb HL9.out.mo hrA (by rw [setM_len wm tm fw 0 6 si x]; omega) hfr)
                  have HLA := Lib.hid (HL9.out.lb.keep hbA)
                  have z2 := below_cell hbA z2
                  have z4 := below_cell hbA z4
                  obtain ⟨pm', cm', rfl, _⟩ := rd_form0 hrA
                  have HNL := Lib.hid (show (setM wm tm fw 0 6 si x).length = wm.length from setM_len wm tm fw 0 6 si x)
                  clear hrA hbA hfr c0 c1
                  obtain ⟨NM, hNM⟩ : ∃ yy, setM wm tm fw 0 6 si x = yy := ⟨_, rfl⟩
                  obtain ⟨NE, hNE⟩ : ∃ yy, setE (wm.take tm) fw 6 si x = yy := ⟨_, rfl⟩
                  have HNM := Lib.hid hNM
                  have HNE := Lib.hid hNE
                  rw [hNM] at HMA HNL
                  rw [hNM, hNE]
                  clear hNM hNE
                  obtain ⟨d0, d1, d2, d3, _, _, _, _, _⟩ := HLA.out
                  have HLB := Lib.hid (HLA.out.box (.slice pm' NM.length cm') (.int .i64 tm)).1
                  have HMB := Lib.hid (HMA.out.box HLA.out (.slice pm' NM.length cm') (.int .i64 tm))
                  have hz2 := HLA.out.boxZ (.slice pm' NM.length cm') (.int .i64 tm) z2 (by have := HZN.out; omega)
                  have hz4 := HLA.out.boxZ (.slice pm' NM.length cm') (.int .i64 tm) z4 (by have := HZN.out; omega)
                  clear z2 z4 HLA HMA
                  go_upto_region 28 with fail
                  generalize hwB : World.setCell (World.setCell wA _ _) _ _ = wB
                  rw [hwB] at HLB HMB hz2 hz4
                  clear hwB d0 d1 d2 d3
                  obtain ⟨z2, hzs⟩ := hz2
                  obtain ⟨z4, _⟩ := hz4
                  go_wp2_with fail
                  refine (setField_any HLB.out.pm fw si x hwf0 hi64 hxw).mono ?_
                  rintro e wC hS
                  obtain ⟨rfl, hp, hbt⟩ := hS.same HLB.out.pm
                  rw [HNM.out] at hp
                  rw [HNE.out]
                  have HLC := Lib.hid (HLB.out.setC (hbt.two BC) hp)
                  have HMC := Lib.hid (HMB.out.setC (hbt.two BC))
                  have z2 := hbt.cell z2 (by have := HZN.out; omega)
                  clear hS hp hbt HLB HMB z4
                  go_wp2_with fail
                  go_meet
                  exact ⟨_, NM, tm, wl, NE, rfl, rfl, ⟨HLC.out, HMC.out⟩, by rw [HNL.out]; exact hwm, htm, by omega, hwl2, HFW.out, z2, World.block_lt_of_cell? _ _ z2⟩
                · have dk1 : (sk == 1) = false := by simpa using hk1
                  clear hk1
                  by_cases hk2 : sk = 2
                  · subst hk2
                    obtain ⟨c0, c1, _, _, _, _, _, _, _⟩ := HL9.out.lb
                    go_wp2_with fail
                    refine (rset_r mv wm tm fw si x w9 HL9.out.mo.rd HL9.out.lb.pm.fit htl hmx hwf0 hi64 hxw).mono ?_
                    rintro e wA ⟨mv', rfl, hrA, hbA, hfr⟩
                    have HMA := Lib.hid (MO.new HL9.out.lb HL9.out.mo hrA (by rw [setM_len wm tm fw 6 (frN (wm.take tm) fw) si x]; omega) hfr)
                    have HLA := Lib.hid (HL9.out.lb.keep hbA)
                    have z2 := below_cell hbA z2
                    have z4 := below_cell hbA z4
                    obtain ⟨pm', cm', rfl, _⟩ := rd_form0 hrA
                    have HNL := Lib.hid (show (setM wm tm fw 6 (frN (wm.take tm) fw) si x).length = wm.length from setM_len wm tm fw 6 (frN (wm.take tm) fw) si x)
                    clear hrA hbA hfr c0 c1
                    obtain ⟨NM, hNM⟩ : ∃ yy, setM wm tm fw 6 (frN (wm.take tm) fw) si x = yy := ⟨_, rfl⟩
                    obtain ⟨NE, hNE⟩ : ∃ yy, setE (wm.take tm) fw (frN (wm.take tm) fw) si x = yy := ⟨_, rfl⟩
                    have HNM := Lib.hid hNM
                    have HNE := Lib.hid hNE
                    rw [hNM] at HMA HNL
                    rw [hNM, hNE]
                    clear hNM hNE
                    obtain ⟨d0, d1, d2, d3, _, _, _, _, _⟩ := HLA.out
                    have HLB := Lib.hid (HLA.out.box (.slice pm' NM.length cm') (.int .i64 tm)).1
                    have HMB := Lib.hid (HMA.out.box HLA.out (.slice pm' NM.length cm') (.int .i64 tm))
                    have hz2 := HLA.out.boxZ (.slice pm' NM.length cm') (.int .i64 tm) z2 (by have := HZN.out; omega)
                    have hz4 := HLA.out.boxZ (.slice pm' NM.length cm') (.int .i64 tm) z4 (by have := HZN.out; omega)
                    clear z2 z4 HLA HMA
                    go_upto_region 31 with fail
                    generalize hwB : World.setCell (World.setCell wA _ _) _ _ = wB
                    rw [hwB] at HLB HMB hz2 hz4
                    clear hwB d0 d1 d2 d3
                    obtain ⟨z2, hzs⟩ := hz2
                    obtain ⟨z4, _⟩ := hz4
                    go_wp2_with fail
                    refine (setReg_any HLB.out.pm fw si x hwf0 hi64 hxw).mono ?_
                    rintro e wC hS
                    obtain ⟨rfl, hp, hbt⟩ := hS.same HLB.out.pm
                    rw [HNM.out] at hp
                    rw [HNE.out]
                    have HLC := Lib.hid (HLB.out.setC (hbt.two BC) hp)
                    have HMC := Lib.hid (HMB.out.setC (hbt.two BC))
                    have z2 := hbt.cell z2 (by have := HZN.out; omega)
                    clear hS hp hbt HLB HMB z4
                    go_wp2_with fail
                    go_meet
                    exact ⟨_, NM, tm, wl, NE, rfl, rfl, ⟨HLC.out, HMC.out⟩, by rw [HNL.out]; exact hwm, htm, by omega, hwl2, HFW.out, z2, World.block_lt_of_cell? _ _ z2⟩
                  · have dk2 : (sk == 2) = false := by simpa using hk2
                    clear hk2
                    by_cases hk3 : sk = 3
                    · subst hk3
                      obtain ⟨c0, c1, _, _, _, _, _, _, _⟩ := HL9.out.lb
                      go_wp2_with fail
                      refine (rclear_any mv wm tm fw _ (sl.map Int.toNat) w9 HL9.out.mo.rd HL9.out.lb.pm.fit htl hmx hwf0 (rw_of (HLV.out.keep HL9.out.lb.bel) HFL.out)).mono ?_
                      rintro e wA ⟨mv', rfl, hrA, hbA, hfr⟩
                      have HMA := Lib.hid (MO.new HL9.out.lb HL9.out.mo hrA (by rw [clrM_len wm tm fw (sl.map Int.toNat)]; omega) hfr)
                      have HLA := Lib.hid (HL9.out.lb.keep hbA)
                      have z2 := below_cell hbA z2
                      have z4 := below_cell hbA z4
                      obtain ⟨pm', cm', rfl, _⟩ := rd_form0 hrA
                      have HNL := Lib.hid (show (clrM wm tm fw (sl.map Int.toNat)).length = wm.length from clrM_len wm tm fw (sl.map Int.toNat))
                      clear hrA hbA hfr c0 c1
                      obtain ⟨NM, hNM⟩ : ∃ x, clrM wm tm fw (sl.map Int.toNat) = x := ⟨_, rfl⟩
                      obtain ⟨NE, hNE⟩ : ∃ x, regE (wm.take tm) fw = x := ⟨_, rfl⟩
                      have HNM := Lib.hid hNM
                      have HNE := Lib.hid hNE
                      rw [hNM] at HMA HNL
                      rw [hNM, hNE]
                      clear hNM hNE
                      obtain ⟨d0, d1, d2, d3, _, _, _, _, _⟩ := HLA.out
                      have HLB := Lib.hid (HLA.out.box (.slice pm' NM.length cm') (.int .i64 tm)).1
                      have HMB := Lib.hid (HMA.out.box HLA.out (.slice pm' NM.length cm') (.int .i64 tm))
                      have hz2 := HLA.out.boxZ (.slice pm' NM.length cm') (.int .i64 tm) z2 (by have := HZN.out; omega)
                      have hz4 := HLA.out.boxZ (.slice pm' NM.length cm') (.int .i64 tm) z4 (by have := HZN.out; omega)
                      clear z2 z4 HLA HMA
                      go_upto_region 34 with fail
                      generalize hwB : World.setCell (World.setCell wA _ _) _ _ = wB
                      rw [hwB] at HLB HMB hz2 hz4
                      clear hwB d0 d1 d2 d3
                      obtain ⟨z2, hzs⟩ := hz2
                      obtain ⟨z4, _⟩ := hz4
                      go_wp2_with fail
                      refine (clear_any HLB.out.pm fw hwf0 _ (sl.map Int.toNat) (fun A hA => rw_of (HLV.out.keep (HLB.out.bel.trans (hA.below (X := w.heap.size) HLB.out.bel.size (by have := HLB.out.sz; omega)))) HFL.out)).mono ?_
                      rintro e wC hS
                      obtain ⟨rfl, hp, hbt⟩ := hS.same HLB.out.pm
                      rw [HNM.out] at hp
                      rw [HNE.out]
                      have HLC := Lib.hid (HLB.out.setC (hbt.two BC) hp)
                      have HMC := Lib.hid (HMB.out.setC (hbt.two BC))
                      have z2 := hbt.cell z2 (by have := HZN.out; omega)
                      clear hS hp hbt HLB HMB z4
                      go_wp2_with fail
                      go_meet
                      exact ⟨_, NM, tm, wl, NE, rfl, rfl, ⟨HLC.out, HMC.out⟩, by rw [HNL.out]; exact hwm, htm, by omega, hwl2, HFW.out, z2, World.block_lt_of_cell? _ _ z2⟩
                    · have dk3 : (sk == 3) = false := by simpa using hk3
                      clear hk3
                      go_wp2_with fail
                      go_meet
                      exact ⟨mv, wm, tm, wl, 0, rfl, rfl, HL9.out, hwm, htm, by omega, hwl2, HFW.out, z2, World.block_lt_of_cell? _ _ z2⟩
            case rest =>
              obtain ⟨mv', wm', tm', wl', e, rfl, rfl, hL', hwm', htm', hwl1', hwl2', hfw', hz2, hzl⟩ := hcut
              have HL' := Lib.hid hL'
              have HFW' := Lib.hid hfw'
              obtain ⟨pw', cw', rfl⟩ := ow_form hL'.lb.row
              have c0 := hL'.lb.c0
              have c1 := hL'.lb.c1
              have b0' := hL'.lb.pm.ma.box0
              have b1' := hL'.lb.pm.ma.box1
              have htl := hL'.lb.pm.t1
              have hee : (e != e) = false := by simp
              obtain ⟨pm', cm', rfl, _⟩ := rd_form0 hL'.mo.rd
              have HWM' := Lib.hid hwm'
              have hm20 : wm'.length ≤ 17592186043904 := by omega
              clear hL' hfw' z0 z1 z2 z3 z4 HL9 hwm'
              go_wp2_with fail
              refine (same13 _ _ wm' tm' _ HL'.out.mo.rd HL'.out.lb.pm.rd).mono ?_
              rintro e' wD ⟨rfl, hb⟩
              have HLD := Lib.hid (HL'.out.keep hb)
              have hz2 := below_cell hb hz2
              have c0 := HLD.out.lb.c0
              have c1 := HLD.out.lb.c1
              clear hb HL' b0' b1'
              go_wp2_with fail
              refine (asks_any _ wm' tm' fw si _ HLD.out.mo.rd HLD.out.lb.pm.fit htl hm20 hwf0 (wfi a8)).mono ?_
              rintro e' wE ⟨rfl, hb⟩
              have HLE := Lib.hid (HLD.out.keep hb)
              clear hb HLD c0 c1 hz2
              go_wp2_with fail
              go_roundw
              case rel => exact ⟨k + 1, _, wm', tm', wl', by go_num, hlt, HLE.out, HWM'.out, htm', by omega, hwl2', HFW'.out⟩
              case measure => simp [intOf]; omega
        · have hend : ¬ ((k : Int) < (ss.length : Int)) ∨ ((k : Int) < (ss.length : Int) ∧ ¬ ((k : Int) < 100)) := by omega
          have HBE := Lib.hid HL.out.lb.bel
          clear HL HFW
          rcases hend with hlz | ⟨hlz, hlz2⟩
          · go_wp2_with fail
            refine (setReg_nil 4 0 2 _).mono ?_
            rintro e wD ⟨rfl, hb⟩
            have HBD := Lib.hid (HBE.out.trans (hb.mono HBE.out.size))
            clear hb HBE
            go_wp2_with fail
            refine (clear_nil 4 (.slice none 0 0) _).mono ?_
            rintro e wE ⟨rfl, hb⟩
            have HBF := Lib.hid (HBD.out.trans (hb.mono HBD.out.size))
            clear hb HBD
            go_wp2_with fail
            go_ret
            exact ⟨rfl, HBF.out⟩
          · go_wp2_with fail
            refine (setReg_nil 4 0 2 _).mono ?_
            rintro e wD ⟨rfl, hb⟩
            have HBD := Lib.hid (HBE.out.trans (hb.mono HBE.out.size))
            clear hb HBE
            go_wp2_with fail
            refine (clear_nil 4 (.slice none 0 0) _).mono ?_
            rintro e wE ⟨rfl, hb⟩
            have HBF := Lib.hid (HBD.out.trans (hb.mono HBD.out.size))
            clear hb HBD
            go_wp2_with fail
            go_ret
            exact ⟨rfl, HBF.out⟩
end Go.Proofs.Ytilonacjmihglaa
