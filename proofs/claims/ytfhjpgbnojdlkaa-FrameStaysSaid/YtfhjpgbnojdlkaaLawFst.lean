/- The law of FrameStays, walked. -/
import Derived.Test.YtfhjpgbnojdlkaaK20
import Derived.Test.YtfhjpgbnojdlkaaFormOf
import Derived.Test.YtfhjpgbnojdlkaaSee
import Derived.Test.YtfhjpgbnojdlkaaRoomS
import Derived.Test.YtfhjpgbnojdlkaaCopy
import Derived.Test.YtfhjpgbnojdlkaaSame13
import Derived.Test.YtfhjpgbnojdlkaaRefAllNo
namespace Go.Proofs.Ytfhjpgbnojdlkaa
open Go Go.ChangeShapes Go.WideShapes Go.ChangeAt Go.RowKit
set_option linter.unusedVariables false
set_option linter.unusedSimpArgs false
set_option maxRecDepth 100000 in
set_option maxHeartbeats 1000000 in
theorem right20_any (v : Value) (ws : List Int) (top : Int) (w : World) (hr : Rd w v ws) (hf : Fit ws) (ht : -9223372036854775808 ≤ top ∧ top ≤ 9223372036854775807) :
    Calls Try.prog 30 #[.agg #[v, .int .i64 top]] w fun e w' => e = .returned (.bool (memOk ws top)) ∧ Below w.heap.size w w' := by
  have HL := Lib.hid (fun (wx : World) (hx : Below w.heap.size w wx) => refall_any v ws top wx (hr.keep hx) hf ht)
  obtain ⟨p, c, rfl, hm⟩ := rd_form0 hr
  clear hr hf
  go_enter Try.func30, Try.ntmps30
  go_wp2_with fail
  refine (HL.out _ (by ((repeat' (first | with_reducible assumption | with_reducible exact Below.refl _ _ | with_reducible refine Below.drew ?_ | with_reducible refine Below.alloc ?_ (by first | omega | (simp; omega) | (simp; done) | fail) _ | with_reducible refine Below.setCell ?_ (by first | omega | (simp; omega) | (simp; done) | fail) _ | fail)); (first | done | fail)))).mono ?_
  rintro e w2 ⟨hb2, u, rfl, ho⟩
  have HB2 := Lib.hid (Below.trans (show Below w.heap.size w _ by ((repeat' (first | with_reducible assumption | with_reducible exact Below.refl _ _ | with_reducible refine Below.drew ?_ | with_reducible refine Below.alloc ?_ (by first | omega | (simp; omega) | (simp; done) | fail) _ | with_reducible refine Below.setCell ?_ (by first | omega | (simp; omega) | (simp; done) | fail) _ | fail)); (first | done | fail))) (hb2.mono (by simp)))
  obtain ⟨pu, cu, rfl, _⟩ := ri_form (ri_own ho (by have := objs_len ws top; omega))
  clear hb2 ho
  go_wp2_with fail
  go_ret
  exact ⟨rfl, HB2.out⟩
theorem ints_nat {ls : List Int} (hf : Fit ls) : ints (ls.map Int.toNat) = ls := by
  unfold ints
  rw [List.map_map]
  conv => rhs; rw [← List.map_id ls]
  refine List.map_congr_left fun x hx => ?_
  obtain ⟨i, hi, rfl⟩ := List.getElem_of_mem hx
  have := hf i
  rw [List.getD_eq_getElem?_getD, List.getElem?_eq_getElem hi] at this
  simp only [Option.getD_some] at this
  simp only [Function.comp, id]
  omega
theorem rw_of {w : World} {v : Value} {ls : List Int} (h : Rd w v ls) (hf : Fit ls) : Rw w v (ls.map Int.toNat) := by
  refine ⟨by rw [ints_nat hf]; exact h, fun i => ?_⟩
  have h1 := ints_getD (ls.map Int.toNat) i
  rw [ints_nat hf] at h1
  have := hf i
  omega
theorem fst_num {f : Int} {a n tn N : Nat} (h : a + 8 + n ≤ tn) (h2 : tn ≤ N) (h3 : N ≤ 1048576) (hf : f / 4 = (a : Int)) (h0 : 0 ≤ f) : (a : Int) ≤ 1048576 ∧ wrap64 (wrap64 (IntKind.u64.wrap (f.tdiv 4)) + 8) = (a : Int) + 8 := by
  refine ⟨by omega, ?_⟩
  rw [Int.tdiv_eq_ediv_of_nonneg h0, hf, u64w, Int.emod_eq_of_lt (by omega) (by omega), w64_in (a : Int) (by omega), w64_in _ (by omega)]
theorem fst_r {a k N : Nat} (h : (a : Int) ≤ 1048576) (h2 : k < N) (h3 : N ≤ 1048576) : wrap64 ((k : Int) - ((a : Int) + 8)) = (k : Int) - ((a : Int) + 8) := w64_in _ (by omega)
/-- The places of a frame's registers, as the law asks them. -/
theorem fst_cases {ws ws' : List Int} {a n k : Nat} {live : List Nat} (hg : ws'.getD k 0 = if a + 8 ≤ k ∧ k < a + 8 + n ∧ hasW live (k - (a + 8)) = false then 14 else ws.getD k 0) :
    ((k : Int) - ((a : Int) + 8) < 0 ∧ ws'.getD k 0 = ws.getD k 0) ∨ (0 ≤ (k : Int) - ((a : Int) + 8) ∧ (n : Int) ≤ (k : Int) - ((a : Int) + 8) ∧ ws'.getD k 0 = ws.getD k 0) ∨
    ∃ r : Nat, (k : Int) - ((a : Int) + 8) = (r : Int) ∧ r < n ∧ ws'.getD k 0 = if hasW live r = false then 14 else ws.getD k 0 := by
  rcases Nat.lt_or_ge k (a + 8) with h | h
  · left; exact ⟨by omega, by rw [hg, if_neg (by omega)]⟩
  · rcases Nat.lt_or_ge k (a + 8 + n) with h' | h'
    · right; right
      refine ⟨k - (a + 8), by omega, by omega, ?_⟩
      rw [hg]
      by_cases hb : hasW live (k - (a + 8)) = false
      · rw [if_pos ⟨h, h', hb⟩, if_pos hb]
      · rw [if_neg (fun g => hb g.2.2), if_neg hb]
    · right; left; exact ⟨by omega, by omega, by rw [hg, if_neg (by omega)]⟩
theorem fst_meas {k N : Nat} (h : k < N) : N - (intOf (Value.int IntKind.i64 ((k : Int) + 1))).toNat < N - (intOf (Value.int IntKind.i64 (k : Int))).toNat := by simp [intOf]; omega
theorem fst_out {r q N : Nat} (h : r / 64 = q) (h2 : ¬ q < N) : 64 * N ≤ r := by omega
theorem fst_top {tn N : Nat} (h : tn ≤ N) (h2 : N ≤ 1048576) : -9223372036854775808 ≤ (tn : Int) ∧ (tn : Int) ≤ 9223372036854775807 := by omega
theorem fst_47 {N : Nat} (h : N ≤ 1048576) : N ≤ 140737488351232 := by omega
theorem fst_one {i : Nat} (h : i < 1) : i = 0 := by omega
theorem fst_sz {vs : List Int} {a n : Nat} (h : hS (headAt vs (a : Int)) = 8 + n) : a + 8 + n ≤ a + sz vs a := by unfold sz; rw [h]; omega
theorem fst_fit {f : Int} (h : 0 ≤ f ∧ f ≤ 18446744073709551615) : Fit [f] := fun i => by
  match i with
  | 0 => simpa using h
  | i + 1 => simp
/-- A row with marks behind it reads as the row. -/
theorem LU.rd_room {w : World} {g : Nat} {ls : List Int} (h : LU w g (roomL ls)) (hm : ls.length ≤ 17592186043904) : Rd w (.slice (some ⟨g, 0, none⟩) ls.length (ls.length + 6)) ls :=
  .inr ⟨g, 0, _, rfl, by omega, hm, fun i hi => by
    rw [Nat.zero_add, h.cell (by rw [roomL_len]; omega), roomL_lo hi]⟩
set_option maxRecDepth 100000 in
set_option maxHeartbeats 4000000 in
theorem law_fst (u : Value) (ws : List Int) (top : Int) (f : Int) (lv : Value) (ls : List Int) (w : World) (hr : Rd w u ws) (hf : Fit ws) (ht : -9223372036854775808 ≤ top ∧ top ≤ 9223372036854775807) (hw : (Lit.int .u64 f).wf = true) (hl : Rd w lv ls) (hfl : Fit ls) :
    Calls Try.prog 10 #[.agg #[u, .int .i64 top], .int .u64 f, lv] w fun e w' => e = .returned (.bool true) ∧ Below w.heap.size w w' := by
  have HR := Lib.hid hr
  have HF := Lib.hid hf
  have HL := Lib.hid hl
  have HFL := Lib.hid hfl
  obtain ⟨p, c, rfl, hm⟩ := rd_form0 hr
  obtain ⟨pl, cl, rfl, hml⟩ := rd_form0 hl
  clear hr hf hl hfl
  go_enter Try.func10, Try.ntmps10
  go_wp2_with fail
  generalize hw1 : World.alloc w _ = w1
  have hb1 : Below w.heap.size w w1 := by rw [← hw1]; exact (Below.refl _ _).alloc (Nat.le_refl _) _
  have HM1 := Lib.hid (show Bm w1 w.heap.size p ws.length c top by rw [← hw1]; exact Bm.new _ _ _ _ _ _)
  have hs1 : w.heap.size < w1.heap.size := by rw [← hw1]; simp
  clear hw1
  refine (known20 _).mono ?_
  rintro e w2 ⟨rfl, hb⟩
  have HB2 := Lib.hid (hb1.trans (hb.mono hb1.size))
  have HM2 := Lib.hid (HM1.out.keep hb)
  have hs2 : w.heap.size < w2.heap.size := by have := hb.size; omega
  obtain ⟨m0, m1⟩ := HM2.out
  clear hb1 hb hs1 HM1
  go_wp2_with fail
  refine (right20_any _ ws top _ (HR.out.keep HB2.out) HF.out ht).mono ?_
  rintro e w3 ⟨rfl, hb⟩
  have HB3 := Lib.hid (HB2.out.trans (hb.mono HB2.out.size))
  have HM3 := Lib.hid (HM2.out.keep hb)
  have hs3 : w.heap.size < w3.heap.size := by have := hb.size; omega
  clear hb hs2 HM2 HB2 m0 m1
  obtain ⟨m0, m1⟩ := HM3.out
  cases hmk : memOk ws top
  · go_wp2_with fail
    go_ret
    exact ⟨rfl, HB3.out⟩
  · obtain ⟨tn, rfl, hform⟩ := form_of hmk
    have HFO := Lib.hid hform
    have htn := hform.le
    have htn1 := hform.one
    have hmost := hform.most
    clear hmk hform
    go_wp2_with fail
    refine (regs_any _ ws tn f _ (HR.out.keep HB3.out) HF.out htn hw).mono ?_
    rintro e w4 ⟨rfl, hb⟩
    have HB4 := Lib.hid (HB3.out.trans (hb.mono HB3.out.size))
    have HM4 := Lib.hid (HM3.out.keep hb)
    have hs4 : w.heap.size < w4.heap.size := by have := hb.size; omega
    clear hb hs3 HM3 HB3 m0 m1
    obtain ⟨m0, m1⟩ := HM4.out
    obtain ⟨vs, hvs⟩ : ∃ vs, ws.take tn = vs := ⟨_, rfl⟩
    have HV := Lib.hid hvs
    rw [hvs]
    clear hvs
    go_wp2_with fail
    refine (copy13_any _ ws tn _ (HR.out.keep HB4.out)).mono ?_
    rintro e w5 ⟨v', rfl, hown, hb⟩
    have HB5 := Lib.hid (HB4.out.trans (hb.mono HB4.out.size))
    have HM5 := Lib.hid (HM4.out.keep hb)
    have hs5 : w4.heap.size ≤ w5.heap.size := hb.size
    obtain ⟨gc, cc, rfl, hgc, hcc, hrow⟩ := row_own hown (by have := HFO.out.two; omega)
    have hgl := hrow.lt
    have HROW := Lib.hid hrow
    clear hb HM4 HB4 m0 m1 hown hrow
    obtain ⟨m0, m1⟩ := HM5.out
    have m0 := fun o => alloc_cell m0 o
    have m1 := fun o => alloc_cell m1 o
    go_wp2_with fail
    obtain ⟨w6, hw6⟩ : ∃ w6, w5.alloc (Obj.cells #[Value.slice (some ⟨gc, 0, none⟩) ws.length cc, Value.int IntKind.i64 tn] 24) = w6 := ⟨_, rfl⟩
    rw [hw6]
    have hb6 : Below w5.heap.size w5 w6 := by rw [← hw6]; exact (Below.refl _ _).alloc (Nat.le_refl _) _
    have HP6 := Lib.hid (show PM w6 w5.heap.size gc cc tn ws by
      refine ⟨⟨by rw [← hw6]; simp, by rw [← hw6]; simp, by rw [← hw6]; simp, ?_, hcc, by omega, by omega⟩, HF.out, htn⟩
      rw [← hw6]
      obtain ⟨F, r1, r2⟩ := HROW.out
      exact ⟨F, r1.alloc _, r2⟩)
    have hs6 : w6.heap.size = w5.heap.size + 1 := by rw [← hw6]; simp
    have HB6 := Lib.hid (HB5.out.trans (hb6.mono HB5.out.size))
    have HM6 := Lib.hid (HM5.out.keep hb6)
    clear hw6 hb6 HB5 HM5 m0 m1 HROW
    refine (room_any _ ls _ (HL.out.keep HB6.out)).mono ?_
    rintro e w7 ⟨gr, rfl, hlu, hgr, hb⟩
    have HB7 := Lib.hid (HB6.out.trans (hb.mono HB6.out.size))
    have HM7 := Lib.hid (HM6.out.keep hb)
    have HP7 := Lib.hid (HP6.out.keep hb)
    have HLU7 := Lib.hid hlu
    have hs7 : w6.heap.size ≤ w7.heap.size := hb.size
    obtain ⟨m0, m1⟩ := HM7.out
    clear hb hlu HB6 HM6 HP6
    have hlive : ∀ A, But1 gc w7 A → Rw A (.slice (some ⟨gr, 0, none⟩) ls.length (ls.length + 6)) (ls.map Int.toNat) := fun A hA =>
      rw_of (LU.rd_room ((hA.block gr (by have := HLU7.out.lt; omega) (by omega)).trans HLU7.out) hml) HFL.out
    have HC := clear_any HP7.out f hw _ _ hlive
    unfold CPost at HC
    rw [HV.out] at HC
    go_wp2_with fail
    refine HC.mono ?_
    clear HC hlive
    rintro e w8 (⟨hF, rfl, hb⟩ | ⟨hF, rfl, hpm, hbt⟩)
    · have HB8 := Lib.hid (HB7.out.trans (hb.mono HB7.out.size))
      have HM8 := Lib.hid (HM7.out.keep hb)
      have HP8 := Lib.hid (HP7.out.keep hb)
      have HLU8 := Lib.hid (show LU w8 gr (roomL ls) from (hb.block gr HLU7.out.lt).trans HLU7.out)
      have hre : regE vs f = 1 := by unfold regE; rw [hF]; rfl
      rw [hre]
      clear hb HB7 HM7 HP7 HLU7 m0 m1 hF hre
      go_wp2_with fail
      refine (kept_any gr _ ls _ HLU8.out (HL.out.keep HB8.out)).mono ?_
      rintro e w9 ⟨rfl, hb⟩
      have HB9 := Lib.hid (HB8.out.trans (hb.mono HB8.out.size))
      have HP9 := Lib.hid (HP8.out.keep hb)
      obtain ⟨m0, m1⟩ := HM8.out.keep hb
      have b0 := HP9.out.ma.box0
      have b1 := HP9.out.ma.box1
      clear hb HB8 HM8 HP8 HLU8
      go_wp2_with fail
      refine (same13 _ _ ws tn _ HP9.out.rd (HR.out.keep HB9.out)).mono ?_
      rintro e w10 ⟨rfl, hb⟩
      have HB10 := Lib.hid (HB9.out.trans (hb.mono HB9.out.size))
      clear hb
      go_wp2_with fail
      go_ret
      exact ⟨rfl, HB10.out⟩
    · have HB8 := Lib.hid (HB7.out.trans (hbt.below (X := w.heap.size) HB7.out.size (by omega)))
      have HM8 := Lib.hid (show Bm w8 w.heap.size p ws.length c tn from ⟨hbt.cell m0 (by omega), hbt.cell m1 (by omega)⟩)
      have HLU8 := Lib.hid (show LU w8 gr (roomL ls) from (hbt.block gr HLU7.out.lt (by omega)).trans HLU7.out)
      have hre : regE vs f = 0 := by unfold regE; rw [hF]; rfl
      have HI := Lib.hid (isF_in hF)
      have HFF := Lib.hid hF
      have hx := wfu hw
      obtain ⟨a, ha⟩ : ∃ a : Nat, f / 4 = (a : Int) := ⟨(f / 4).toNat, by omega⟩
      obtain ⟨n, hn⟩ : ∃ n : Nat, frN vs f = (n : Int) := ⟨(frN vs f).toNat, by have := HI.out.2.2.2; omega⟩
      rw [ha, hn, Int.toNat_natCast, Int.toNat_natCast] at hpm
      have HP8 := Lib.hid hpm
      have HA := Lib.hid ha
      have HN := Lib.hid hn
      have hvl : vs.length = tn := by rw [← HV.out, List.length_take]; omega
      have HAN := Lib.hid (show there vs (a : Int) = true ∧ hT (headAt vs (a : Int)) = 6 + n ∧ hS (headAt vs (a : Int)) = 8 + n ∧ a + 8 + n ≤ tn ∧ 1 ≤ a by
        obtain ⟨i1, i2, i3, i4, i5, i6⟩ := HI.out
        rw [ha] at i2 i4 i5 i6
        have := there_in i2
        rw [hn] at i4
        refine ⟨i2, by omega, by omega, by omega, by omega⟩)
      have han := HAN.out.2.2.2.1
      obtain ⟨hab, he8⟩ := fst_num han htn hmost ha hx.1
      have HE8 := Lib.hid he8
      clear he8
      rw [hre, hn]
      clear hpm hbt HB7 HM7 HP7 HLU7 m0 m1 hF hre hn hx hvl
      go_wp2_with fail
      refine (kept_any gr _ ls _ HLU8.out (HL.out.keep HB8.out)).mono ?_
      rintro e w9 ⟨rfl, hb⟩
      have HB9 := Lib.hid (HB8.out.trans (hb.mono HB8.out.size))
      have HP9 := Lib.hid (HP8.out.keep hb)
      have HM9 := Lib.hid (HM8.out.keep hb)
      obtain ⟨m0, m1⟩ := HM9.out
      have b0 := HP9.out.ma.box0
      have b1 := HP9.out.ma.box1
      have hcl : (clrL ws a (ls.map Int.toNat) n).length = ws.length := clr_len _ _ _ _
      rw [hcl] at b0
      have HRW := Lib.hid (rw_of (HL.out.keep HB9.out) HFL.out)
      have HWC := Lib.hid (fun k (hk : k < ws.length) => (HP9.out.ma.row.cell HP9.out.ma.le (i := k) (by rw [hcl]; exact hk)))
      have HWM := Lib.hid (fun (hk : 0 < ws.length) => (HR.out.keep HB9.out).some hk)
      have HGD := Lib.hid (fun j => clr_getD ws a (ls.map Int.toNat) n j (by omega))
      clear hb HB8 HM8 HP8 HLU8 hcl
      clear ha
      go_wp2_with fail
      obtain ⟨A8, hA8⟩ : ∃ A8 : Int, A8 = (a : Int) + 8 := ⟨_, rfl⟩
      rw [HE8.out, ← hA8]
      have HA8 := Lib.hid hA8
      clear hA8
      obtain ⟨ws', hws'⟩ : ∃ l, clrL ws a (ls.map Int.toNat) n = l := ⟨_, rfl⟩
      rw [hws'] at HP9 HWC HGD
      have HW' := Lib.hid hws'
      clear hws'
      go_loopw [13, 14, 15] (fun s _ _ wr => ∃ k q : Nat, s = .int .i64 k ∧ k ≤ ws.length ∧ wr = w9.drewN q) (fun s _ _ _ => ws.length - (intOf s).toNat)
      case atStart => exact ⟨0, 0, by go_num, Nat.zero_le _, rfl⟩
      case round =>
        obtain ⟨k, q, rfl, hk, rfl⟩ := hrel
        by_cases hlt : k < ws.length
        · have hlz : (k : Int) < (ws.length : Int) := Int.ofNat_lt.2 hlt
          have hcw := HWC.out k hlt
          obtain ⟨b, off, c2, hv, hcc2, hmm, hcell⟩ := HWM.out (Nat.lt_of_le_of_lt (Nat.zero_le _) hlt)
          cases hv
          have hcm := hcell k hlt
          have hn1 : wrap64 ((k : Int) - A8) = (k : Int) - ((a : Int) + 8) := by rw [HA8.out]; exact fst_r hab hlt hmost
          have HGC := Lib.hid (fst_cases (HGD.out k))
          generalize ws.getD k 0 = x at hcm HGC
          generalize ws'.getD k 0 = y at hcw HGC
          obtain ⟨R, hRR⟩ : ∃ R : Int, (k : Int) - ((a : Int) + 8) = R := ⟨_, rfl⟩
          rw [hRR] at HGC
          rw [hRR] at hn1
          clear hRR hcell hcc2 hmm
          have hne : ∀ z : Int, (z != z) = false := fun z => by simp
          rcases HGC.out with ⟨h1, rfl⟩ | ⟨h1, h2, rfl⟩ | ⟨r, rfl, h1, h2⟩
          · have d1 : decide (0 ≤ R) = false := decide_eq_false (Int.not_le.2 h1)
            have hy := hne y
            clear HGC
            go_wp2_with fail
            go_quiet (fail)
            go_wp2_with fail
            go_roundw
            case rel => exact ⟨k + 1, _, by go_num, hlt, rfl⟩
            case measure => exact fst_meas hlt
          · have hy := hne y
            have d1 : (0 : Int) ≤ R := h1
            have d2 : decide (R < (n : Int)) = false := decide_eq_false (Int.not_lt.2 h2)
            clear HGC h1 h2
            go_wp2_with fail
            go_quiet (fail)
            go_wp2_with fail
            go_roundw
            case rel => exact ⟨k + 1, _, by go_num, hlt, rfl⟩
            case measure => exact fst_meas hlt
          · have hrn : (r : Int) < (n : Int) := Int.ofNat_lt.2 h1
            obtain ⟨qd, hqd⟩ : ∃ qd, r / 64 = qd := ⟨_, rfl⟩
            obtain ⟨qm, hqm⟩ : ∃ qm, r % 64 = qm := ⟨_, rfl⟩
            have e1 : (r : Int) / 64 = (qd : Int) := by rw [← hqd]; rfl
            have e2 : (r : Int) % 64 = (qm : Int) := by rw [← hqm]; rfl
            have hkm : qm < 64 := by rw [← hqm]; exact Nat.mod_lt _ (by decide)
            by_cases hq : qd < ls.length
            · have hqz : (qd : Int) < (ls.length : Int) := Int.ofNat_lt.2 hq
              have hqg : decide ((ls.length : Int) ≤ (qd : Int)) = false := decide_eq_false (Int.not_le.2 hqz)
              have hqg2 : decide (ls.length ≤ qd) = false := decide_eq_false (Nat.not_le.2 hq)
              obtain ⟨pw, cw, hvw, _, _, hpw⟩ := rw_form HRW.out
              rw [List.length_map] at hvw hpw
              cases hvw
              obtain ⟨b3, o3, hb3, hcl3⟩ := hpw qd hq
              subst hb3
              obtain ⟨d, hd⟩ : ∃ d, (ls.map Int.toNat).getD qd 0 = d := ⟨_, rfl⟩
              have hdw := HRW.out.2 qd
              rw [hd] at hcl3 hdw
              obtain ⟨z, hz⟩ : ∃ z, d / 2 ^ qm = z := ⟨_, rfl⟩
              have hzl : z < 18446744073709551616 := by rw [← hz]; exact Nat.lt_of_le_of_lt (Nat.div_le_self _ _) hdw
              have e3 : (d : Int) / 2 ^ qm = (z : Int) := by rw [shr_int, hz]
              have e4 := and_one hzl
              have HBT := Lib.hid (show hasW (ls.map Int.toNat) r = decide (z % 2 = 1) by
                unfold hasW
                rw [hqd, hqm, hd, Nat.testBit_eq_decide_div_mod_eq, hz])
              rw [HBT.out] at h2
              clear hpw hqd hqm hd hz HGC h1
              rcases Nat.mod_two_eq_zero_or_one z with hz2 | hz2
              · rw [hz2] at e4
                have hyy : y = 14 := by rw [h2, hz2]; rfl
                subst hyy
                clear h2
                go_wp2_with fail
                go_quiet (fail)
                go_wp2_with fail
                go_roundw
                case rel => exact ⟨k + 1, _, by go_num, hlt, rfl⟩
                case measure => exact fst_meas hlt
              · rw [hz2] at e4
                have hyy : y = x := by rw [h2, hz2]; rfl
                subst hyy
                have hy := hne y
                clear h2
                go_wp2_with fail
                go_quiet (fail)
                go_wp2_with fail
                go_roundw
                case rel => exact ⟨k + 1, _, by go_num, hlt, rfl⟩
                case measure => exact fst_meas hlt
            · have hqz : (ls.length : Int) ≤ (qd : Int) := Int.ofNat_le.2 (Nat.not_lt.1 hq)
              have hyy : y = 14 := by
                rw [h2, has_out (by rw [List.length_map]; exact fst_out hqd hq)]; rfl
              subst hyy
              clear HGC h1 h2 hqd hqm
              go_wp2_with fail
              go_quiet (fail)
              go_wp2_with fail
              go_roundw
              case rel => exact ⟨k + 1, _, by go_num, hlt, rfl⟩
              case measure => exact fst_meas hlt
        · have hke : k = ws.length := Nat.le_antisymm hk (Nat.not_lt.1 hlt)
          subst hke
          have hlz : ¬ (ws.length : Int) < (ws.length : Int) := Int.lt_irrefl _
          have HP10 := Lib.hid (show PM (w9.drewN q) w5.heap.size gc cc tn ws' from HP9.out.of rfl rfl)
          have HB10 := Lib.hid (below_drewN HB9.out q)
          have hl' : ws'.length = ws.length := by rw [← HW'.out, clr_len]
          have HC := check_any _ ws' tn _ HP10.out.rd HP10.out.fit (fst_top htn hmost)
          rw [hl'] at HC
          go_wp2_with fail
          refine HC.mono ?_
          clear HC
          rintro e w10 ⟨rfl, hb⟩
          have HB11 := Lib.hid (HB10.out.trans (hb.mono HB10.out.size))
          have HM11 := Lib.hid ((show Bm (w9.drewN q) w.heap.size p ws.length c tn from ⟨HM9.out.c0, HM9.out.c1⟩).keep hb)
          clear hb HP10 HB10 m0 m1 b0 b1
          obtain ⟨m0, m1⟩ := HM11.out
          by_cases hce : checkE ws' tn = 0
          · rw [hce]
            go_wp2_with fail
            go_ret
            exact ⟨rfl, HB11.out⟩
          · have hcb : (checkE ws' tn == 0) = false := by simpa using hce
            have HNL := Lib.hid (show a ∉ objList ws tn from fun hmem => hce (by
              rw [← HW'.out]
              exact form_clr_ok HFO.out hmem _ n (fst_sz (by rw [HV.out]; exact HAN.out.2.2.1))))
            have hkf := HI.out.1
            have hgw : goodW (ws.take tn) f = true := by
              unfold goodW
              rw [if_pos hkf, HV.out]
              exact HI.out.2.1
            have hrb : rootsB ws tn [f] = false := by
              unfold rootsB
              rw [Bool.and_eq_false_iff]
              right
              simp only [List.all_cons, List.all_nil, Bool.and_true]
              unfold rightW
              rw [hkf, HA.out, Int.toNat_natCast]
              simp [HNL.out]
            have HGW := Lib.hid hgw
            have HRB := Lib.hid hrb
            clear hkf hgw hrb hce
            go_wp2_with fail
            have HC := good16_any _ ws tn f _ (HR.out.keep HB11.out) HF.out htn (fst_47 hmost) hw
            rw [HGW.out] at HC
            refine HC.mono ?_
            clear HC
            rintro e w11 ⟨rfl, hb⟩
            have HB12 := Lib.hid (HB11.out.trans (hb.mono HB11.out.size))
            have HM12 := Lib.hid (HM11.out.keep hb)
            clear hb m0 m1
            obtain ⟨m0, m1⟩ := HM12.out
            have m0 := fun o => alloc_cell m0 o
            have m1 := fun o => alloc_cell m1 o
            go_wp2_with fail
            obtain ⟨w12, hw12⟩ : ∃ w12, w11.alloc (Obj.cells #[Value.int IntKind.u64 f] 46) = w12 := ⟨_, rfl⟩
            rw [hw12]
            have HB13 := Lib.hid (show Below w.heap.size w w12 by rw [← hw12]; exact HB12.out.alloc HB12.out.size _)
            have hrf : Rd w12 (.slice (some ⟨w11.heap.size, 0, none⟩) 1 1) [f] := .inr ⟨w11.heap.size, 0, 1, rfl, Nat.le_refl _, by simp, fun i hi => by
              obtain rfl : i = 0 := fst_one hi
              rw [← hw12]; simp⟩
            have hff : Fit [f] := fst_fit (wfu hw)
            have HC := right14_any _ ws tn _ [f] w12 (HR.out.keep HB13.out) HF.out ht hrf hff
            rw [HRB.out] at HC
            refine HC.mono ?_
            clear HC hrf hw12
            rintro e w13 ⟨rfl, hb⟩
            have HB14 := Lib.hid (HB13.out.trans (hb.mono HB13.out.size))
            clear hb
            go_wp2_with fail
            go_ret
            exact ⟨rfl, HB14.out⟩
end Go.Proofs.Ytfhjpgbnojdlkaa
