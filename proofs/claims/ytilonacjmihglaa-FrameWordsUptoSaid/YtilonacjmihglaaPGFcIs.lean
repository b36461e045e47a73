/- Layer 20: the document's Is. Layer 16, the document's: See, whose parts read in every world that keeps what was there ahead of it. -/
import Derived.Test.YtilonacjmihglaaPSee
import Derived.Test.YtilonacjmihglaaPFrm
import Derived.Test.YtilonacjmihglaaPGAlloc
import Derived.BigRegion
namespace Go.Proofs.Ytilonacjmihglaa
section
open Go Go.ChangeShapes Go.WideShapes Go.ChangeAt Go.RowKit
set_option linter.unusedVariables false
set_option linter.unusedSimpArgs false
theorem tag_len {vs : List Int} {f : Int} (h : lOk vs f = true) : ((tagL vs f).length : Int) = lT vs f ∧ ((rawL vs f).length : Int) = lR vs f := by
  have h' := h
  unfold lOk at h'
  rw [Bool.and_eq_true, decide_eq_true_eq] at h'
  have hin := there_in h'.2
  have e1 : lT vs f = hT (headAt vs (f / 4)) := by unfold lT; rw [if_pos h]
  have e2 : lR vs f = hS (headAt vs (f / 4)) - 2 - hT (headAt vs (f / 4)) := by unfold lR; rw [if_pos h]
  have h3 := hT_lo (headAt vs (f / 4))
  unfold tagL rawL
  rw [if_pos h, if_pos h, List.length_take, List.length_take, List.length_drop, List.length_drop, e1, e2]
  omega
def IsPost (W : World) (vs : List Int) (f : Int) (e : Ending) (w' : World) : Prop :=
  ∃ tv rv, e = .returned (.tuple #[.agg #[.int .i64 (lA vs f), .int .i64 (lK vs f), tv, rv], .bool (isF vs f)]) ∧ Rd w' tv (tagL vs f) ∧ Rd w' rv (rawL vs f) ∧ Below W.heap.size W w'
theorem isF_parts {vs : List Int} {f : Int} : isF vs f = (lOk vs f && (decide (lK vs f = 19) && (decide (6 ≤ (tagL vs f).length) && decide ((rawL vs f).length = 0)))) := by
  unfold isF
  cases h : lOk vs f with
  | false => rfl
  | true =>
    obtain ⟨h1, h2⟩ := tag_len h
    rw [Bool.true_and, Bool.true_and]
    congr 2
    · rw [Bool.eq_iff_iff, decide_eq_true_eq, decide_eq_true_eq]; omega
    · rw [Bool.eq_iff_iff, decide_eq_true_eq, decide_eq_true_eq]; omega
theorem rd_setK {w : World} {v : Value} {ls : List Int} (h : Rd w v ls) {X j : Nat} {u : Value} (hc : w.cell? ⟨X, j, none⟩ = some u) (hu : ∀ x, u ≠ .int .u64 x) (u' : Value) : Rd (w.setCell ⟨X, j, none⟩ u') v ls := by
  rcases h with h | ⟨b, off, c, rfl, h1, h2, h3⟩
  · exact .inl h
  · refine .inr ⟨b, off, c, rfl, h1, h2, fun i hi => ?_⟩
    have h4 := h3 i hi
    rw [World.cell?_setCell_other]
    · exact h4
    · intro e
      rw [← e, hc] at h4
      exact hu _ (Option.some.inj h4)
theorem rd_box4 {w : World} {v : Value} {ls : List Int} (h : Rd w v ls) {X : Nat} (q0 : w.cell? ⟨X, 0, none⟩ = some (.int .i64 0)) (q1 : w.cell? ⟨X, 1, none⟩ = some (.int .i64 0)) (q2 : w.cell? ⟨X, 2, none⟩ = some (.slice none 0 0)) (q3 : w.cell? ⟨X, 3, none⟩ = some (.slice none 0 0)) (a b c d : Value) :
    Rd ((((w.setCell ⟨X, 0, none⟩ a).setCell ⟨X, 1, none⟩ b).setCell ⟨X, 2, none⟩ c).setCell ⟨X, 3, none⟩ d).drew v ls := by
  have o : ∀ (w : World) (i j : Nat) (u x : Value), i ≠ j → w.cell? ⟨X, j, none⟩ = some x → (w.setCell ⟨X, i, none⟩ u).cell? ⟨X, j, none⟩ = some x := fun w i j u x hn hx => by
    rw [World.cell?_setCell_other]
    · exact hx
    · intro e; injection e with _ e2; exact hn e2
  have h1 := rd_setK h q0 (fun x e => by cases e) a
  have h2 := rd_setK h1 (o _ 0 1 a _ (by decide) q1) (fun x e => by cases e) b
  have h3 := rd_setK h2 (o _ 1 2 b _ (by decide) (o _ 0 2 a _ (by decide) q2)) (fun x e => by cases e) c
  have h4 := rd_setK h3 (o _ 2 3 c _ (by decide) (o _ 1 3 b _ (by decide) (o _ 0 3 a _ (by decide) q3))) (fun x e => by cases e) d
  exact h4.keep ((Below.refl _ _).drew)
set_option maxRecDepth 100000 in
set_option maxHeartbeats 4000000 in
theorem ris_any (v : Value) (ws : List Int) (tn : Nat) (f : Int) (w : World) (hr : Rd w v ws) (hf : Fit ws) (ht : tn ≤ ws.length) (hm20 : ws.length ≤ 140737488351232) (hw : (Lit.int .u64 f).wf = true) :
    Calls Try.prog 33 #[.agg #[v, .int .i64 tn], .int .u64 f] w (IsPost w (ws.take tn) f) := by
  have HL := Lib.hid (fun (wx : World) (hx : Below w.heap.size w wx) => see_any v ws tn f wx (hr.keep hx) hf ht hm20 hw)
  obtain ⟨p, c, rfl, hm⟩ := rd_form0 hr
  obtain ⟨vs, hvs⟩ : ∃ vs, ws.take tn = vs := ⟨_, rfl⟩
  rw [hvs] at HL ⊢
  clear hf hr hvs
  go_enter Try.func33, Try.ntmps33
  go_upto_region 1 with fail
  generalize hw1 : World.alloc (World.alloc w _) _ = w1
  have HB1 := Lib.hid (show Below w.heap.size w w1 by rw [← hw1]; exact ((Below.refl _ _).alloc (Nat.le_refl _) _).alloc (by simp) _)
  have HM1 := Lib.hid (show Bm w1 w.heap.size p ws.length c tn by rw [← hw1]; exact (Bm.new _ _ _ _ _ _).keep ((Below.refl _ _).alloc (Nat.le_refl _) _))
  have HQ1 := Lib.hid (show B4 w1 (w.heap.size + 1) (.int .i64 0) (.int .i64 0) (.slice none 0 0) (.slice none 0 0) by rw [← hw1]; have := B4.new (w.alloc (.cells #[.slice p ws.length c, .int .i64 tn] 24)) (.int .i64 0) (.int .i64 0) (.slice none 0 0) (.slice none 0 0) 72; simpa using this)
  clear hw1
  obtain ⟨m0, m1⟩ := HM1.out
  go_wp2_with fail
  refine (HL.out _ HB1.out).mono ?_
  rintro e w2 ⟨tv, rv, rfl, hr1, hr2, hb2⟩
  have HB2 := Lib.hid (HB1.out.trans (hb2.mono HB1.out.size))
  have HQ2 := Lib.hid (HQ1.out.keep hb2)
  have hs2 := HQ2.out.lt
  have HR1 := Lib.hid hr1
  have HR2 := Lib.hid hr2
  obtain ⟨p1, c1, rfl, _⟩ := rd_form0 hr1
  obtain ⟨p2, c2, rfl, _⟩ := rd_form0 hr2
  have HIF := Lib.hid (isF_parts (vs := vs) (f := f))
  clear hb2 HM1 HB1 HQ1 HL m0 m1 hr1 hr2
  go_upto_region 2 with fail
  generalize hw3 : World.alloc w2 _ = w3
  have hb3 : Below w2.heap.size w2 w3 := by rw [← hw3]; exact (Below.refl _ _).alloc (Nat.le_refl _) _
  have HQ3 := Lib.hid (show B4 w3 w2.heap.size (.int .i64 (lA vs f)) (.int .i64 (lK vs f)) (.slice p1 (tagL vs f).length c1) (.slice p2 (rawL vs f).length c2) by rw [← hw3]; exact B4.new _ _ _ _ _ _)
  have HB3 := Lib.hid (HB2.out.trans (hb3.mono HB2.out.size))
  obtain ⟨q0, q1, q2, q3, g0, g1, g2, g3⟩ := HQ2.out.keep hb3
  obtain ⟨k0, k1, k2, k3, _, _, _, _⟩ := HQ3.out
  have hRT := fun (a b c d : Value) => rd_box4 (HR1.out.keep hb3) q0 q1 q2 q3 a b c d
  have hRR := fun (a b c d : Value) => rd_box4 (HR2.out.keep hb3) q0 q1 q2 q3 a b c d
  clear hw3 hb3 HB2 HQ2 HR1 HR2
  obtain ⟨A, hA⟩ : ∃ x, lA vs f = x := ⟨_, rfl⟩
  obtain ⟨K, hK⟩ : ∃ x, lK vs f = x := ⟨_, rfl⟩
  obtain ⟨TL, hTL⟩ : ∃ x, (tagL vs f).length = x := ⟨_, rfl⟩
  obtain ⟨RL, hRL⟩ : ∃ x, (rawL vs f).length = x := ⟨_, rfl⟩
  rw [hA] at k0
  rw [hK] at k1 HIF
  rw [hTL] at k2 HIF
  rw [hRL] at k3 HIF
  rw [hTL] at hRT
  rw [hRL] at hRR
  have HRT := Lib.hid hRT
  have HRR := Lib.hid hRR
  clear hRT hRR
  have HA := Lib.hid hA
  have HK := Lib.hid hK
  clear hA hK hTL hRL
  cases hok : lOk vs f with
  | false =>
    have HF := Lib.hid (show isF vs f = false by rw [HIF.out, hok]; rfl)
    replace HIF := HF
    go_region
    go_wp2_with fail
    have hB4 : Below w.heap.size w ((((w3.setCell ⟨w.heap.size + 1, 0, none⟩ (.int .i64 A)).setCell ⟨w.heap.size + 1, 1, none⟩ (.int .i64 K)).setCell ⟨w.heap.size + 1, 2, none⟩ (.slice p1 TL c1)).setCell ⟨w.heap.size + 1, 3, none⟩ (.slice p2 RL c2)).drew :=
      ((((HB3.out.setCell (Nat.le_succ _) _).setCell (Nat.le_succ _) _).setCell (Nat.le_succ _) _).setCell (Nat.le_succ _) _).drew
    refine bodyPost_ret (v := .tuple #[.agg #[.int .i64 A, .int .i64 K, .slice p1 TL c1, .slice p2 RL c2], .bool false]) (by simp [results, Try.results33, go_sem, q0, q1, q2, q3]) rfl ⟨_, _, by rw [HA.out, HK.out, HIF.out], ?_, ?_, hB4⟩
    · exact HRT.out _ _ _ _
    · exact HRR.out _ _ _ _
  | true =>
    by_cases h19 : K = 19
    · have b1 : (K == 19) = true := by simp [h19]
      by_cases h6 : 6 ≤ TL
      · have z6 : (TL : Int) ≥ 6 := by omega
        by_cases h0 : RL = 0
        · have b2 : ((RL : Int) == 0) = true := by simp [h0]
          have HF := Lib.hid (show isF vs f = true by rw [HIF.out, hok]; simp [h19, h6, h0])
          replace HIF := HF
          clear h19 h6 h0
          go_region
          go_wp2_with fail
          have hB4 : Below w.heap.size w ((((w3.setCell ⟨w.heap.size + 1, 0, none⟩ (.int .i64 A)).setCell ⟨w.heap.size + 1, 1, none⟩ (.int .i64 K)).setCell ⟨w.heap.size + 1, 2, none⟩ (.slice p1 TL c1)).setCell ⟨w.heap.size + 1, 3, none⟩ (.slice p2 RL c2)).drew :=
            ((((HB3.out.setCell (Nat.le_succ _) _).setCell (Nat.le_succ _) _).setCell (Nat.le_succ _) _).setCell (Nat.le_succ _) _).drew
          refine bodyPost_ret (v := .tuple #[.agg #[.int .i64 A, .int .i64 K, .slice p1 TL c1, .slice p2 RL c2], .bool true]) (by simp [results, Try.results33, go_sem, q0, q1, q2, q3]) rfl ⟨_, _, by rw [HA.out, HK.out, HIF.out], ?_, ?_, hB4⟩
          · exact HRT.out _ _ _ _
          · exact HRR.out _ _ _ _
        · have b2 : ((RL : Int) == 0) = false := by simp; omega
          have HF := Lib.hid (show isF vs f = false by rw [HIF.out, hok]; simp [h0])
          replace HIF := HF
          clear h19 h6 h0
          go_region
          go_wp2_with fail
          have hB4 : Below w.heap.size w ((((w3.setCell ⟨w.heap.size + 1, 0, none⟩ (.int .i64 A)).setCell ⟨w.heap.size + 1, 1, none⟩ (.int .i64 K)).setCell ⟨w.heap.size + 1, 2, none⟩ (.slice p1 TL c1)).setCell ⟨w.heap.size + 1, 3, none⟩ (.slice p2 RL c2)).drew :=
            ((((HB3.out.setCell (Nat.le_succ _) _).setCell (Nat.le_succ _) _).setCell (Nat.le_succ _) _).setCell (Nat.le_succ _) _).drew
          refine bodyPost_ret (v := .tuple #[.agg #[.int .i64 A, .int .i64 K, .slice p1 TL c1, .slice p2 RL c2], .bool false]) (by simp [results, Try.results33, go_sem, q0, q1, q2, q3]) rfl ⟨_, _, by rw [HA.out, HK.out, HIF.out], ?_, ?_, hB4⟩
          · exact HRT.out _ _ _ _
          · exact HRR.out _ _ _ _
      · have z6 : ¬ (TL : Int) ≥ 6 := by omega
        have HF := Lib.hid (show isF vs f = false by rw [HIF.out, hok]; simp [h6])
        replace HIF := HF
        clear h19 h6
        go_region
        go_wp2_with fail
        have hB4 : Below w.heap.size w ((((w3.setCell ⟨w.heap.size + 1, 0, none⟩ (.int .i64 A)).setCell ⟨w.heap.size + 1, 1, none⟩ (.int .i64 K)).setCell ⟨w.heap.size + 1, 2, none⟩ (.slice p1 TL c1)).setCell ⟨w.heap.size + 1, 3, none⟩ (.slice p2 RL c2)).drew :=
          ((((HB3.out.setCell (Nat.le_succ _) _).setCell (Nat.le_succ _) _).setCell (Nat.le_succ _) _).setCell (Nat.le_succ _) _).drew
        refine bodyPost_ret (v := .tuple #[.agg #[.int .i64 A, .int .i64 K, .slice p1 TL c1, .slice p2 RL c2], .bool false]) (by simp [results, Try.results33, go_sem, q0, q1, q2, q3]) rfl ⟨_, _, by rw [HA.out, HK.out, HIF.out], ?_, ?_, hB4⟩
        · exact HRT.out _ _ _ _
        · exact HRR.out _ _ _ _
    · have b1 : (K == 19) = false := by simpa using h19
      have HF := Lib.hid (show isF vs f = false by rw [HIF.out, hok]; simp [h19])
      replace HIF := HF
      clear h19
      go_region
      go_wp2_with fail
      have hB4 : Below w.heap.size w ((((w3.setCell ⟨w.heap.size + 1, 0, none⟩ (.int .i64 A)).setCell ⟨w.heap.size + 1, 1, none⟩ (.int .i64 K)).setCell ⟨w.heap.size + 1, 2, none⟩ (.slice p1 TL c1)).setCell ⟨w.heap.size + 1, 3, none⟩ (.slice p2 RL c2)).drew :=
        ((((HB3.out.setCell (Nat.le_succ _) _).setCell (Nat.le_succ _) _).setCell (Nat.le_succ _) _).setCell (Nat.le_succ _) _).drew
      refine bodyPost_ret (v := .tuple #[.agg #[.int .i64 A, .int .i64 K, .slice p1 TL c1, .slice p2 RL c2], .bool false]) (by simp [results, Try.results33, go_sem, q0, q1, q2, q3]) rfl ⟨_, _, by rw [HA.out, HK.out, HIF.out], ?_, ?_, hB4⟩
      · exact HRT.out _ _ _ _
      · exact HRR.out _ _ _ _
end
section
open Go Go.ChangeShapes Go.WideShapes Go.ChangeAt Go.RowKit
set_option linter.unusedVariables false
set_option linter.unusedSimpArgs false
/-- Reads so in every world that keeps all that W0 has. -/
def RdAll (W0 : World) (v : Value) (ws : List Int) : Prop := ∀ wx : World, Below W0.heap.size W0 wx → Rd wx v ws
def SeePostF (W0 W : World) (vs : List Int) (f : Int) (e : Ending) (w' : World) : Prop :=
  ∃ tv rv, e = .returned (.tuple #[.agg #[.int .i64 (lA vs f), .int .i64 (lK vs f), tv, rv], .bool (lOk vs f)]) ∧ RdAll W0 tv (tagL vs f) ∧ RdAll W0 rv (rawL vs f) ∧ Below W.heap.size W w'
set_option maxRecDepth 100000 in
set_option maxHeartbeats 1600000 in
theorem see_f (v : Value) (ws : List Int) (tn : Nat) (f : Int) (W0 w : World) (h0 : Rd W0 v ws) (hx0 : Below W0.heap.size W0 w) (hf : Fit ws) (ht : tn ≤ ws.length) (hm20 : ws.length ≤ 140737488351232) (hw : (Lit.int .u64 f).wf = true) :
    Calls Try.prog 55 #[.agg #[v, .int .i64 tn], .int .u64 f] w (SeePostF W0 w (ws.take tn) f) := by
  unfold SeePostF
  have hr := h0.keep hx0
  obtain ⟨vs, hvs⟩ : ∃ vs, ws.take tn = vs := ⟨_, rfl⟩
  rw [hvs]
  obtain ⟨p, c, rfl, hm⟩ := rd_form0 hr
  by_cases hk : kindOf f = 0
  · have HR := Lib.hid hr
    have HAT := Lib.hid (fun (wx : World) (hx : Below w.heap.size w wx) => refat_any _ ws tn (f / 4) wx (hr.keep hx) hf hm20 (by omega))
    have hkn := kind_nat hk
    obtain ⟨a, ha⟩ : ∃ a : Nat, f / 4 = (a : Int) := ⟨(f / 4).toNat, by omega⟩
    have e1 : atV f = (a : Int) := by unfold atV; rw [if_pos hk, ha]
    have e2 : atE f = 0 := by unfold atE; rw [if_pos hk]
    rw [ha, Int.toNat_natCast] at HAT
    rw [hvs] at HAT
    have hlen : vs.length = tn := by rw [← hvs, List.length_take]; omega
    have HV := Lib.hid hvs
    clear hvs
    go_enter Try.func55, Try.ntmps55
    go_wp2_with (first | (go_at_call 22; (with_reducible refine (at_ref f hw _).mono ?_); rintro e w9 ⟨rfl, rfl⟩; rw [e1, e2]) | fail)
    generalize hw1 : World.alloc (World.alloc w _) _ = w1
    have HB1 := Lib.hid (show Below w.heap.size w w1 by rw [← hw1]; exact ((Below.refl _ _).alloc (Nat.le_refl _) _).alloc (by simp) _)
    have HM1 := Lib.hid (show Bm w1 w.heap.size p ws.length c tn by rw [← hw1]; exact (Bm.new _ _ _ _ _ _).keep ((Below.refl _ _).alloc (Nat.le_refl _) _))
    have HQ1 := Lib.hid (show B4 w1 (w.heap.size + 1) (.int .i64 0) (.int .i64 0) (.slice none 0 0) (.slice none 0 0) by rw [← hw1]; have := B4.new (w.alloc (.cells #[.slice p ws.length c, .int .i64 tn] 24)) (.int .i64 0) (.int .i64 0) (.slice none 0 0) (.slice none 0 0) 72; simpa using this)
    clear hw1
    refine (HAT.out _ HB1.out).mono ?_
    rintro e w2 ⟨rfl, hb2⟩
    have HB2 := Lib.hid (HB1.out.trans (hb2.mono HB1.out.size))
    have HM2 := Lib.hid (HM1.out.keep hb2)
    have HQ2 := Lib.hid (HQ1.out.keep hb2)
    have HS2 := Lib.hid (show w.heap.size + 1 < w2.heap.size from HQ2.out.lt)
    clear hb2 HM1 HB1 HQ1 HAT
    cases hth : there vs (a : Int)
    · have hL : lOk vs f = false := by unfold lOk; rw [ha, hth]; simp
      have HL := Lib.hid (show lA vs f = 0 ∧ lK vs f = 0 ∧ tagL vs f = [] ∧ rawL vs f = [] ∧ lOk vs f = false by simp [lA, lK, tagL, rawL, hL])
      clear h0 hr hf hL hth
      unfold objAt obj
      have q0 := fun o => (HQ2.out.alloc o).c0
      have q1 := fun o => (HQ2.out.alloc o).c1
      have q2 := fun o => (HQ2.out.alloc o).c2
      have q3 := fun o => (HQ2.out.alloc o).c3
      have g0 := fun o => (HQ2.out.alloc o).f0
      have g1 := fun o => (HQ2.out.alloc o).f1
      have g2 := fun o => (HQ2.out.alloc o).f2
      have g3 := fun o => (HQ2.out.alloc o).f3
      go_wp2_with fail
      obtain ⟨r1, r2, r3, r4, r5⟩ := HL.out
      refine bodyPost_ret (v := .tuple #[.agg #[.int .i64 0, .int .i64 0, .slice none 0 0, .slice none 0 0], .bool false]) (by simp [results, Try.results55, go_sem, q0, q1, q2, q3]) rfl ⟨.slice none 0 0, .slice none 0 0, ?_, ?_, ?_, ?_⟩
      · rw [r1, r2, r5]
      · rw [r3]; exact fun _ _ => .inl ⟨none, rfl, rfl⟩
      · rw [r4]; exact fun _ _ => .inl ⟨none, rfl, rfl⟩
      · exact ((((HB2.out.alloc HB2.out.size _).setCell (Nat.le_succ _) _).setCell (Nat.le_succ _) _).setCell (Nat.le_succ _) _).setCell (Nat.le_succ _) _
    · have hin := there_in hth
      have hL : lOk vs f = true := by unfold lOk; rw [ha, hth, hk]; rfl
      obtain ⟨T, hT⟩ : ∃ T : Nat, hT (headAt vs (a : Int)) = (T : Int) := ⟨(hT (headAt vs (a : Int))).toNat, by omega⟩
      obtain ⟨R, hR⟩ : ∃ R : Nat, hS (headAt vs (a : Int)) = 2 + (T : Int) + (R : Int) := ⟨(hS (headAt vs (a : Int)) - 2 - T).toNat, by omega⟩
      obtain ⟨K, hK⟩ : ∃ K : Int, hK (headAt vs (a : Int)) = K := ⟨_, rfl⟩
      have HL := Lib.hid (show lA vs f = a ∧ lK vs f = K ∧ tagL vs f = (vs.drop (a + 2)).take T ∧ rawL vs f = (vs.drop (a + 2 + T)).take R ∧ lOk vs f = true by
        have e3 : lT vs f = T := by unfold lT; rw [if_pos hL, ha, hT]
        have e4 : lR vs f = R := by unfold lR; rw [if_pos hL, ha, hR, hT]; omega
        refine ⟨by unfold lA; rw [if_pos hL, ha], by unfold lK; rw [if_pos hL, ha, hK], ?_, ?_, hL⟩
        · unfold tagL; rw [if_pos hL, ha, e3]; rfl
        · unfold rawL; rw [if_pos hL, ha, e3, e4]; rfl)
      have hlt : a + 2 + T + R ≤ tn := by rw [hlen] at hin; omega
      obtain ⟨b, off, c2, hv, hcc, hmm, hcell⟩ := h0.some (by omega)
      cases hv
      have HCE := Lib.hid hcell
      obtain ⟨o1, ho1, hsl1⟩ := sl_mid (P := Try.prog) 22 sliceU64 sizeU64 b off ws.length c (a + 2) T (by omega)
      obtain ⟨o2, ho2, hsl2⟩ := sl_mid (P := Try.prog) 22 sliceU64 sizeU64 b off ws.length c (a + 2 + T) R (by omega)
      have HT1 := Lib.hid (fun (wx : World) (hx : Below W0.heap.size W0 wx) => rd_mid (fun i hi => below_cell hx (hcell i hi)) hmm (show a + 2 + T ≤ ws.length by omega) ho1 hcc)
      have HT2 := Lib.hid (fun (wx : World) (hx : Below W0.heap.size W0 wx) => rd_mid (fun i hi => below_cell hx (hcell i hi)) hmm (show a + 2 + T + R ≤ ws.length by omega) ho2 hcc)
      rw [← take_mid ws (show a + 2 + T ≤ tn by omega), HV.out] at HT1
      rw [← take_mid ws (show a + 2 + T + R ≤ tn by omega), HV.out] at HT2
      rw [show ((a + 2 : Nat) : Int) = (a : Int) + 2 by omega] at hsl1
      rw [show ((a + 2 + T : Nat) : Int) = (a : Int) + 2 + (T : Int) by omega, show (a : Int) + 2 + (T : Int) + (R : Int) = (a : Int) + (2 + (T : Int) + (R : Int)) by omega] at hsl2
      obtain ⟨n1, n2, n3⟩ := see_wraps hlt ht hm20
      unfold objAt obj
      rw [hT, hR, hK]
      clear h0 hr hf hL hth hcell ho1 ho2 hT hR hK hin HR
      go_wp2_with fail
      generalize hw3 : World.alloc w2 _ = w3
      have hb3 : Below w2.heap.size w2 w3 := by rw [← hw3]; exact (Below.refl _ _).alloc (Nat.le_refl _) _
      have HB3 := Lib.hid (HB2.out.trans (hb3.mono HB2.out.size))
      have k0 : w3.cell? ⟨w2.heap.size, 0, none⟩ = some (.int .i64 K) := by rw [← hw3]; simp
      have k1 : w3.cell? ⟨w2.heap.size, 1, none⟩ = some (.int .i64 T) := by rw [← hw3]; simp
      have k2 : w3.cell? ⟨w2.heap.size, 2, none⟩ = some (.int .i64 (2 + (T : Int) + (R : Int))) := by rw [← hw3]; simp
      obtain ⟨m0, m1⟩ := HM2.out.keep hb3
      obtain ⟨q0, q1, q2, q3, g0, g1, g2, g3⟩ := HQ2.out.keep hb3
      clear hw3 hb3 HB2
      refine wp_region_still_tail (P := Try.prog) 26 (by kernel_rfl) (by kernel_rfl) ?_
      simp only [List.take_succ_cons, List.take_zero, List.drop_succ_cons, List.drop_zero]
      repeat still_step
      refine wpStill_nil ?_
      go_wp2_with fail
      have hB4 : Below w.heap.size w ((((w3.setCell ⟨w.heap.size + 1, 0, none⟩ (Value.int IntKind.i64 ↑a)).setCell ⟨w.heap.size + 1, 1, none⟩ (Value.int IntKind.i64 K)).setCell ⟨w.heap.size + 1, 2, none⟩ (Value.slice (some { block := b, off := o1 }) T (c - (a + 2)))).setCell ⟨w.heap.size + 1, 3, none⟩ (Value.slice (some { block := b, off := o2 }) R (c - (a + 2 + T)))).drew :=
        ((((HB3.out.setCell (Nat.le_succ _) _).setCell (Nat.le_succ _) _).setCell (Nat.le_succ _) _).setCell (Nat.le_succ _) _).drew
      obtain ⟨r1, r2, r3, r4, r5⟩ := HL.out
      refine bodyPost_ret (v := .tuple #[.agg #[.int .i64 a, .int .i64 K, .slice (some ⟨b, o1, none⟩) T (c - (a + 2)), .slice (some ⟨b, o2, none⟩) R (c - (a + 2 + T))], .bool true]) (by simp [results, Try.results55, go_sem, q0, q1, q2, q3]) rfl ⟨.slice (some ⟨b, o1, none⟩) T (c - (a + 2)), .slice (some ⟨b, o2, none⟩) R (c - (a + 2 + T)), ?_, ?_, ?_, hB4⟩
      · rw [r1, r2, r5]
      · rw [r3]; exact HT1.out
      · rw [r4]; exact HT2.out
  · have e2 : atE f = 9 := by unfold atE; rw [if_neg hk]
    have hL : lOk vs f = false := by unfold lOk; simp [hk]
    have HL := Lib.hid (show lA vs f = 0 ∧ lK vs f = 0 ∧ tagL vs f = [] ∧ rawL vs f = [] ∧ lOk vs f = false by simp [lA, lK, tagL, rawL, hL])
    clear h0 hr hf hL hvs
    go_enter Try.func55, Try.ntmps55
    go_wp2_with (first | (go_at_call 22; (with_reducible refine (at_ref f hw _).mono ?_); rintro e w9 ⟨rfl, rfl⟩; rw [e2]) | fail)
    obtain ⟨r1, r2, r3, r4, r5⟩ := HL.out
    refine bodyPost_ret (v := .tuple #[.agg #[.int .i64 0, .int .i64 0, .slice none 0 0, .slice none 0 0], .bool false]) (by simp [results, Try.results55, go_sem]) rfl ⟨.slice none 0 0, .slice none 0 0, ?_, ?_, ?_, ?_⟩
    · rw [r1, r2, r5]
    · rw [r3]; exact fun _ _ => .inl ⟨none, rfl, rfl⟩
    · rw [r4]; exact fun _ _ => .inl ⟨none, rfl, rfl⟩
    · ((repeat' (first | with_reducible assumption | with_reducible exact Below.refl _ _ | with_reducible refine Below.drew ?_ | with_reducible refine Below.alloc ?_ (by first | omega | (simp; omega) | (simp; done) | fail) _ | with_reducible refine Below.setCell ?_ (by first | omega | (simp; omega) | (simp; done) | fail) _ | fail)); (first | done | fail))
def IsPostF (W0 W : World) (vs : List Int) (f : Int) (e : Ending) (w' : World) : Prop :=
  ∃ tv rv, e = .returned (.tuple #[.agg #[.int .i64 (lA vs f), .int .i64 (lK vs f), tv, rv], .bool (isF vs f)]) ∧ RdAll W0 tv (tagL vs f) ∧ RdAll W0 rv (rawL vs f) ∧ Below W.heap.size W w'
set_option maxRecDepth 100000 in
set_option maxHeartbeats 4000000 in
theorem ris_f (v : Value) (ws : List Int) (tn : Nat) (f : Int) (W0 w : World) (h0 : Rd W0 v ws) (hx0 : Below W0.heap.size W0 w) (hf : Fit ws) (ht : tn ≤ ws.length) (hm20 : ws.length ≤ 140737488351232) (hw : (Lit.int .u64 f).wf = true) :
    Calls Try.prog 33 #[.agg #[v, .int .i64 tn], .int .u64 f] w (IsPostF W0 w (ws.take tn) f) := by
  have hr := h0.keep hx0
  have HL := Lib.hid (fun (wx : World) (hx : Below w.heap.size w wx) => see_f v ws tn f W0 wx h0 (hx0.trans (hx.mono hx0.size)) hf ht hm20 hw)
  obtain ⟨p, c, rfl, hm⟩ := rd_form0 hr
  obtain ⟨vs, hvs⟩ : ∃ vs, ws.take tn = vs := ⟨_, rfl⟩
  rw [hvs] at HL ⊢
  clear hf hr h0 hvs
  go_enter Try.func33, Try.ntmps33
  go_upto_region 1 with fail
  generalize hw1 : World.alloc (World.alloc w _) _ = w1
  have HB1 := Lib.hid (show Below w.heap.size w w1 by rw [← hw1]; exact ((Below.refl _ _).alloc (Nat.le_refl _) _).alloc (by simp) _)
  have HM1 := Lib.hid (show Bm w1 w.heap.size p ws.length c tn by rw [← hw1]; exact (Bm.new _ _ _ _ _ _).keep ((Below.refl _ _).alloc (Nat.le_refl _) _))
  have HQ1 := Lib.hid (show B4 w1 (w.heap.size + 1) (.int .i64 0) (.int .i64 0) (.slice none 0 0) (.slice none 0 0) by rw [← hw1]; have := B4.new (w.alloc (.cells #[.slice p ws.length c, .int .i64 tn] 24)) (.int .i64 0) (.int .i64 0) (.slice none 0 0) (.slice none 0 0) 72; simpa using this)
  clear hw1
  obtain ⟨m0, m1⟩ := HM1.out
  go_wp2_with fail
  refine (HL.out _ HB1.out).mono ?_
  rintro e w2 ⟨tv, rv, rfl, hr1, hr2, hb2⟩
  have HB2 := Lib.hid (HB1.out.trans (hb2.mono HB1.out.size))
  have HQ2 := Lib.hid (HQ1.out.keep hb2)
  have hs2 := HQ2.out.lt
  have HR1 := Lib.hid hr1
  have HR2 := Lib.hid hr2
  obtain ⟨p1, c1, rfl, _⟩ := rd_form0 (hr1 _ hx0)
  obtain ⟨p2, c2, rfl, _⟩ := rd_form0 (hr2 _ hx0)
  have HIF := Lib.hid (isF_parts (vs := vs) (f := f))
  clear hb2 HM1 HB1 HQ1 HL m0 m1 hr1 hr2
  go_upto_region 2 with fail
  generalize hw3 : World.alloc w2 _ = w3
  have hb3 : Below w2.heap.size w2 w3 := by rw [← hw3]; exact (Below.refl _ _).alloc (Nat.le_refl _) _
  have HQ3 := Lib.hid (show B4 w3 w2.heap.size (.int .i64 (lA vs f)) (.int .i64 (lK vs f)) (.slice p1 (tagL vs f).length c1) (.slice p2 (rawL vs f).length c2) by rw [← hw3]; exact B4.new _ _ _ _ _ _)
  have HB3 := Lib.hid (HB2.out.trans (hb3.mono HB2.out.size))
  obtain ⟨q0, q1, q2, q3, g0, g1, g2, g3⟩ := HQ2.out.keep hb3
  obtain ⟨k0, k1, k2, k3, _, _, _, _⟩ := HQ3.out
  clear hw3 hb3 HB2 HQ2
  obtain ⟨A, hA⟩ : ∃ x, lA vs f = x := ⟨_, rfl⟩
  obtain ⟨K, hK⟩ : ∃ x, lK vs f = x := ⟨_, rfl⟩
  obtain ⟨TL, hTL⟩ : ∃ x, (tagL vs f).length = x := ⟨_, rfl⟩
  obtain ⟨RL, hRL⟩ : ∃ x, (rawL vs f).length = x := ⟨_, rfl⟩
  rw [hA] at k0
  rw [hK] at k1 HIF
  rw [hTL] at k2 HIF
  rw [hRL] at k3 HIF
  rw [hTL] at HR1
  rw [hRL] at HR2
  have HA := Lib.hid hA
  have HK := Lib.hid hK
  clear hA hK hTL hRL
  cases hok : lOk vs f with
  | false =>
    have HF := Lib.hid (show isF vs f = false by rw [HIF.out, hok]; rfl)
    replace HIF := HF
    go_region
    go_wp2_with fail
    have hB4 : Below w.heap.size w ((((w3.setCell ⟨w.heap.size + 1, 0, none⟩ (.int .i64 A)).setCell ⟨w.heap.size + 1, 1, none⟩ (.int .i64 K)).setCell ⟨w.heap.size + 1, 2, none⟩ (.slice p1 TL c1)).setCell ⟨w.heap.size + 1, 3, none⟩ (.slice p2 RL c2)).drew :=
      ((((HB3.out.setCell (Nat.le_succ _) _).setCell (Nat.le_succ _) _).setCell (Nat.le_succ _) _).setCell (Nat.le_succ _) _).drew
    refine bodyPost_ret (v := .tuple #[.agg #[.int .i64 A, .int .i64 K, .slice p1 TL c1, .slice p2 RL c2], .bool false]) (by simp [results, Try.results33, go_sem, q0, q1, q2, q3]) rfl ⟨_, _, by rw [HA.out, HK.out, HIF.out], ?_, ?_, hB4⟩
    · exact HR1.out
    · exact HR2.out
  | true =>
    by_cases h19 : K = 19
    · have b1 : (K == 19) = true := by simp [h19]
      by_cases h6 : 6 ≤ TL
      · have z6 : (TL : Int) ≥ 6 := by omega
        by_cases h0 : RL = 0
        · have b2 : ((RL : Int) == 0) = true := by simp [h0]
          have HF := Lib.hid (show isF vs f = true by rw [HIF.out, hok]; simp [h19, h6, h0])
          replace HIF := HF
          clear h19 h6 h0
          go_region
          go_wp2_with fail
          have hB4 : Below w.heap.size w ((((w3.setCell ⟨w.heap.size + 1, 0, none⟩ (.int .i64 A)).setCell ⟨w.heap.size + 1, 1, none⟩ (.int .i64 K)).setCell ⟨w.heap.size + 1, 2, none⟩ (.slice p1 TL c1)).setCell ⟨w.heap.size + 1, 3, none⟩ (.slice p2 RL c2)).drew :=
            ((((HB3.out.setCell (Nat.le_succ _) _).setCell (Nat.le_succ _) _).setCell (Nat.le_succ _) _).setCell (Nat.le_succ _) _).drew
          refine bodyPost_ret (v := .tuple #[.agg #[.int .i64 A, .int .i64 K, .slice p1 TL c1, .slice p2 RL c2], .bool true]) (by simp [results, Try.results33, go_sem, q0, q1, q2, q3]) rfl ⟨_, _, by rw [HA.out, HK.out, HIF.out], ?_, ?_, hB4⟩
          · exact HR1.out
          · exact HR2.out
        · have b2 : ((RL : Int) == 0) = false := by simp; omega
          have HF := Lib.hid (show isF vs f = false by rw [HIF.out, hok]; simp [h0])
          replace HIF := HF
          clear h19 h6 h0
          go_region
          go_wp2_with fail
          have hB4 : Below w.heap.size w ((((w3.setCell ⟨w.heap.size + 1, 0, none⟩ (.int .i64 A)).setCell ⟨w.heap.size + 1, 1, none⟩ (.int .i64 K)).setCell ⟨w.heap.size + 1, 2, none⟩ (.slice p1 TL c1)).setCell ⟨w.heap.size + 1, 3, none⟩ (.slice p2 RL c2)).drew :=
            ((((HB3.out.setCell (Nat.le_succ _) _).setCell (Nat.le_succ _) _).setCell (Nat.le_succ _) _).setCell (Nat.le_succ _) _).drew
          refine bodyPost_ret (v := .tuple #[.agg #[.int .i64 A, .int .i64 K, .slice p1 TL c1, .slice p2 RL c2], .bool false]) (by simp [results, Try.results33, go_sem, q0, q1, q2, q3]) rfl ⟨_, _, by rw [HA.out, HK.out, HIF.out], ?_, ?_, hB4⟩
          · exact HR1.out
          · exact HR2.out
      · have z6 : ¬ (TL : Int) ≥ 6 := by omega
        have HF := Lib.hid (show isF vs f = false by rw [HIF.out, hok]; simp [h6])
        replace HIF := HF
        clear h19 h6
        go_region
        go_wp2_with fail
        have hB4 : Below w.heap.size w ((((w3.setCell ⟨w.heap.size + 1, 0, none⟩ (.int .i64 A)).setCell ⟨w.heap.size + 1, 1, none⟩ (.int .i64 K)).setCell ⟨w.heap.size + 1, 2, none⟩ (.slice p1 TL c1)).setCell ⟨w.heap.size + 1, 3, none⟩ (.slice p2 RL c2)).drew :=
          ((((HB3.out.setCell (Nat.le_succ _) _).setCell (Nat.le_succ _) _).setCell (Nat.le_succ _) _).setCell (Nat.le_succ _) _).drew
        refine bodyPost_ret (v := .tuple #[.agg #[.int .i64 A, .int .i64 K, .slice p1 TL c1, .slice p2 RL c2], .bool false]) (by simp [results, Try.results33, go_sem, q0, q1, q2, q3]) rfl ⟨_, _, by rw [HA.out, HK.out, HIF.out], ?_, ?_, hB4⟩
        · exact HR1.out
        · exact HR2.out
    · have b1 : (K == 19) = false := by simpa using h19
      have HF := Lib.hid (show isF vs f = false by rw [HIF.out, hok]; simp [h19])
      replace HIF := HF
      clear h19
      go_region
      go_wp2_with fail
      have hB4 : Below w.heap.size w ((((w3.setCell ⟨w.heap.size + 1, 0, none⟩ (.int .i64 A)).setCell ⟨w.heap.size + 1, 1, none⟩ (.int .i64 K)).setCell ⟨w.heap.size + 1, 2, none⟩ (.slice p1 TL c1)).setCell ⟨w.heap.size + 1, 3, none⟩ (.slice p2 RL c2)).drew :=
        ((((HB3.out.setCell (Nat.le_succ _) _).setCell (Nat.le_succ _) _).setCell (Nat.le_succ _) _).setCell (Nat.le_succ _) _).drew
      refine bodyPost_ret (v := .tuple #[.agg #[.int .i64 A, .int .i64 K, .slice p1 TL c1, .slice p2 RL c2], .bool false]) (by simp [results, Try.results33, go_sem, q0, q1, q2, q3]) rfl ⟨_, _, by rw [HA.out, HK.out, HIF.out], ?_, ?_, hB4⟩
      · exact HR1.out
      · exact HR2.out
end
end Go.Proofs.Ytilonacjmihglaa
