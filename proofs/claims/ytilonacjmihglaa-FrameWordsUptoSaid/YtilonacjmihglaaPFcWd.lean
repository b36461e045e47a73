/- Layer 20: the document's Word. -/
import Derived.Test.YtilonacjmihglaaPGFcIs
import Derived.Test.YtilonacjmihglaaPFs
namespace Go.Proofs.Ytilonacjmihglaa
open Go Go.ChangeShapes Go.WideShapes Go.ChangeAt Go.RowKit
set_option linter.unusedVariables false
set_option linter.unusedSimpArgs false
/-- A frame's tagged words: so many, and where they lie. -/
theorem isF_tag {vs : List Int} {f : Int} (h : isF vs f = true) : ∃ n : Nat, frN vs f = (n : Int) ∧ (tagL vs f).length = n + 6 ∧ n ≤ 16777215 ∧ (f / 4).toNat + 8 + n ≤ vs.length ∧ ∀ k, k < n + 6 → (tagL vs f).getD k 0 = vs.getD ((f / 4).toNat + 2 + k) 0 := by
  obtain ⟨h1, h2, h3, h4, h5, h6⟩ := isF_in h
  have hok : lOk vs f = true := by unfold isF at h; rw [Bool.and_eq_true] at h; exact h.1
  obtain ⟨g1, g2⟩ := tag_len hok
  have hin := there_in h2
  have hlo := hT_lo (headAt vs (f / 4))
  have e1 : lT vs f = hT (headAt vs (f / 4)) := by unfold lT; rw [if_pos hok]
  refine ⟨(frN vs f).toNat, by omega, by omega, by omega, by omega, fun k hk => ?_⟩
  unfold tagL
  rw [if_pos hok, getD_take, if_pos (by omega), getD_drop]
theorem slot_t {vs : List Int} {f cnt k : Int} (h : isF vs f = true) (h1 : 0 ≤ k) (h2 : k < cnt) : slotB vs f cnt k = true := by
  unfold slotB; rw [h]; simp [h1, h2]
theorem slot_f {vs : List Int} {f cnt k : Int} (h : slotB vs f cnt k = false) (fr : Int) : slotV vs f fr cnt k = 0 ∧ slotE vs f cnt k = 1 := by
  simp [slotV, slotE, h]
theorem slot_f0 {vs : List Int} {f cnt k : Int} (h : isF vs f = false) : slotB vs f cnt k = false := by simp [slotB, h]
theorem slot_f1 {vs : List Int} {f cnt k : Int} (h : k < 0) : slotB vs f cnt k = false := by simp [slotB, show ¬ 0 ≤ k by omega]
theorem slot_f2 {vs : List Int} {f cnt k : Int} (h : cnt ≤ k) : slotB vs f cnt k = false := by simp [slotB, show ¬ k < cnt by omega]
set_option maxRecDepth 100000 in
set_option maxHeartbeats 4000000 in
theorem rword_f (v : Value) (ws : List Int) (tn : Nat) (f i : Int) (w : World) (hr : Rd w v ws) (hf : Fit ws) (ht : tn ≤ ws.length) (hm20 : ws.length ≤ 140737488351232) (hw : (Lit.int .u64 f).wf = true) (hi : -9223372036854775808 ≤ i ∧ i ≤ 9223372036854775807) :
    Calls Try.prog 31 #[.agg #[v, .int .i64 tn], .int .u64 f, .int .i64 0, .int .i64 i] w fun e w' => e = .returned (.tuple #[.int .u64 (slotV (ws.take tn) f 0 6 i), .int .i64 (slotE (ws.take tn) f 6 i)]) ∧ Below w.heap.size w w' := by
  have HL := Lib.hid (fun (wx : World) (hx : Below w.heap.size w wx) => ris_any v ws tn f wx (hr.keep hx) hf ht hm20 hw)
  obtain ⟨p, c, rfl, hm⟩ := rd_form0 hr
  obtain ⟨vs, hvs⟩ : ∃ vs, ws.take tn = vs := ⟨_, rfl⟩
  rw [hvs] at HL ⊢
  clear hf hr hvs
  go_enter Try.func31, Try.ntmps31
  go_wp2_with fail
  generalize hw1 : World.alloc w _ = w1
  have HB1 := Lib.hid (show Below w.heap.size w w1 by rw [← hw1]; exact (Below.refl _ _).alloc (Nat.le_refl _) _)
  have HM1 := Lib.hid (show Bm w1 w.heap.size p ws.length c tn by rw [← hw1]; exact Bm.new _ _ _ _ _ _)
  clear hw1
  refine (HL.out _ HB1.out).mono ?_
  rintro e w2 ⟨tv, rv, rfl, hr1, hr2, hb2⟩
  have HB2 := Lib.hid (HB1.out.trans (hb2.mono HB1.out.size))
  have HR1 := Lib.hid hr1
  obtain ⟨p1, c1, rfl, hm1⟩ := rd_form0 hr1
  obtain ⟨p2, c2, rfl, _⟩ := rd_form0 hr2
  obtain ⟨m0, m1⟩ := HM1.out.keep hb2
  clear hb2 HM1 HB1 HL hr1 hr2
  go_upto_region 2 with fail
  generalize hw3 : World.alloc w2 _ = w3
  have hb3 : Below w2.heap.size w2 w3 := by rw [← hw3]; exact (Below.refl _ _).alloc (Nat.le_refl _) _
  have HQ3 := Lib.hid (show B4 w3 w2.heap.size (.int .i64 (lA vs f)) (.int .i64 (lK vs f)) (.slice p1 (tagL vs f).length c1) (.slice p2 (rawL vs f).length c2) by rw [← hw3]; exact B4.new _ _ _ _ _ _)
  have HB3 := Lib.hid (HB2.out.trans (hb3.mono HB2.out.size))
  have HR3 := Lib.hid (HR1.out.keep hb3)
  obtain ⟨k0, k1, k2, k3, _, _, _, _⟩ := HQ3.out
  clear hw3 hb3 HB2 HR1
  cases hF : isF vs f with
  | false =>
    have HE := Lib.hid (slot_f (slot_f0 (cnt := 6) (k := i) hF) 0)
    go_wp2_with fail
    go_ret2
    exact ⟨by simp [HE.out.1, HE.out.2], HB3.out⟩
  | true =>
    obtain ⟨n, hn, hl, hn0, hn1, hg⟩ := isF_tag hF
    have HF := Lib.hid hF
    clear hF
    by_cases h0 : i < 0
    · have HE := Lib.hid (slot_f (slot_f1 (vs := vs) (f := f) (cnt := 6) h0) 0)
      go_wp2_with fail
      go_ret2
      exact ⟨by simp [HE.out.1, HE.out.2], HB3.out⟩
    · obtain ⟨j, rfl⟩ : ∃ j : Nat, i = (j : Int) := ⟨i.toNat, by omega⟩
      have d0 : decide ((j : Int) < 0) = false := by simp
      rw [hl] at k2
      by_cases h5 : 5 < (j : Int)
      · have HE := Lib.hid (slot_f (slot_f2 (vs := vs) (f := f) (cnt := 6) (k := (j : Int)) (by omega)) 0)
        go_wp2_with fail
        go_ret2
        exact ⟨by simp [HE.out.1, HE.out.2], HB3.out⟩
      · have d5 : decide (5 < (j : Int)) = false := by simp; omega
        have d6 : decide (((n + 6 : Nat) : Int) ≤ (j : Int)) = false := by simp; omega
        obtain ⟨x, hxv⟩ : ∃ x, (tagL vs f).getD (j) 0 = x := ⟨_, rfl⟩
        have HE := Lib.hid (show slotV vs f 0 6 (j : Int) = x ∧ slotE vs f 6 (j : Int) = 0 by
          have hb := slot_t HF.out (show (0 : Int) ≤ (j : Int) by omega) (show (j : Int) < 6 by omega)
          constructor
          · unfold slotV; rw [if_pos hb, ← hxv, hg _ (by omega), show ((0 : Int) + (j : Int)).toNat = j by omega]
          · unfold slotE; rw [if_pos hb])
        obtain ⟨b, off, cc, hsl, hcc, hll, hcell⟩ := HR3.out.some (by omega)
        rw [hl] at hsl hcc hcell
        injection hsl with e1 e2 e3
        subst e1 e3
        have hx := hcell (j) (by omega)
        rw [hxv] at hx
        have hwr : IntKind.i64.wrap ((j : Int)) = ((j : Nat) : Int) := by rw [IntWalk.i64_in _ (by omega)] <;> omega
        have hlt : j < n + 6 := by omega
        clear hg hcell hxv
        go_wp2_with fail
        go_ret2
        exact ⟨by simp [HE.out.1, HE.out.2], HB3.out⟩
set_option maxRecDepth 100000 in
set_option maxHeartbeats 4000000 in
theorem rword_r (v : Value) (ws : List Int) (tn : Nat) (f i : Int) (w : World) (hr : Rd w v ws) (hf : Fit ws) (ht : tn ≤ ws.length) (hm20 : ws.length ≤ 140737488351232) (hw : (Lit.int .u64 f).wf = true) (hi : -9223372036854775808 ≤ i ∧ i ≤ 9223372036854775807) :
    Calls Try.prog 31 #[.agg #[v, .int .i64 tn], .int .u64 f, .int .i64 6, .int .i64 i] w fun e w' => e = .returned (.tuple #[.int .u64 (slotV (ws.take tn) f 6 (frN (ws.take tn) f) i), .int .i64 (slotE (ws.take tn) f (frN (ws.take tn) f) i)]) ∧ Below w.heap.size w w' := by
  have HL := Lib.hid (fun (wx : World) (hx : Below w.heap.size w wx) => ris_any v ws tn f wx (hr.keep hx) hf ht hm20 hw)
  obtain ⟨p, c, rfl, hm⟩ := rd_form0 hr
  obtain ⟨vs, hvs⟩ : ∃ vs, ws.take tn = vs := ⟨_, rfl⟩
  rw [hvs] at HL ⊢
  clear hf hr hvs
  obtain ⟨N, hN⟩ : ∃ x, frN vs f = x := ⟨_, rfl⟩
  rw [hN]
  replace hN := Lib.hid hN
  go_enter Try.func31, Try.ntmps31
  go_wp2_with fail
  generalize hw1 : World.alloc w _ = w1
  have HB1 := Lib.hid (show Below w.heap.size w w1 by rw [← hw1]; exact (Below.refl _ _).alloc (Nat.le_refl _) _)
  have HM1 := Lib.hid (show Bm w1 w.heap.size p ws.length c tn by rw [← hw1]; exact Bm.new _ _ _ _ _ _)
  clear hw1
  refine (HL.out _ HB1.out).mono ?_
  rintro e w2 ⟨tv, rv, rfl, hr1, hr2, hb2⟩
  have HB2 := Lib.hid (HB1.out.trans (hb2.mono HB1.out.size))
  have HR1 := Lib.hid hr1
  obtain ⟨p1, c1, rfl, hm1⟩ := rd_form0 hr1
  obtain ⟨p2, c2, rfl, _⟩ := rd_form0 hr2
  obtain ⟨m0, m1⟩ := HM1.out.keep hb2
  clear hb2 HM1 HB1 HL hr1 hr2
  go_upto_region 2 with fail
  generalize hw3 : World.alloc w2 _ = w3
  have hb3 : Below w2.heap.size w2 w3 := by rw [← hw3]; exact (Below.refl _ _).alloc (Nat.le_refl _) _
  have HQ3 := Lib.hid (show B4 w3 w2.heap.size (.int .i64 (lA vs f)) (.int .i64 (lK vs f)) (.slice p1 (tagL vs f).length c1) (.slice p2 (rawL vs f).length c2) by rw [← hw3]; exact B4.new _ _ _ _ _ _)
  have HB3 := Lib.hid (HB2.out.trans (hb3.mono HB2.out.size))
  have HR3 := Lib.hid (HR1.out.keep hb3)
  obtain ⟨k0, k1, k2, k3, _, _, _, _⟩ := HQ3.out
  clear hw3 hb3 HB2 HR1
  cases hF : isF vs f with
  | false =>
    have HE := Lib.hid (slot_f (slot_f0 (cnt := N) (k := i) hF) 6)
    go_wp2_with fail
    go_ret2
    exact ⟨by simp [HE.out.1, HE.out.2], HB3.out⟩
  | true =>
    obtain ⟨n, hn, hl, hn0, hn1, hg⟩ := isF_tag hF
    have HF := Lib.hid hF
    clear hF
    by_cases h0 : i < 0
    · have HE := Lib.hid (slot_f (slot_f1 (vs := vs) (f := f) (cnt := N) h0) 6)
      go_wp2_with fail
      go_ret2
      exact ⟨by simp [HE.out.1, HE.out.2], HB3.out⟩
    · obtain ⟨j, rfl⟩ : ∃ j : Nat, i = (j : Int) := ⟨i.toNat, by omega⟩
      have d0 : decide ((j : Int) < 0) = false := by simp
      rw [hl] at k2
      rw [hN.out] at hn
      subst hn
      by_cases h5 : (n : Int) ≤ (j : Int)
      · have HE := Lib.hid (slot_f (slot_f2 (vs := vs) (f := f) (cnt := (n : Int)) (k := (j : Int)) (by omega)) 6)
        have d6 : decide (((n + 6 : Nat) : Int) - 6 ≤ (j : Int)) = true := by simp; omega
        go_wp2_with fail
        go_ret2
        exact ⟨by simp [HE.out.1, HE.out.2], HB3.out⟩
      · have d6 : decide (((n + 6 : Nat) : Int) - 6 ≤ (j : Int)) = false := by simp; omega
        obtain ⟨x, hxv⟩ : ∃ x, (tagL vs f).getD (6 + j) 0 = x := ⟨_, rfl⟩
        have HE := Lib.hid (show slotV vs f 6 (n : Int) (j : Int) = x ∧ slotE vs f (n : Int) (j : Int) = 0 by
          have hb := slot_t HF.out (show (0 : Int) ≤ (j : Int) by omega) (show (j : Int) < (n : Int) by omega)
          constructor
          · unfold slotV; rw [if_pos hb, ← hxv, hg _ (by omega), show ((6 : Int) + (j : Int)).toNat = 6 + j by omega]
          · unfold slotE; rw [if_pos hb])
        obtain ⟨b, off, cc, hsl, hcc, hll, hcell⟩ := HR3.out.some (by omega)
        rw [hl] at hsl hcc hcell
        injection hsl with e1 e2 e3
        subst e1 e3
        have hx := hcell (6 + j) (by omega)
        rw [hxv] at hx
        have hwr : IntKind.i64.wrap (6 + (j : Int)) = ((6 + j : Nat) : Int) := by rw [IntWalk.i64_in _ (by omega)] <;> omega
        have hlt : 6 + j < n + 6 := by omega
        clear hg hcell hxv
        go_wp2_with fail
        go_ret2
        exact ⟨by simp [HE.out.1, HE.out.2], HB3.out⟩
end Go.Proofs.Ytilonacjmihglaa
