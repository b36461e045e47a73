/- Layer 16, the document's: what lies where a word leads (See), is a word good (Good). -/
import Derived.Test.YtilonacjmihglaaPHas
import Derived.Test.YtilonacjmihglaaPLook
import Derived.BigRegion
import Derived.StillTailTactics
import Derived.TacticsIn
import Derived.Deep.RegionHeld3
namespace Go.Proofs.Ytilonacjmihglaa
open Go Go.ChangeShapes Go.WideShapes Go.ChangeAt Go.RowKit
set_option linter.unusedVariables false
set_option linter.unusedSimpArgs false
def tagL (vs : List Int) (f : Int) : List Int := if lOk vs f = true then (vs.drop ((f / 4).toNat + 2)).take (lT vs f).toNat else []
def rawL (vs : List Int) (f : Int) : List Int := if lOk vs f = true then (vs.drop ((f / 4).toNat + 2 + (lT vs f).toNat)).take (lR vs f).toNat else []
def SeePost (W : World) (vs : List Int) (f : Int) (e : Ending) (w' : World) : Prop :=
  ∃ tv rv, e = .returned (.tuple #[.agg #[.int .i64 (lA vs f), .int .i64 (lK vs f), tv, rv], .bool (lOk vs f)]) ∧ Rd w' tv (tagL vs f) ∧ Rd w' rv (rawL vs f) ∧ Below W.heap.size W w'
/-- A box of four cells that may be written. -/
structure B4 (w : World) (g : Nat) (x y z u : Value) : Prop where
  c0 : w.cell? ⟨g, 0, none⟩ = some x
  c1 : w.cell? ⟨g, 1, none⟩ = some y
  c2 : w.cell? ⟨g, 2, none⟩ = some z
  c3 : w.cell? ⟨g, 3, none⟩ = some u
  f0 : w.frozen? ⟨g, 0, none⟩ = false
  f1 : w.frozen? ⟨g, 1, none⟩ = false
  f2 : w.frozen? ⟨g, 2, none⟩ = false
  f3 : w.frozen? ⟨g, 3, none⟩ = false
theorem B4.lt {w : World} {g : Nat} {x y z u : Value} (h : B4 w g x y z u) : g < w.heap.size := World.block_lt_of_cell? w _ h.c0
theorem B4.keep {w w' : World} {g : Nat} {x y z u : Value} (h : B4 w g x y z u) (hb : Below w.heap.size w w') : B4 w' g x y z u :=
  ⟨below_cell hb h.c0, below_cell hb h.c1, below_cell hb h.c2, below_cell hb h.c3, below_frozen hb h.lt h.f0, below_frozen hb h.lt h.f1, below_frozen hb h.lt h.f2, below_frozen hb h.lt h.f3⟩
theorem B4.alloc {w : World} {g : Nat} {x y z u : Value} (h : B4 w g x y z u) (o : Obj) : B4 (w.alloc o) g x y z u := h.keep ((Below.refl _ _).alloc (Nat.le_refl _) o)
theorem B4.new (w : World) (x y z u : Value) (T : TypeId) : B4 (w.alloc (.cells #[x, y, z, u] T)) w.heap.size x y z u := ⟨by simp, by simp, by simp, by simp, by simp, by simp, by simp, by simp⟩
theorem w64_in (x : Int) (h : -9223372036854775808 ≤ x ∧ x ≤ 9223372036854775807) : wrap64 x = x := by unfold wrap64; omega
theorem see_wraps {a T R tn n : Nat} (h : a + 2 + T + R ≤ tn) (h2 : tn ≤ n) (h3 : n ≤ 140737488351232) : IntKind.i64.wrap ((a : Int) + 2) = (a : Int) + 2 ∧ IntKind.i64.wrap ((a : Int) + 2 + (T : Int)) = (a : Int) + 2 + (T : Int) ∧ IntKind.i64.wrap ((a : Int) + (2 + (T : Int) + (R : Int))) = (a : Int) + (2 + (T : Int) + (R : Int)) :=
  ⟨IntWalk.i64_in _ (by omega), IntWalk.i64_in _ (by omega), IntWalk.i64_in _ (by omega)⟩
/-- A part of a row. -/
theorem rd_mid {w : World} {b off o' c lo m : Nat} {ws : List Int} (hcell : ∀ i, i < ws.length → w.cell? ⟨b, off + i, none⟩ = some (.int .u64 (ws.getD i 0))) (hm : ws.length ≤ 17592186043904) (hlo : lo + m ≤ ws.length) (ho : lo < c → o' = off + lo) (hc : ws.length ≤ c) :
    Rd w (.slice (some ⟨b, o', none⟩) m (c - lo)) ((ws.drop lo).take m) := by
  have hl : ((ws.drop lo).take m).length = m := by rw [List.length_take, List.length_drop]; omega
  rcases Nat.eq_zero_or_pos m with rfl | h0
  · rcases Nat.eq_zero_or_pos (c - lo) with hz | hz
    · exact .inl ⟨some ⟨b, o', none⟩, by rw [hz], by simp⟩
    · exact .inr ⟨b, o', c - lo, by rw [hl], by rw [hl]; omega, by rw [hl]; omega, fun i hi => by rw [hl] at hi; omega⟩
  · refine .inr ⟨b, o', c - lo, by rw [hl], by rw [hl]; omega, by rw [hl]; omega, fun i hi => ?_⟩
    rw [hl] at hi
    rw [ho (by omega), getD_take, if_pos hi, getD_drop, Nat.add_assoc, hcell (lo + i) (by omega)]
theorem take_mid (ws : List Int) {lo m tn : Nat} (h : lo + m ≤ tn) : ((ws.take tn).drop lo).take m = (ws.drop lo).take m := by
  rw [List.drop_take, List.take_take, Nat.min_eq_left (by omega)]
set_option maxRecDepth 100000 in
set_option maxHeartbeats 1600000 in
theorem see_any (v : Value) (ws : List Int) (tn : Nat) (f : Int) (w : World) (hr : Rd w v ws) (hf : Fit ws) (ht : tn ≤ ws.length) (hm20 : ws.length ≤ 140737488351232) (hw : (Lit.int .u64 f).wf = true) :
    Calls Try.prog 55 #[.agg #[v, .int .i64 tn], .int .u64 f] w (SeePost w (ws.take tn) f) := by
  unfold SeePost
  obtain ⟨vs, hvs⟩ : ∃ vs, ws.take tn = vs := ⟨_, rfl⟩
  rw [hvs]
  obtain ⟨p, c, rfl, hm⟩ := rd_form0 hr
  by_cases hk : kindOf f = 0
  · have HR := Lib.hid hr
    have HAT := Lib.hid (fun (wx : World) (hx : Below w.heap.size w wx) => refat_any _ ws tn (f / 4) wx (hr.keep hx) hf hm20 (by omega))
    have hkn := kind_nat hk
    obtain ⟨a, ha⟩ : ∃ a : Nat, f / 4 = (a : Int) := ⟨(f / 4).toNat, by omega⟩
    have e1 : atV f = (a : Int) := by unfold atV; rw [if_pos hk, ha]
    have e2 : atE f = 0 := by unfold atE; rw [if_pos hk]
    rw [ha, Int.toNat_natCast] at HAT
    rw [hvs] at HAT
    have hlen : vs.length = tn := by rw [← hvs, List.length_take]; omega
    have HV := Lib.hid hvs
    clear hvs
    go_enter Try.func55, Try.ntmps55
    go_wp2_with (first | (go_at_call 22; (with_reducible refine (at_ref f hw _).mono ?_); rintro e w9 ⟨rfl, rfl⟩; rw [e1, e2]) | fail)
    generalize hw1 : World.alloc (World.alloc w _) _ = w1
    have HB1 := Lib.hid (show Below w.heap.size w w1 by rw [← hw1]; exact ((Below.refl _ _).alloc (Nat.le_refl _) _).alloc (by simp) _)
    have HM1 := Lib.hid (show Bm w1 w.heap.size p ws.length c tn by rw [← hw1]; exact (Bm.new _ _ _ _ _ _).keep ((Below.refl _ _).alloc (Nat.le_refl _) _))
    have HQ1 := Lib.hid (show B4 w1 (w.heap.size + 1) (.int .i64 0) (.int .i64 0) (.slice none 0 0) (.slice none 0 0) by rw [← hw1]; have := B4.new (w.alloc (.cells #[.slice p ws.length c, .int .i64 tn] 24)) (.int .i64 0) (.int .i64 0) (.slice none 0 0) (.slice none 0 0) 72; simpa using this)
    clear hw1
    refine (HAT.out _ HB1.out).mono ?_
    rintro e w2 ⟨rfl, hb2⟩
    have HB2 := Lib.hid (HB1.out.trans (hb2.mono HB1.out.size))
    have HM2 := Lib.hid (HM1.out.keep hb2)
    have HQ2 := Lib.hid (HQ1.out.keep hb2)
    have HS2 := Lib.hid (show w.heap.size + 1 < w2.heap.size from HQ2.out.lt)
    clear hb2 HM1 HB1 HQ1 HAT
    cases hth : there vs (a : Int)
    · have hL : lOk vs f = false := by unfold lOk; rw [ha, hth]; simp
      have HL := Lib.hid (show lA vs f = 0 ∧ lK vs f = 0 ∧ tagL vs f = [] ∧ rawL vs f = [] ∧ lOk vs f = false by simp [lA, lK, tagL, rawL, hL])
      clear hr hf hL hth
      unfold objAt obj
      have q0 := fun o => (HQ2.out.alloc o).c0
      have q1 := fun o => (HQ2.out.alloc o).c1
      have q2 := fun o => (HQ2.out.alloc o).c2
      have q3 := fun o => (HQ2.out.alloc o).c3
      have g0 := fun o => (HQ2.out.alloc o).f0
      have g1 := fun o => (HQ2.out.alloc o).f1
      have g2 := fun o => (HQ2.out.alloc o).f2
      have g3 := fun o => (HQ2.out.alloc o).f3
      go_wp2_with fail
      obtain ⟨r1, r2, r3, r4, r5⟩ := HL.out
      refine bodyPost_ret (v := .tuple #[.agg #[.int .i64 0, .int .i64 0, .slice none 0 0, .slice none 0 0], .bool false]) (by simp [results, Try.results55, go_sem, q0, q1, q2, q3]) rfl ⟨.slice none 0 0, .slice none 0 0, ?_, ?_, ?_, ?_⟩
      · rw [r1, r2, r5]
      · rw [r3]; exact .inl ⟨none, rfl, rfl⟩
      · rw [r4]; exact .inl ⟨none, rfl, rfl⟩
      · exact ((((HB2.out.alloc HB2.out.size _).setCell (Nat.le_succ _) _).setCell (Nat.le_succ _) _).setCell (Nat.le_succ _) _).setCell (Nat.le_succ _) _
    · have hin := there_in hth
      have hL : lOk vs f = true := by unfold lOk; rw [ha, hth, hk]; rfl
      obtain ⟨T, hT⟩ : ∃ T : Nat, hT (headAt vs (a : Int)) = (T : Int) := ⟨(hT (headAt vs (a : Int))).toNat, by omega⟩
      obtain ⟨R, hR⟩ : ∃ R : Nat, hS (headAt vs (a : Int)) = 2 + (T : Int) + (R : Int) := ⟨(hS (headAt vs (a : Int)) - 2 - T).toNat, by omega⟩
      obtain ⟨K, hK⟩ : ∃ K : Int, hK (headAt vs (a : Int)) = K := ⟨_, rfl⟩
      have HL := Lib.hid (show lA vs f = a ∧ lK vs f = K ∧ tagL vs f = (vs.drop (a + 2)).take T ∧ rawL vs f = (vs.drop (a + 2 + T)).take R ∧ lOk vs f = true by
        have e3 : lT vs f = T := by unfold lT; rw [if_pos hL, ha, hT]
        have e4 : lR vs f = R := by unfold lR; rw [if_pos hL, ha, hR, hT]; omega
        refine ⟨by unfold lA; rw [if_pos hL, ha], by unfold lK; rw [if_pos hL, ha, hK], ?_, ?_, hL⟩
        · unfold tagL; rw [if_pos hL, ha, e3]; rfl
        · unfold rawL; rw [if_pos hL, ha, e3, e4]; rfl)
      have hlt : a + 2 + T + R ≤ tn := by rw [hlen] at hin; omega
      obtain ⟨b, off, c2, hv, hcc, hmm, hcell⟩ := hr.some (by omega)
      cases hv
      have HCE := Lib.hid hcell
      obtain ⟨o1, ho1, hsl1⟩ := sl_mid (P := Try.prog) 22 sliceU64 sizeU64 b off ws.length c (a + 2) T (by omega)
      obtain ⟨o2, ho2, hsl2⟩ := sl_mid (P := Try.prog) 22 sliceU64 sizeU64 b off ws.length c (a + 2 + T) R (by omega)
      have HT1 := Lib.hid (fun (wx : World) (hx : Below w.heap.size w wx) => rd_mid (fun i hi => below_cell hx (hcell i hi)) hmm (show a + 2 + T ≤ ws.length by omega) ho1 hcc)
      have HT2 := Lib.hid (fun (wx : World) (hx : Below w.heap.size w wx) => rd_mid (fun i hi => below_cell hx (hcell i hi)) hmm (show a + 2 + T + R ≤ ws.length by omega) ho2 hcc)
      rw [← take_mid ws (show a + 2 + T ≤ tn by omega), HV.out] at HT1
      rw [← take_mid ws (show a + 2 + T + R ≤ tn by omega), HV.out] at HT2
      rw [show ((a + 2 : Nat) : Int) = (a : Int) + 2 by omega] at hsl1
      rw [show ((a + 2 + T : Nat) : Int) = (a : Int) + 2 + (T : Int) by omega, show (a : Int) + 2 + (T : Int) + (R : Int) = (a : Int) + (2 + (T : Int) + (R : Int)) by omega] at hsl2
      obtain ⟨n1, n2, n3⟩ := see_wraps hlt ht hm20
      unfold objAt obj
      rw [hT, hR, hK]
      clear hr hf hL hth hcell ho1 ho2 hT hR hK hin HR
      go_wp2_with fail
      generalize hw3 : World.alloc w2 _ = w3
      have hb3 : Below w2.heap.size w2 w3 := by rw [← hw3]; exact (Below.refl _ _).alloc (Nat.le_refl _) _
      have HB3 := Lib.hid (HB2.out.trans (hb3.mono HB2.out.size))
      have k0 : w3.cell? ⟨w2.heap.size, 0, none⟩ = some (.int .i64 K) := by rw [← hw3]; simp
      have k1 : w3.cell? ⟨w2.heap.size, 1, none⟩ = some (.int .i64 T) := by rw [← hw3]; simp
      have k2 : w3.cell? ⟨w2.heap.size, 2, none⟩ = some (.int .i64 (2 + (T : Int) + (R : Int))) := by rw [← hw3]; simp
      obtain ⟨m0, m1⟩ := HM2.out.keep hb3
      obtain ⟨q0, q1, q2, q3, g0, g1, g2, g3⟩ := HQ2.out.keep hb3
      clear hw3 hb3 HB2
      refine wp_region_still_tail (P := Try.prog) 26 (by kernel_rfl) (by kernel_rfl) ?_
      simp only [List.take_succ_cons, List.take_zero, List.drop_succ_cons, List.drop_zero]
      repeat still_step
      refine wpStill_nil ?_
      go_wp2_with fail
      have hB4 : Below w.heap.size w ((((w3.setCell ⟨w.heap.size + 1, 0, none⟩ (Value.int IntKind.i64 ↑a)).setCell ⟨w.heap.size + 1, 1, none⟩ (Value.int IntKind.i64 K)).setCell ⟨w.heap.size + 1, 2, none⟩ (Value.slice (some { block := b, off := o1 }) T (c - (a + 2)))).setCell ⟨w.heap.size + 1, 3, none⟩ (Value.slice (some { block := b, off := o2 }) R (c - (a + 2 + T)))).drew :=
        ((((HB3.out.setCell (Nat.le_succ _) _).setCell (Nat.le_succ _) _).setCell (Nat.le_succ _) _).setCell (Nat.le_succ _) _).drew
      obtain ⟨r1, r2, r3, r4, r5⟩ := HL.out
      refine bodyPost_ret (v := .tuple #[.agg #[.int .i64 a, .int .i64 K, .slice (some ⟨b, o1, none⟩) T (c - (a + 2)), .slice (some ⟨b, o2, none⟩) R (c - (a + 2 + T))], .bool true]) (by simp [results, Try.results55, go_sem, q0, q1, q2, q3]) rfl ⟨.slice (some ⟨b, o1, none⟩) T (c - (a + 2)), .slice (some ⟨b, o2, none⟩) R (c - (a + 2 + T)), ?_, ?_, ?_, hB4⟩
      · rw [r1, r2, r5]
      · rw [r3]; exact HT1.out _ hB4
      · rw [r4]; exact HT2.out _ hB4
  · have e2 : atE f = 9 := by unfold atE; rw [if_neg hk]
    have hL : lOk vs f = false := by unfold lOk; simp [hk]
    have HL := Lib.hid (show lA vs f = 0 ∧ lK vs f = 0 ∧ tagL vs f = [] ∧ rawL vs f = [] ∧ lOk vs f = false by simp [lA, lK, tagL, rawL, hL])
    clear hr hf hL hvs
    go_enter Try.func55, Try.ntmps55
    go_wp2_with (first | (go_at_call 22; (with_reducible refine (at_ref f hw _).mono ?_); rintro e w9 ⟨rfl, rfl⟩; rw [e2]) | fail)
    obtain ⟨r1, r2, r3, r4, r5⟩ := HL.out
    refine bodyPost_ret (v := .tuple #[.agg #[.int .i64 0, .int .i64 0, .slice none 0 0, .slice none 0 0], .bool false]) (by simp [results, Try.results55, go_sem]) rfl ⟨.slice none 0 0, .slice none 0 0, ?_, ?_, ?_, ?_⟩
    · rw [r1, r2, r5]
    · rw [r3]; exact .inl ⟨none, rfl, rfl⟩
    · rw [r4]; exact .inl ⟨none, rfl, rfl⟩
    · ((repeat' (first | with_reducible assumption | with_reducible exact Below.refl _ _ | with_reducible refine Below.drew ?_ | with_reducible refine Below.alloc ?_ (by first | omega | (simp; omega) | (simp; done) | fail) _ | with_reducible refine Below.setCell ?_ (by first | omega | (simp; omega) | (simp; done) | fail) _ | fail)); (first | done | fail))
set_option maxRecDepth 100000 in
set_option maxHeartbeats 1600000 in
theorem good16_any (v : Value) (ws : List Int) (tn : Nat) (f : Int) (w : World) (hr : Rd w v ws) (hf : Fit ws) (ht : tn ≤ ws.length) (hm20 : ws.length ≤ 140737488351232) (hw : (Lit.int .u64 f).wf = true) :
    Calls Try.prog 32 #[.agg #[v, .int .i64 tn], .int .u64 f] w fun e w' => e = .returned (.bool (goodW (ws.take tn) f)) ∧ Below w.heap.size w w' := by
  have HL := Lib.hid (fun (wx : World) (hx : Below w.heap.size w wx) => see_any v ws tn f wx (hr.keep hx) hf ht hm20 hw)
  obtain ⟨p, c, rfl, hm⟩ := rd_form0 hr
  generalize hvs : ws.take tn = vs at *
  clear hf hr
  by_cases hk : kindOf f = 0
  · have HG := Lib.hid (show lOk vs f = goodW vs f by simp [lOk, goodW, hk])
    go_enter Try.func32, Try.ntmps32
    go_wp2_with (first | (go_at_call 21; (with_reducible refine (kind_ref f hw _).mono ?_); rintro e w9 ⟨rfl, rfl⟩; rw [hk]) | fail)
    refine (HL.out _ (by ((repeat' (first | with_reducible assumption | with_reducible exact Below.refl _ _ | with_reducible refine Below.drew ?_ | with_reducible refine Below.alloc ?_ (by first | omega | (simp; omega) | (simp; done) | fail) _ | with_reducible refine Below.setCell ?_ (by first | omega | (simp; omega) | (simp; done) | fail) _ | fail)); (first | done | fail)))).mono ?_
    rintro e w2 ⟨tv, rv, rfl, ht1, ht2, hb2⟩
    obtain ⟨p1, c1, rfl, _⟩ := rd_form0 ht1
    obtain ⟨p2, c2, rfl, _⟩ := rd_form0 ht2
    clear ht1 ht2
    have HB2 := Lib.hid (Below.trans (show Below w.heap.size w _ by ((repeat' (first | with_reducible assumption | with_reducible exact Below.refl _ _ | with_reducible refine Below.drew ?_ | with_reducible refine Below.alloc ?_ (by first | omega | (simp; omega) | (simp; done) | fail) _ | with_reducible refine Below.setCell ?_ (by first | omega | (simp; omega) | (simp; done) | fail) _ | fail)); (first | done | fail))) (hb2.mono (by simp)))
    clear hb2
    go_wp2_with fail
    go_ret
    exact ⟨ret_b HG.out, HB2.out.alloc HB2.out.size _⟩
  · by_cases h3 : kindOf f = 3
    · have HG := Lib.hid (show goodW vs f = false by simp [goodW, hk, h3])
      go_enter Try.func32, Try.ntmps32
      have k0 : (kindOf f == 0) = false := by simpa using hk
      go_wp2_with (first | (go_at_call 21; (with_reducible refine (kind_ref f hw _).mono ?_); rintro e w9 ⟨rfl, rfl⟩) | fail)
      go_ret
      exact ⟨ret_b (by simp [HG.out, h3]), by ((repeat' (first | with_reducible assumption | with_reducible exact Below.refl _ _ | with_reducible refine Below.drew ?_ | with_reducible refine Below.alloc ?_ (by first | omega | (simp; omega) | (simp; done) | fail) _ | with_reducible refine Below.setCell ?_ (by first | omega | (simp; omega) | (simp; done) | fail) _ | fail)); (first | done | fail))⟩
    · have HG := Lib.hid (show goodW vs f = true by simp [goodW, hk, h3])
      have k0 : (kindOf f == 0) = false := by simpa using hk
      have k3 : (kindOf f == 3) = false := by simpa using h3
      go_enter Try.func32, Try.ntmps32
      go_wp2_with (first | (go_at_call 21; (with_reducible refine (kind_ref f hw _).mono ?_); rintro e w9 ⟨rfl, rfl⟩) | fail)
      go_ret
      exact ⟨ret_b (by simp [HG.out, h3]), by ((repeat' (first | with_reducible assumption | with_reducible exact Below.refl _ _ | with_reducible refine Below.drew ?_ | with_reducible refine Below.alloc ?_ (by first | omega | (simp; omega) | (simp; done) | fail) _ | with_reducible refine Below.setCell ?_ (by first | omega | (simp; omega) | (simp; done) | fail) _ | fail)); (first | done | fail))⟩
end Go.Proofs.Ytilonacjmihglaa
