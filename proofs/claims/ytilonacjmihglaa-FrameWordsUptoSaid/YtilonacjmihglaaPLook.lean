/- Layer 16's look: At, There, Item. -/
import Derived.Test.YtilonacjmihglaaPSize
namespace Go.Proofs.Ytilonacjmihglaa
open Go Go.ChangeShapes Go.WideShapes Go.ChangeAt Go.RowKit
set_option linter.unusedVariables false
set_option linter.unusedSimpArgs false
def lOk (vs : List Int) (f : Int) : Bool := decide (kindOf f = 0) && there vs (f / 4)
def sh3 (k t r : Int) : Value := .agg #[.int .i64 k, .int .i64 t, .int .i64 r]
def lK (vs : List Int) (f : Int) : Int := if lOk vs f = true then hK (headAt vs (f / 4)) else 0
def lT (vs : List Int) (f : Int) : Int := if lOk vs f = true then hT (headAt vs (f / 4)) else 0
def lR (vs : List Int) (f : Int) : Int := if lOk vs f = true then hS (headAt vs (f / 4)) - 2 - hT (headAt vs (f / 4)) else 0
def lA (vs : List Int) (f : Int) : Int := if lOk vs f = true then f / 4 else 0
/-- A memory's struct in a box. -/
structure Bm (w : World) (g : Nat) (p : Option Addr) (n c : Nat) (top : Int) : Prop where
  c0 : w.cell? ⟨g, 0, none⟩ = some (.slice p n c)
  c1 : w.cell? ⟨g, 1, none⟩ = some (.int .i64 top)
theorem Bm.keep {w w' : World} {g n c : Nat} {p : Option Addr} {top : Int} (h : Bm w g p n c top) (hb : Below w.heap.size w w') : Bm w' g p n c top := ⟨below_cell hb h.c0, below_cell hb h.c1⟩
theorem Bm.new (w : World) (p : Option Addr) (n c : Nat) (top : Int) (T : TypeId) : Bm (w.alloc (.cells #[.slice p n c, .int .i64 top] T)) w.heap.size p n c top := ⟨by simp, by simp⟩
/-- A box of three cells that may be written. -/
structure B3 (w : World) (g : Nat) (x y z : Value) : Prop where
  c0 : w.cell? ⟨g, 0, none⟩ = some x
  c1 : w.cell? ⟨g, 1, none⟩ = some y
  c2 : w.cell? ⟨g, 2, none⟩ = some z
  f0 : w.frozen? ⟨g, 0, none⟩ = false
  f1 : w.frozen? ⟨g, 1, none⟩ = false
  f2 : w.frozen? ⟨g, 2, none⟩ = false
theorem below_frozen {W w1 : World} (hb : Below W.heap.size W w1) {a : Addr} (hl : a.block < W.heap.size) (h : W.frozen? a = false) : w1.frozen? a = false :=
  (World.frozen?_of_block (hb.block a.block hl)).trans h
theorem B3.lt {w : World} {g : Nat} {x y z : Value} (h : B3 w g x y z) : g < w.heap.size := World.block_lt_of_cell? w _ h.c0
theorem B3.keep {w w' : World} {g : Nat} {x y z : Value} (h : B3 w g x y z) (hb : Below w.heap.size w w') : B3 w' g x y z :=
  ⟨below_cell hb h.c0, below_cell hb h.c1, below_cell hb h.c2, below_frozen hb h.lt h.f0, below_frozen hb h.lt h.f1, below_frozen hb h.lt h.f2⟩
theorem B3.new (w : World) (x y z : Value) (T : TypeId) : B3 (w.alloc (.cells #[x, y, z] T)) w.heap.size x y z := ⟨by simp, by simp, by simp, by simp, by simp, by simp⟩
set_option maxRecDepth 100000 in
set_option maxHeartbeats 1600000 in
theorem lookat_any (v : Value) (ws : List Int) (tn : Nat) (f : Int) (w : World) (hr : Rd w v ws) (hf : Fit ws) (ht : tn ≤ ws.length) (hw : (Lit.int .u64 f).wf = true) :
    Calls Try.prog 57 #[.agg #[v, .int .i64 tn], .int .u64 f] w fun e w' => e = .returned (.tuple #[sh3 (lK (ws.take tn) f) (lT (ws.take tn) f) (lR (ws.take tn) f), .int .i64 (lA (ws.take tn) f), .bool (lOk (ws.take tn) f)]) ∧ Below w.heap.size w w' := by
  have HR := Lib.hid hr
  have HK := Lib.hid (fun (wx : World) (hx : Below w.heap.size w wx) => akind_any v ws tn (f / 4) wx (hr.keep hx) hf ht)
  have HS := Lib.hid (fun (wx : World) (hx : Below w.heap.size w wx) => asize_any v ws tn (f / 4) wx (hr.keep hx) hf ht)
  obtain ⟨p, c, rfl, hm⟩ := rd_form0 hr
  have HV := Lib.hid (show ∀ vs, ws.take tn = vs → ws.take tn = vs from fun _ h => h)
  generalize hvs : ws.take tn = vs at *
  clear hf hr HV
  go_enter Try.func57, Try.ntmps57
  go_wp2_with fail
  refine (at_any f hw _).mono ?_
  rintro e w1 ⟨rfl, rfl⟩
  by_cases hk : kindOf f = 0
  · have e1 : atV f = f / 4 := by unfold atV; rw [if_pos hk]
    have e2 : atE f = 0 := by unfold atE; rw [if_pos hk]
    rw [e1, e2]
    clear e1 e2
    go_wp2_with fail
    generalize hw1 : World.alloc (World.alloc w _) _ = w1
    have HB1 := Lib.hid (show Below w.heap.size w w1 by rw [← hw1]; exact ((Below.refl _ _).alloc (Nat.le_refl _) _).alloc (by simp) _)
    have HM1 := Lib.hid (show Bm w1 w.heap.size p ws.length c tn by rw [← hw1]; exact (Bm.new _ _ _ _ _ _).keep ((Below.refl _ _).alloc (Nat.le_refl _) _))
    have HQ1 := Lib.hid (show B3 w1 (w.heap.size + 1) (.int .i64 0) (.int .i64 0) (.int .i64 0) by rw [← hw1]; have := B3.new (w.alloc (.cells #[.slice p ws.length c, .int .i64 tn] 24)) (.int .i64 0) (.int .i64 0) (.int .i64 0) 104; simpa using this)
    clear hw1
    refine (HK.out w1 HB1.out).mono ?_
    rintro e w2 ⟨rfl, hb2⟩
    have HB2 := Lib.hid (HB1.out.trans (hb2.mono HB1.out.size))
    have HM2 := Lib.hid (HM1.out.keep hb2)
    have HQ2 := Lib.hid (HQ1.out.keep hb2)
    obtain ⟨q0, q1, q2, g0, g1, g2⟩ := HQ2.out
    have m0 := HM2.out.c0
    have m1 := HM2.out.c1
    clear hb2 HQ1 HM1 HB1
    cases hth : there vs (f / 4)
    · have hL : lOk vs f = false := by simp [lOk, hth]
      have HL := Lib.hid hL
      have he : eAt vs (f / 4) = 1 := by simp [eAt, hth]
      rw [he]
      clear hL
      go_wp2_with fail
      refine bodyPost_ret (v := .tuple #[sh3 0 0 0, .int .i64 0, .bool false]) (by simp [results, Try.results57, go_sem, q0, q1, q2, sh3]) rfl ⟨?_, ?_⟩
      · simp [lK, lT, lR, lA, HL.out]
      · first | exact HB2.out | exact ((HB2.out.setCell (Nat.le_succ _) _).setCell (Nat.le_succ _) _).setCell (Nat.le_succ _) _
    · have hL : lOk vs f = true := by simp [lOk, hth, hk]
      have HL := Lib.hid hL
      have he : eAt vs (f / 4) = 0 := by simp [eAt, hth]
      have hkk : kAt vs (f / 4) = lK vs f := by simp [kAt, lK, hL, hth]
      rw [he, hkk]
      clear hL he hkk
      go_wp2_with fail
      refine (HS.out w2 HB2.out).mono ?_
      rintro e w3 ⟨rfl, hb3⟩
      have HB3 := Lib.hid (HB2.out.trans (hb3.mono HB2.out.size))
      clear q0 q1 q2 g0 g1 g2
      obtain ⟨q0, q1, q2, g0, g1, g2⟩ := HQ2.out.keep hb3
      clear hb3 m0 m1
      have ht1 : tAt vs (f / 4) = lT vs f := by simp [tAt, lT, HL.out, hth]
      have ht2 : rAt vs (f / 4) = lR vs f := by simp [rAt, lR, HL.out, hth]
      rw [ht1, ht2]
      clear ht1 ht2
      go_wp2_with fail
      refine bodyPost_ret (v := .tuple #[sh3 (lK vs f) (lT vs f) (lR vs f), .int .i64 (f / 4), .bool true]) (by simp [results, Try.results57, go_sem, q0, q1, q2, sh3]) rfl ⟨?_, ?_⟩
      · simp [lA, HL.out]
      · first | exact HB3.out | exact ((HB3.out.setCell (Nat.le_succ _) _).setCell (Nat.le_succ _) _).setCell (Nat.le_succ _) _
  · have e2 : atE f = 9 := by unfold atE; rw [if_neg hk]
    have HL := Lib.hid (show lOk vs f = false by simp [lOk, hk])
    rw [e2]
    go_wp2_with fail
    refine bodyPost_ret (v := .tuple #[sh3 0 0 0, .int .i64 0, .bool false]) (by simp [results, Try.results57, go_sem, sh3]) rfl ⟨?_, ?_⟩
    · simp [lK, lT, lR, lA, HL.out]
    · ((repeat' (first | with_reducible assumption | with_reducible exact Below.refl _ _ | with_reducible refine Below.drew ?_ | with_reducible refine Below.alloc ?_ (by first | omega | (simp; omega) | (simp; done) | fail) _ | with_reducible refine Below.setCell ?_ (by first | omega | (simp; omega) | (simp; done) | fail) _ | fail)); (first | done | fail))
theorem lA_lo {vs : List Int} {f : Int} (hw : (Lit.int .u64 f).wf = true) : 0 ≤ lA vs f ∧ lA vs f ≤ 4611686018427387904 := by
  have := wfu hw
  unfold lA; split <;> omega
def goodW (vs : List Int) (f : Int) : Bool := if kindOf f = 0 then there vs (f / 4) else !decide (kindOf f = 3)
set_option maxRecDepth 100000 in
set_option maxHeartbeats 1600000 in
theorem there_any (v : Value) (ws : List Int) (tn : Nat) (f : Int) (w : World) (hr : Rd w v ws) (hf : Fit ws) (ht : tn ≤ ws.length) (hw : (Lit.int .u64 f).wf = true) :
    Calls Try.prog 56 #[.agg #[v, .int .i64 tn], .int .u64 f] w fun e w' => e = .returned (.bool (goodW (ws.take tn) f)) ∧ Below w.heap.size w w' := by
  have HL := Lib.hid (fun (wx : World) (hx : Below w.heap.size w wx) => lookat_any v ws tn f wx (hr.keep hx) hf ht hw)
  obtain ⟨p, c, rfl, hm⟩ := rd_form0 hr
  generalize hvs : ws.take tn = vs at *
  clear hf hr
  go_enter Try.func56, Try.ntmps56
  go_wp2_with fail
  refine (kind_any f hw _).mono ?_
  rintro e w1 ⟨rfl, rfl⟩
  by_cases hk : kindOf f = 0
  · rw [hk]
    go_wp2_with fail
    refine (HL.out _ (by ((repeat' (first | with_reducible assumption | with_reducible exact Below.refl _ _ | with_reducible refine Below.drew ?_ | with_reducible refine Below.alloc ?_ (by first | omega | (simp; omega) | (simp; done) | fail) _ | with_reducible refine Below.setCell ?_ (by first | omega | (simp; omega) | (simp; done) | fail) _ | fail)); (first | done | fail)))).mono ?_
    rintro e w2 ⟨rfl, hb2⟩
    have HG := Lib.hid (show lOk vs f = goodW vs f by simp [lOk, goodW, hk])
    have HB2 := Lib.hid (Below.trans (show Below w.heap.size w _ by ((repeat' (first | with_reducible assumption | with_reducible exact Below.refl _ _ | with_reducible refine Below.drew ?_ | with_reducible refine Below.alloc ?_ (by first | omega | (simp; omega) | (simp; done) | fail) _ | with_reducible refine Below.setCell ?_ (by first | omega | (simp; omega) | (simp; done) | fail) _ | fail)); (first | done | fail))) (hb2.mono (by simp)))
    unfold sh3
    clear hb2
    go_wp2_with fail
    go_ret
    exact ⟨ret_b HG.out, HB2.out.alloc HB2.out.size _⟩
  · by_cases h3 : kindOf f = 3
    · have HG := Lib.hid (show goodW vs f = false by simp [goodW, hk, h3])
      rw [h3]
      go_wp2_with fail
      go_ret
      exact ⟨ret_b HG.out.symm, by ((repeat' (first | with_reducible assumption | with_reducible exact Below.refl _ _ | with_reducible refine Below.drew ?_ | with_reducible refine Below.alloc ?_ (by first | omega | (simp; omega) | (simp; done) | fail) _ | with_reducible refine Below.setCell ?_ (by first | omega | (simp; omega) | (simp; done) | fail) _ | fail)); (first | done | fail))⟩
    · have HG := Lib.hid (show goodW vs f = true by simp [goodW, hk, h3])
      have k0 : (kindOf f == 0) = false := by simpa using hk
      have k3 : (kindOf f == 3) = false := by simpa using h3
      go_wp2_with fail
      go_ret
      exact ⟨ret_b HG.out.symm, by ((repeat' (first | with_reducible assumption | with_reducible exact Below.refl _ _ | with_reducible refine Below.drew ?_ | with_reducible refine Below.alloc ?_ (by first | omega | (simp; omega) | (simp; done) | fail) _ | with_reducible refine Below.setCell ?_ (by first | omega | (simp; omega) | (simp; done) | fail) _ | fail)); (first | done | fail))⟩
def itV (vs : List Int) (a i : Int) : Int := gV vs a i
set_option maxRecDepth 100000 in
set_option maxHeartbeats 1600000 in
theorem item_any (v : Value) (ws : List Int) (tn : Nat) (a i : Int) (w : World) (hr : Rd w v ws) (hf : Fit ws) (ht : tn ≤ ws.length) (hi : -9223372036854775808 ≤ i ∧ i ≤ 9223372036854775807) :
    Calls Try.prog 58 #[.agg #[v, .int .i64 tn], .int .i64 a, .int .i64 i] w fun e w' => e = .returned (.int .u64 (gV (ws.take tn) a i)) ∧ Below w.heap.size w w' := by
  have HL := Lib.hid (fun (wx : World) (hx : Below w.heap.size w wx) => aget_any v ws tn a i wx (hr.keep hx) hf ht hi)
  obtain ⟨p, c, rfl, hm⟩ := rd_form0 hr
  generalize hvs : ws.take tn = vs at *
  clear hf hr
  go_enter Try.func58, Try.ntmps58
  go_wp2_with fail
  refine (HL.out _ (by ((repeat' (first | with_reducible assumption | with_reducible exact Below.refl _ _ | with_reducible refine Below.drew ?_ | with_reducible refine Below.alloc ?_ (by first | omega | (simp; omega) | (simp; done) | fail) _ | with_reducible refine Below.setCell ?_ (by first | omega | (simp; omega) | (simp; done) | fail) _ | fail)); (first | done | fail)))).mono ?_
  rintro e w2 ⟨rfl, hb2⟩
  have HB2 := Lib.hid (Below.trans (show Below w.heap.size w _ by ((repeat' (first | with_reducible assumption | with_reducible exact Below.refl _ _ | with_reducible refine Below.drew ?_ | with_reducible refine Below.alloc ?_ (by first | omega | (simp; omega) | (simp; done) | fail) _ | with_reducible refine Below.setCell ?_ (by first | omega | (simp; omega) | (simp; done) | fail) _ | fail)); (first | done | fail))) (hb2.mono (by simp)))
  clear hb2
  go_wp2_with fail
  go_ret
  exact ⟨rfl, HB2.out⟩
end Go.Proofs.Ytilonacjmihglaa
