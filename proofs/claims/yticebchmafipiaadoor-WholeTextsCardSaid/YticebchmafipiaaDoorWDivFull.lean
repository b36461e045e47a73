/- Layer 2: whole.DivMod, walked, over what divSizes answers. -/
import Derived.Test.YticebchmafipiaaDoorWDivMath
namespace Go.Proofs.YticebchmafipiaaDoor
open Go.ChangeShapes Go.WideShapes Go.ChangeAt Go.RowKit
set_option linter.unusedVariables false
set_option linter.unusedSimpArgs false
theorem cell_set4 {w : World} {B C D i : Nat} {v : Value} (h : B ≠ C) (h' : B ≠ D) (hc : w.cell? ⟨B, i, none⟩ = some v) (x y x' y' : Value) : ((((w.setCell ⟨C, 0, none⟩ x).setCell ⟨C, 1, none⟩ y).setCell ⟨D, 0, none⟩ x').setCell ⟨D, 1, none⟩ y').cell? ⟨B, i, none⟩ = some v :=
  cell_set2 h' (cell_set2 h hc x y) x' y'
theorem DMPost2.mk0 {W w w' : World} {B C L M : Nat} {z1 z2 zq zr : Int} {nq nr : Bool} {uq ur : Value} {qs rs : List Int} (x0 x1 y0 y1 : Value)
    (hq : MR w L M uq qs) (hr : MU w M ur rs) (hLM : L ≤ M) (hB : W.heap.size ≤ B) (hC : W.heap.size ≤ C) (lB : B < L) (lC : C < L) (hsq : Sgn B18 nq qs zq) (hsr : Sgn B18 nr rs zr) (he : z1 = zq * z2 + zr) (hb : (0 ≤ zr ∧ zr < z2) ∨ (z2 < zr ∧ zr ≤ 0)) (hw : Below W.heap.size W w)
    (hw' : w' = (((w.setCell ⟨B, 0, none⟩ x0).setCell ⟨B, 1, none⟩ x1).setCell ⟨C, 0, none⟩ y0).setCell ⟨C, 1, none⟩ y1) :
    DMPost2 W z1 z2 (.returned (.tuple #[.agg #[.bool nq, uq], .agg #[.bool nr, ur], .int .i64 0])) w' := by
  subst hw'
  exact ⟨M, nq, uq, qs, zq, nr, ur, rs, zr, rfl, MR.lo ((hq.set2 lB x0 x1).set2 lC y0 y1) (by omega), (hr.set2 (Nat.lt_of_lt_of_le lB hLM) x0 x1).set2 (Nat.lt_of_lt_of_le lC hLM) y0 y1, by omega, hsq, hsr, he, hb, (((hw.setCell hB _).setCell hB _).setCell hC _).setCell hC _⟩
theorem drew_cell {W : World} {a : Addr} {v : Value} (h : W.cell? a = some v) : W.drew.cell? a = some v := h
theorem abs_same {n m : Bool} {q : List Int} {v : Int} (h : Sgn B18 m q (sg n v)) (hv : 0 ≤ v) : val B18 q = v := by
  rw [h.abs (by decide)]
  cases n <;> simp [sg] <;> omega
theorem dig_1 : Dig B18 [1] := by
  intro i
  cases i with
  | zero => simp [B18]
  | succ i => simp [B18]
theorem Bx4.set2 {w : World} {B C : Nat} {n1 n2 : Bool} {u1 u2 : Value} (h : Bx4 w B n1 u1 n2 u2) (hC : B + 1 + 1 + 1 < C) (x y : Value) : Bx4 ((w.setCell ⟨C, 0, none⟩ x).setCell ⟨C, 1, none⟩ y) B n1 u1 n2 u2 :=
  ⟨cell_set2 (by omega) h.x0 x y, cell_set2 (by omega) h.x1 x y, cell_set2 (by omega) h.y0 x y, cell_set2 (by omega) h.y1 x y, cell_set2 (by omega) h.r0 x y, cell_set2 (by omega) h.r1 x y, by simp [h.f0], by simp [h.f1],
    cell_set2 (by omega) h.s0 x y, cell_set2 (by omega) h.s1 x y, by simp [h.g0], by simp [h.g1], by simp [World.setCell]; exact h.lt⟩
theorem made_at2 {W5 : World} {L c : Nat} {p : Option Addr} {ws : List Int} (neg : Bool) (hM : MU W5 L (.slice p ws.length c) ws) (hd : Dig B18 ws) (hl : ws.length ≤ 17592186043904) (wx : World) (hx : Below W5.heap.size W5 wx) :
    Calls Tryd.prog 41 #[.bool neg, .slice p ws.length c] wx (MadeAt W5 wx L W5.heap.size neg ws) := by
  refine (made_any neg p c ws wx ((hM.keep hx).rd hl)).mono ?_
  rintro e w' ⟨k, hk, rfl, hb⟩
  obtain ⟨m, p', q, hv, hM', hS, _⟩ := made_mr neg hk hd hM.mr
  have hb' := hx.trans (hb.mono hx.size)
  exact ⟨m, p', k, q, by rw [hv], hM'.block (fun q' _ h => hb'.block q' h), hS, hb', hb⟩
set_option maxRecDepth 100000 in
set_option maxHeartbeats 8000000 in
/-- DivMod by a divisor that is not 0, over what divSizes answers. -/
theorem div_walk2 (n1 : Bool) (u1 : Value) (xs : List Int) (z1 : Int) (n2 : Bool) (u2 : Value) (ys : List Int) (z2 : Int) (w : World) (hr1 : Rd w u1 xs) (hr2 : Rd w u2 ys) (hs1 : Sgn B18 n1 xs z1) (hs2 : Sgn B18 n2 ys z2) (hl1 : xs.length ≤ 30) (hl2 : ys.length ≤ 30) (hy : 0 < ys.length)
    (hdiv : ∀ wx, Below w.heap.size w wx → Calls Tryd.prog 40 #[u1, u2] wx (DivPost wx xs ys)) :
    Calls Tryd.prog 17 #[.agg #[.bool n1, u1], .agg #[.bool n2, u2]] w (DMPost2 w z1 z2) := by
  have HR1 := Lib.hid hr1
  have HR2 := Lib.hid hr2
  obtain ⟨p1, c1, rfl, _, _, _⟩ := rd_form hr1
  obtain ⟨p2, c2, rfl, _, _, _⟩ := rd_form hr2
  have HS1 := Lib.hid hs1
  have HS2 := Lib.hid hs2
  have HDIV := Lib.hid hdiv
  have hyz : ((ys.length : Int) == 0) = false := by simp; intro e; rw [e] at hy; simp at hy
  have hyn : ¬ (ys.length : Int) = 0 := by omega
  clear hr1 hr2 hs1 hs2 hdiv
  go_enter Tryd.func17, Tryd.ntmps17
  go_wp2_with fail
  generalize hw2 : World.alloc (World.alloc (World.alloc (World.alloc w _) _) _) _ = w2
  have hbx : Bx4 w2 w.heap.size n1 (.slice p1 xs.length c1) n2 (.slice p2 ys.length c2) := by rw [← hw2]; exact bx4_new w n1 n2 _ _ _
  have HB2 := Lib.hid (show Below w.heap.size w w2 by rw [← hw2]; exact below4 w _ _ _ _)
  clear hw2
  have HX2 := Lib.hid hbx
  have q0 := hbx.x0
  have q1 := hbx.x1
  have q2 := hbx.y0
  have q3 := hbx.y1
  refine (good_yes _ _ xs z1 w2 (HR1.out.keep HB2.out) HS1.out hl1).mono ?_
  rintro e w3 ⟨rfl, hb3⟩
  have HX3 := Lib.hid (HX2.out.keep hb3.block hb3.size)
  have HB3 := Lib.hid (HB2.out.trans (hb3.mono HB2.out.size))
  have t0 := HX3.out.x0
  have t1 := HX3.out.x1
  have t2 := HX3.out.y0
  have t3 := HX3.out.y1
  clear q0 q1 q2 q3 hb3 hbx HX2 HB2
  go_wp2_with fail
  refine (good_yes _ _ ys z2 w3 (HR2.out.keep HB3.out) HS2.out hl2).mono ?_
  rintro e w4 ⟨rfl, hb4⟩
  have HX4 := Lib.hid (HX3.out.keep hb4.block hb4.size)
  have HB4 := Lib.hid (HB3.out.trans (hb4.mono HB3.out.size))
  have s0 := HX4.out.x0
  have s1 := HX4.out.x1
  have s2 := HX4.out.y0
  have s3 := HX4.out.y1
  clear t0 t1 t2 t3 hb4 HX3 HB3
  go_wp2_with fail
  refine (HDIV.out w4 HB4.out).mono ?_
  rintro e w5 ⟨uq, qs, gr, rs, rfl, hMq, hLr, hgr, hDq, hDr, hlq, hlr, hxy, hry, hb5⟩
  obtain ⟨pq, cq, rfl⟩ := MU.form hMq.mu
  have HX5 := Lib.hid (HX4.out.keep hb5.block hb5.size)
  have HB5 := Lib.hid (HB4.out.trans (hb5.mono HB4.out.size))
  have HMQ := Lib.hid hMq
  have HMR := Lib.hid (MU.mr (LR.mine hLr (Nat.le_refl gr)))
  have HGR := Lib.hid hgr
  have HGL := Lib.hid (Nat.le_of_lt (LR.lt hLr))
  have HDQ := Lib.hid hDq
  have HDR := Lib.hid hDr
  have HXY := Lib.hid hxy
  have HRY := Lib.hid hry
  have hlt4 := HX4.out.lt
  have HL4 := Lib.hid hlt4
  clear s0 s1 s2 s3 hMq hLr hgr hDq hDr hxy hry hb5 HX4 HB4 hlt4
  have s0 := HX5.out.x0
  have s1 := HX5.out.x1
  have s2 := HX5.out.y0
  have s3 := HX5.out.y1
  have hlt5 := HX5.out.lt
  have HMADEQ := Lib.hid (fun (neg : Bool) (wx : World) (hx : Below w5.heap.size w5 wx) => made_at (n := 0) neg HMQ.out HGL.out HDQ.out hlq wx hx)
  have HMADER := Lib.hid (fun (neg : Bool) (wx : World) (hx : Below w5.heap.size w5 wx) => made_at (n := 0) neg HMR.out (Nat.le_refl _) HDR.out hlr wx hx)
  go_wp2_with fail
  go_cut [9, 10] (fun a b wx => ∃ b9 b10 m9 p9 k9 q m10 p10 k10 r, a = .pointer (some ⟨b9, 0, none⟩) ∧ b = .pointer (some ⟨b10, 0, none⟩) ∧
    QR w wx n1 (.slice p1 xs.length c1) n2 (.slice p2 ys.length c2) w4.heap.size gr w5.heap.size b9 b10 m9 p9 k9 q m10 p10 k10 r (sg (n1 != n2) (val B18 qs)) (sg n1 (val B18 rs)))
  case first =>
    go_region_held3 (fun w' => w'.cell? ⟨w.heap.size, 0, none⟩ = some (.bool n1) ∧ w'.cell? ⟨w.heap.size + 1, 0, none⟩ = some (.bool n2))
      ((repeat' apply And.intro) <;> (repeat' (first | with_reducible assumption | with_reducible refine alloc_cell ?_ _ | (with_reducible refine cell_set2 ?_ ?_ _ _; · omega) | with_reducible refine drew_cell ?_)))
      (first
       | (go_at_call 41; (with_reducible refine (HMADEQ.out _ _ (by ((repeat' (first | assumption | exact Below.refl _ _ | refine Below.drew ?_ | refine Below.alloc ?_ (by first | omega | (simp; omega) | (simp; done) | fail) _ | refine Below.setCell ?_ (by first | omega | (simp; omega) | (simp; done) | fail) _ | fail)); (first | done | fail)))).mono ?_); rintro e w6 ⟨m9, p9, k9, q, rfl, hR9, hS9, hb9, hx9⟩; have k9a := below_cell hb9 s0; have k9b := below_cell hb9 s2; have z9 := hb9.size; (try (have hBox := Box2.keep (B := w5.heap.size) (a := (.bool false)) (b := (.slice none 0 0)) (by ((repeat' (first | assumption | (with_reducible exact Hid.out ‹_›) | (with_reducible refine Box2.put0 _ _ ?_) | (with_reducible refine Box2.new _ _ _ _ ?_; (first | with_reducible rfl | (simp; done) | rfl)) | (with_reducible refine Box2.alloc ?_ _) | (with_reducible refine Box2.drew ?_) | (with_reducible refine Box2.set2 ?hn _ _ ?_; case hn => omega) | fail)); (first | done | fail))) hx9; obtain ⟨_, _, _, _, _, _, _, _⟩ := hBox.all)); (try (have hBox := Box2.keep (B := (w5.heap.size + 1)) (a := (.bool false)) (b := (.slice none 0 0)) (by ((repeat' (first | assumption | (with_reducible exact Hid.out ‹_›) | (with_reducible refine Box2.put0 _ _ ?_) | (with_reducible refine Box2.new _ _ _ _ ?_; (first | with_reducible rfl | (simp; done) | rfl)) | (with_reducible refine Box2.alloc ?_ _) | (with_reducible refine Box2.drew ?_) | (with_reducible refine Box2.set2 ?hn _ _ ?_; case hn => omega) | fail)); (first | done | fail))) hx9; obtain ⟨_, _, _, _, _, _, _, _⟩ := hBox.all)); clear hx9)
       | (go_at_call 41; (with_reducible refine (HMADER.out _ _ (by ((repeat' (first | assumption | exact Below.refl _ _ | refine Below.drew ?_ | refine Below.alloc ?_ (by first | omega | (simp; omega) | (simp; done) | fail) _ | refine Below.setCell ?_ (by first | omega | (simp; omega) | (simp; done) | fail) _ | fail)); (first | done | fail)))).mono ?_); rintro e w7 ⟨m10, p10, k10, r, rfl, hR10, hS10, hb10, hx10⟩; have k10a := below_cell hb10 s0; have k10b := below_cell hb10 s2; have z10 := hb10.size; (try (have hBox := Box2.keep (B := w5.heap.size) (a := (.bool false)) (b := (.slice none 0 0)) (by ((repeat' (first | assumption | (with_reducible exact Hid.out ‹_›) | (with_reducible refine Box2.put0 _ _ ?_) | (with_reducible refine Box2.new _ _ _ _ ?_; (first | with_reducible rfl | (simp; done) | rfl)) | (with_reducible refine Box2.alloc ?_ _) | (with_reducible refine Box2.drew ?_) | (with_reducible refine Box2.set2 ?hn _ _ ?_; case hn => omega) | fail)); (first | done | fail))) hx10; obtain ⟨_, _, _, _, _, _, _, _⟩ := hBox.all)); (try (have hBox := Box2.keep (B := (w5.heap.size + 1)) (a := (.bool false)) (b := (.slice none 0 0)) (by ((repeat' (first | assumption | (with_reducible exact Hid.out ‹_›) | (with_reducible refine Box2.put0 _ _ ?_) | (with_reducible refine Box2.new _ _ _ _ ?_; (first | with_reducible rfl | (simp; done) | rfl)) | (with_reducible refine Box2.alloc ?_ _) | (with_reducible refine Box2.drew ?_) | (with_reducible refine Box2.set2 ?hn _ _ ?_; case hn => omega) | fail)); (first | done | fail))) hx10; obtain ⟨_, _, _, _, _, _, _, _⟩ := hBox.all)); (try (have hBox := Box2.keep (B := w6.heap.size) (a := (.bool false)) (b := (.slice none 0 0)) (by ((repeat' (first | assumption | (with_reducible exact Hid.out ‹_›) | (with_reducible refine Box2.put0 _ _ ?_) | (with_reducible refine Box2.new _ _ _ _ ?_; (first | with_reducible rfl | (simp; done) | rfl)) | (with_reducible refine Box2.alloc ?_ _) | (with_reducible refine Box2.drew ?_) | (with_reducible refine Box2.set2 ?hn _ _ ?_; case hn => omega) | fail)); (first | done | fail))) hx10; obtain ⟨_, _, _, _, _, _, _, _⟩ := hBox.all)); (try (have hBox := Box2.keep (B := (w6.heap.size + 1)) (a := (.bool false)) (b := (.slice none 0 0)) (by ((repeat' (first | assumption | (with_reducible exact Hid.out ‹_›) | (with_reducible refine Box2.put0 _ _ ?_) | (with_reducible refine Box2.new _ _ _ _ ?_; (first | with_reducible rfl | (simp; done) | rfl)) | (with_reducible refine Box2.alloc ?_ _) | (with_reducible refine Box2.drew ?_) | (with_reducible refine Box2.set2 ?hn _ _ ?_; case hn => omega) | fail)); (first | done | fail))) hx10; obtain ⟨_, _, _, _, _, _, _, _⟩ := hBox.all)); (try (have hBox := Box2.keep (B := w5.heap.size) (a := (.bool m9)) (b := (.slice p9 k9 k9)) (by ((repeat' (first | assumption | (with_reducible exact Hid.out ‹_›) | (with_reducible refine Box2.put0 _ _ ?_) | (with_reducible refine Box2.new _ _ _ _ ?_; (first | with_reducible rfl | (simp; done) | rfl)) | (with_reducible refine Box2.alloc ?_ _) | (with_reducible refine Box2.drew ?_) | (with_reducible refine Box2.set2 ?hn _ _ ?_; case hn => omega) | fail)); (first | done | fail))) hx10; obtain ⟨_, _, _, _, _, _, _, _⟩ := hBox.all)); (try (have hBox := Box2.keep (B := (w5.heap.size + 1)) (a := (.bool m9)) (b := (.slice p9 k9 k9)) (by ((repeat' (first | assumption | (with_reducible exact Hid.out ‹_›) | (with_reducible refine Box2.put0 _ _ ?_) | (with_reducible refine Box2.new _ _ _ _ ?_; (first | with_reducible rfl | (simp; done) | rfl)) | (with_reducible refine Box2.alloc ?_ _) | (with_reducible refine Box2.drew ?_) | (with_reducible refine Box2.set2 ?hn _ _ ?_; case hn => omega) | fail)); (first | done | fail))) hx10; obtain ⟨_, _, _, _, _, _, _, _⟩ := hBox.all)); (try (have hBox := Box2.keep (B := w6.heap.size) (a := (.bool m9)) (b := (.slice p9 k9 k9)) (by ((repeat' (first | assumption | (with_reducible exact Hid.out ‹_›) | (with_reducible refine Box2.put0 _ _ ?_) | (with_reducible refine Box2.new _ _ _ _ ?_; (first | with_reducible rfl | (simp; done) | rfl)) | (with_reducible refine Box2.alloc ?_ _) | (with_reducible refine Box2.drew ?_) | (with_reducible refine Box2.set2 ?hn _ _ ?_; case hn => omega) | fail)); (first | done | fail))) hx10; obtain ⟨_, _, _, _, _, _, _, _⟩ := hBox.all)); (try (have hBox := Box2.keep (B := (w6.heap.size + 1)) (a := (.bool m9)) (b := (.slice p9 k9 k9)) (by ((repeat' (first | assumption | (with_reducible exact Hid.out ‹_›) | (with_reducible refine Box2.put0 _ _ ?_) | (with_reducible refine Box2.new _ _ _ _ ?_; (first | with_reducible rfl | (simp; done) | rfl)) | (with_reducible refine Box2.alloc ?_ _) | (with_reducible refine Box2.drew ?_) | (with_reducible refine Box2.set2 ?hn _ _ ?_; case hn => omega) | fail)); (first | done | fail))) hx10; obtain ⟨_, _, _, _, _, _, _, _⟩ := hBox.all)); clear hx10)
       )
    go_goals
    all_goals (go_wp2_with fail)
    all_goals go_meet
    all_goals exact ⟨_, _, m9, p9, k9, q, m10, p10, k10, r, rfl, rfl, QR.leaf HX5.out HB5.out HL4.out HGR.out HGL.out hb9 hb10 hR9 hS9 hR10 hS10 (by ((repeat' (first | assumption | exact Below.refl _ _ | refine Below.drew ?_ | refine Below.alloc ?_ (by first | omega | (simp; omega) | (simp; done) | fail) _ | refine Below.setCell ?_ (by first | omega | (simp; omega) | (simp; done) | fail) _ | fail)); (first | done | fail))) (by ((repeat' (first | assumption | (with_reducible exact Hid.out ‹_›) | (with_reducible refine Box2.put0 _ _ ?_) | (with_reducible refine Box2.new _ _ _ _ ?_; (first | with_reducible rfl | (simp; done) | rfl)) | (with_reducible refine Box2.alloc ?_ _) | (with_reducible refine Box2.drew ?_) | (with_reducible refine Box2.set2 ?hn _ _ ?_; case hn => omega) | fail)); (first | done | fail))) (by ((repeat' (first | assumption | (with_reducible exact Hid.out ‹_›) | (with_reducible refine Box2.put0 _ _ ?_) | (with_reducible refine Box2.new _ _ _ _ ?_; (first | with_reducible rfl | (simp; done) | rfl)) | (with_reducible refine Box2.alloc ?_ _) | (with_reducible refine Box2.drew ?_) | (with_reducible refine Box2.set2 ?hn _ _ ?_; case hn => omega) | fail)); (first | done | fail))) (by first | omega | (simp; omega)) (by first | omega | (simp; omega)) (by first | omega | (simp; omega))⟩
  case rest =>
    obtain ⟨b9, b10, m9, p9, k9, q, m10, p10, k10, r, rfl, rfl, hQR⟩ := hcut
    have HQR := Lib.hid hQR
    have e0 := hQR.box.x0
    have e1 := hQR.box.x1
    have e2 := hQR.box.y0
    have e3 := hQR.box.y1
    have g0 := hQR.c9
    have g1 := hQR.d9
    have g2 := hQR.c10
    have g3 := hQR.d10
    have f0 := hQR.f9
    have f1 := hQR.g9
    clear hQR
    have r0 := HQR.out.box.r0
    have r1 := HQR.out.box.r1
    have i0 := HQR.out.box.f0
    have i1 := HQR.out.box.f1
    have t0 := HQR.out.box.s0
    have t1 := HQR.out.box.s1
    have j0 := HQR.out.box.g0
    have j1 := HQR.out.box.g1
    have l9 := HQR.out.h9
    have l10 := HQR.out.h10
    have l4 := HQR.out.lo
    have lM := HQR.out.lM
    clear HX5 HMQ HMR HMADEQ HMADER s0 s1 s2 s3 HDIV
    by_cases hk0 : k10 = 0
    · subst hk0
      go_wp2_with fail
      go_region
      go_wp2_with fail
      have zz := four_set (B := w.heap.size + 1 + 1) (C := w.heap.size + 1 + 1 + 1) (by omega) (.bool m9) (.slice p9 k9 k9) (.bool m10) (.slice p10 0 0) r0 r1 t0 t1
      refine bodyPost_ret (v := .tuple #[.agg #[.bool m9, .slice p9 k9 k9], .agg #[.bool m10, .slice p10 0 0], .int .i64 0]) (by simp [results, Tryd.results17, go_sem, zz.1, zz.2.1, zz.2.2.1, zz.2.2.2]) rfl ?_
      have hf := floor_same n1 n2 HXY.out (val_nonneg (by decide) HDR.out) HRY.out (Or.inl (by have h1 := HQR.out.s10.eq; have h2 := MU.len HQR.out.q10.mu; rw [List.length_eq_zero_iff.1 h2.symm] at h1; have h3 := val_nonneg (b := B18) (by decide) HDR.out; revert h1; cases n1 <;> cases m10 <;> simp [sg, val]))
      exact DMPost2.mk _ _ _ _ HQR.out.q9 HQR.out.q10.mu lM (by omega) (by omega) (by omega) (by omega) HQR.out.s9 HQR.out.s10 (by rw [HS1.out.eq, HS2.out.eq]; exact hf.1) (by rw [HS2.out.eq]; exact hf.2) HQR.out.below rfl
    · have hkz : ((k10 : Int) == 0) = false := by simp; omega
      have hkn : ¬ (k10 : Int) = 0 := by omega
      by_cases hnn : n1 = n2
      · subst hnn
        have hnd : (n1 == n1) = true := by simp
        go_wp2_with fail
        go_region
        go_wp2_with fail
        have zz := four_set (B := w.heap.size + 1 + 1) (C := w.heap.size + 1 + 1 + 1) (by omega) (.bool m9) (.slice p9 k9 k9) (.bool m10) (.slice p10 k10 k10) r0 r1 t0 t1
        refine bodyPost_ret (v := .tuple #[.agg #[.bool m9, .slice p9 k9 k9], .agg #[.bool m10, .slice p10 k10 k10], .int .i64 0]) (by simp [results, Tryd.results17, go_sem, zz.1, zz.2.1, zz.2.2.1, zz.2.2.2]) rfl ?_
        have hf := floor_same n1 n1 HXY.out (val_nonneg (by decide) HDR.out) HRY.out (Or.inr rfl)
        exact DMPost2.mk _ _ _ _ HQR.out.q9 HQR.out.q10.mu lM (by omega) (by omega) (by omega) (by omega) HQR.out.s9 HQR.out.s10 (by rw [HS1.out.eq, HS2.out.eq]; exact hf.1) (by rw [HS2.out.eq]; exact hf.2) HQR.out.below rfl
      · have hnd : (n1 == n2) = false := by simpa using hnn
        have hq9 := HQR.out.q9.mu
        have hr9 := HQR.out.q10.mu
        obtain rfl := MU.len hq9
        obtain rfl := MU.len hr9
        have HQS := Lib.hid (abs_same HQR.out.s9 (val_nonneg (by decide) HDQ.out))
        have HRS := Lib.hid (abs_same HQR.out.s10 (val_nonneg (by decide) HDR.out))
        have hql : q.length ≤ 1000 := Nat.le_trans ((canon_len (by decide) HQR.out.s9.canon qs.length).2 (by rw [HQS.out]; exact val_lt (by decide) HDQ.out)) hlq
        have hrl : r.length ≤ 1000 := Nat.le_trans ((canon_len (by decide) HQR.out.s10.canon rs.length).2 (by rw [HRS.out]; exact val_lt (by decide) HDR.out)) hlr
        have hry : r.length ≤ ys.length := (canon_len (by decide) HQR.out.s10.canon ys.length).2 (by rw [HRS.out]; exact Int.lt_trans HRY.out (val_lt (by decide) HS2.out.canon.1))
        have hrv : val B18 r ≤ val B18 ys := by rw [HRS.out]; exact Int.le_of_lt HRY.out
        have hlt := HQR.out.box.lt
        have HADD := Lib.hid (show Calls Tryd.prog 36 #[.slice p9 q.length q.length, .slice (some ⟨wc.heap.size, 0, none⟩) 1 1] (wc.alloc (.cells #[.int .u64 1] 50)) (AddPost (wc.alloc (.cells #[.int .u64 1] 50)) q [1]) from
          addSizes_any _ _ q [1] _ ((hq9.rd (by omega)).alloc _) (Mine.rd (T := 50) (LR.mine (B0 := 0) (show LU (wc.alloc (.cells #[.int .u64 1] 50)) wc.heap.size [1] from heap_alloc_new wc _) (Nat.zero_le _)) (by simp)) HQR.out.s9.canon.1 dig_1)
        have HBX := Lib.hid (show Box2 wc b9 (.bool m9) (.slice p9 q.length q.length) from ⟨g0, g1, f0, f1⟩)
        have hb9l := HBX.out.lt
        have HRR := Lib.hid (hr9.rd (by omega))
        have HRL := Lib.hid hry
        have HRV := Lib.hid hrv
        have HQL := Lib.hid hql
        clear hq9 hr9 hql hrl hry hrv
        go_wp2_with fail
        refine HADD.out.mono ?_
        rintro e w6 ⟨g, os, rfl, hg, hL, hol, hd, hv, hb5⟩
        have hg' : wc.heap.size + 1 ≤ g := by simpa using hg
        have HL6 := Lib.hid (LR.mine hL (B0 := wc.heap.size + 1) hg')
        have HD6 := Lib.hid hd
        have HV6 := Lib.hid hv
        have HO6 := Lib.hid (show os.length ≤ 1001 by have := HQL.out; rw [hol]; simp only [List.length_cons, List.length_nil]; omega)
        have HB6 := Lib.hid (show Below wc.heap.size wc w6 from ((Below.refl _ _).alloc (Nat.le_refl _) _).trans (hb5.mono (by simp)))
        have hz6 : wc.heap.size + 1 ≤ w6.heap.size := by have := hb5.size; simpa using this
        clear hL hd hv hol hg hb5 hg'
        go_wp2_with fail
        refine (made_at2 true HL6.out HD6.out (by have := HO6.out; omega) w6 (Below.refl _ _)).mono ?_
        rintro e w7 ⟨m', p', k', q', rfl, hR, hS, _, hb7⟩
        have HR7 := Lib.hid hR
        have hz67 := hb7.size
        have HS7 := Lib.hid hS
        have HB7 := Lib.hid (HB6.out.trans (hb7.mono HB6.out.size))
        have HK7 := Lib.hid (HBX.out.keep HB7.out)
        obtain ⟨y1, y2, y3, y4, _, _, _, _⟩ := HK7.out.all
        have hz7 := hb7.size
        have HX8 := Lib.hid ((HQR.out.box.keep HB7.out.block HB7.out.size).set2 (C := b9) (by omega) (.bool m') (.slice p' k' k'))
        have HK8 := Lib.hid (HK7.out.put (.bool m') (.slice p' k' k'))
        have HB8 := Lib.hid (show Below w.heap.size w ((w7.setCell ⟨b9, 0, none⟩ (.bool m')).setCell ⟨b9, 1, none⟩ (.slice p' k' k')) from
          (((HQR.out.below).trans (HB7.out.mono (by omega))).setCell (by simp; omega) _).setCell (by simp; omega) _)
        have HM8 := Lib.hid (MR.set2 HR7.out (show b9 < wc.heap.size + 1 by omega) (.bool m') (.slice p' k' k'))
        have hc10 := cell_set2 (C := b9) (Ne.symm HQR.out.ne) (below_cell HB7.out g3) (.bool m') (.slice p' k' k')
        have hz9 : w6.heap.size ≤ ((w7.setCell ⟨b9, 0, none⟩ (.bool m')).setCell ⟨b9, 1, none⟩ (.slice p' k' k')).heap.size := by simp [World.setCell]; omega
        have hz8 : wc.heap.size + 1 ≤ ((w7.setCell ⟨b9, 0, none⟩ (.bool m')).setCell ⟨b9, 1, none⟩ (.slice p' k' k')).heap.size := by simp [World.setCell]; omega
        have HRM8 := Lib.hid (show MR ((w7.setCell ⟨b9, 0, none⟩ (.bool m')).setCell ⟨b9, 1, none⟩ (.slice p' k' k')) gr w5.heap.size (.slice p10 r.length r.length) r from
          HQR.out.q10.block (fun j _ hj => by rw [Below.heap_setCell _ _ _ _ (by simp; omega), Below.heap_setCell _ _ _ _ (by simp; omega)]; exact HB7.out.block j (by omega)))
        have HCS := Lib.hid HQR.out.s10.canon
        have hrl' : r.length ≤ 1000 := by have := HRL.out; omega
        clear e0 e1 e2 e3 g0 g1 g2 g3 f0 f1 r0 r1 i0 i1 t0 t1 j0 j1
        have HE := Lib.hid (show z1 = sg true (val B18 os) * z2 + sg n2 (val B18 ys - val B18 r) ∧ ((0 ≤ sg n2 (val B18 ys - val B18 r) ∧ sg n2 (val B18 ys - val B18 r) < z2) ∨ (z2 < sg n2 (val B18 ys - val B18 r) ∧ sg n2 (val B18 ys - val B18 r) ≤ 0)) by
          have hp : 0 < val B18 rs := by
            have h1 := val_nonneg (b := B18) (by decide) HDR.out
            have h2 := (canon_len (b := B18) (by decide) HCS.out 0)
            rw [HRS.out] at h2
            simp at h2
            by_cases h3 : val B18 rs = 0
            · exact absurd (List.length_eq_zero_iff.2 (h2.2 (by omega))) hk0
            · omega
          have hf := floor_diff n1 n2 HXY.out hp HRY.out hnn
          rw [HV6.out, HQS.out, HRS.out, val_one, HS1.out.eq, HS2.out.eq]
          exact hf)
        go_wp2_with fail
        generalize hw8 : World.setCell (World.setCell w7 _ _) _ _ = w8 at HX8 HK8 HB8 HM8 hc10 hz8 hz9 HRM8
        clear hw8 y1 y2 y3 y4
        have HSUB := Lib.hid (fun (wx : World) (hx : Below w8.heap.size w8 wx) => subSizes_any _ _ ys r wx (HR2.out.keep (HB8.out.trans (hx.mono HB8.out.size))) ((HRM8.out.mu.rd (by omega)).keep hx) HS2.out.canon.1 HCS.out.1 HRL.out HRV.out)
        have k0 := HK8.out.c0
        have k1 := HK8.out.c1
        have k2 := HX8.out.y0
        have k3 := HX8.out.y1
        have r0 := HX8.out.r0
        have r1 := HX8.out.r1
        have i0 := HX8.out.f0
        have i1 := HX8.out.f1
        have t0 := HX8.out.s0
        have t1 := HX8.out.s1
        have j0 := HX8.out.g0
        have j1 := HX8.out.g1
        have d0 : w8.drew.cell? ⟨b9, 0, none⟩ = some (.bool m') := k0
        have d1 : w8.drew.cell? ⟨b9, 1, none⟩ = some (.slice p' k' k') := k1
        have d2 : w8.drew.cell? ⟨w.heap.size + 1, 0, none⟩ = some (.bool n2) := k2
        have d3 : w8.drew.cell? ⟨w.heap.size + 1, 1, none⟩ = some (.slice p2 ys.length c2) := k3
        have d4 : w8.drew.cell? ⟨b10, 1, none⟩ = some (.slice p10 r.length r.length) := hc10
        go_region_held3 (fun w' => w'.cell? ⟨b9, 0, none⟩ = some (.bool m') ∧ w'.cell? ⟨b9, 1, none⟩ = some (.slice p' k' k') ∧ w'.cell? ⟨w.heap.size + 1, 0, none⟩ = some (.bool n2) ∧ w'.cell? ⟨w.heap.size + 1, 1, none⟩ = some (.slice p2 ys.length c2) ∧ w'.cell? ⟨b10, 1, none⟩ = some (.slice p10 r.length r.length))
          ((repeat' apply And.intro) <;> (first | with_reducible assumption | (with_reducible exact cell_set2 (by omega) (by assumption) _ _) | (with_reducible exact cell_set4 (by omega) (by omega) (by assumption) _ _ _ _)))
          (first
           | (go_at_call 38; refine (HSUB.out _ (by first | exact Below.refl _ _ | exact (Below.refl _ _).drew)).mono ?_; rintro e wa ⟨ga, oa, rfl, hga, hLa, hola, hda, hva, hba⟩; have hqa : Below w8.heap.size w8 wa := ⟨hba.os, hba.tape, hba.output, hba.size, hba.block⟩; have HLa := Lib.hid (LR.mine hLa (B0 := w6.heap.size) (Nat.le_trans hz9 hga)); have HDa := Lib.hid hda; have HVa := Lib.hid hva; have HOa := Lib.hid hola; have HBa := Lib.hid hqa; have hxa := HX8.out.keep hqa.block hqa.size; have a0 := below_cell hqa k0; have a1 := below_cell hqa k1; have a2 := hxa.y0; have a3 := hxa.y1; have a4 := below_cell hqa hc10; clear hLa hda hva hola hga hba hqa hxa)
           | (go_at_call 41; refine (made_at2 n2 HLa.out HDa.out (by have := HOa.out; omega) _ (by first | exact Below.refl _ _ | exact (Below.refl _ _).drew)).mono ?_; rintro e wb ⟨mb, pb, kb, qb, rfl, hRb, hSb, hbb, _⟩; have HRb := Lib.hid hRb.mu; have HSb := Lib.hid hSb; have HBb := Lib.hid (HBa.out.trans (hbb.mono HBa.out.size)); have hxb := HX8.out.keep HBb.out.block HBb.out.size; have b0 := below_cell HBb.out k0; have b1 := below_cell HBb.out k1; have b2 := hxb.y0; have b3 := hxb.y1; have b4 := below_cell HBb.out hc10; have q0 := hxb.r0; have q1 := hxb.r1; have q2 := hxb.f0; have q3 := hxb.f1; have q4 := hxb.s0; have q5 := hxb.s1; have q6 := hxb.g0; have q7 := hxb.g1; clear hRb hSb hbb hxb))
        go_goals
        go_wp2_with fail
        have zz := four_set (B := w.heap.size + 1 + 1) (C := w.heap.size + 1 + 1 + 1) (by omega) (.bool m') (.slice p' k' k') (.bool mb) (.slice pb kb kb) q0 q1 q4 q5
        refine bodyPost_ret (v := .tuple #[.agg #[.bool m', .slice p' k' k'], .agg #[.bool mb, .slice pb kb kb], .int .i64 0]) (by simp [results, Tryd.results17, go_sem, zz.1, zz.2.1, zz.2.2.1, zz.2.2.2]) rfl ?_
        exact DMPost2.mk0 _ _ _ _ (HM8.out.keep HBb.out) HRb.out hz6 (by omega) (by omega) (by omega) (by omega) HS7.out HSb.out (by rw [HVa.out]; exact HE.out.1) (by rw [HVa.out]; exact HE.out.2) (HB8.out.trans (HBb.out.mono HB8.out.size)) rfl
theorem div_walk (n1 : Bool) (u1 : Value) (xs : List Int) (z1 : Int) (n2 : Bool) (u2 : Value) (ys : List Int) (z2 : Int) (w : World) (hr1 : Rd w u1 xs) (hr2 : Rd w u2 ys) (hs1 : Sgn B18 n1 xs z1) (hs2 : Sgn B18 n2 ys z2) (hl1 : xs.length ≤ 30) (hl2 : ys.length ≤ 30) (hy : 0 < ys.length)
    (hdiv : ∀ wx, Below w.heap.size w wx → Calls Tryd.prog 40 #[u1, u2] wx (DivPost wx xs ys)) :
    Calls Tryd.prog 17 #[.agg #[.bool n1, u1], .agg #[.bool n2, u2]] w (DMPost w z1 z2) :=
  (div_walk2 n1 u1 xs z1 n2 u2 ys z2 w hr1 hr2 hs1 hs2 hl1 hl2 hy hdiv).mono fun _ _ h => h.one
end Go.Proofs.YticebchmafipiaaDoor
