/- Layer 2: the law WholeSums where both numbers are in form. -/
import Derived.Test.YtapeomcnjjfihaaDoorLawNum2
namespace Go.Proofs.YtapeomcnjjfihaaDoor
open Go.ChangeShapes Go.WideShapes Go.ChangeAt Go.RowKit
set_option linter.unusedVariables false
set_option linter.unusedSimpArgs false
theorem res_len {z : Int} {neg : Bool} {ws : List Int} {er : Int} (h : (Small z ∧ er = 0 ∧ Sgn B18 neg ws z) ∨ (¬ Small z ∧ er = 7 ∧ neg = false ∧ ws = [])) : ws.length ≤ 17592186043904 := by
  rcases h with ⟨h1, _, h3⟩ | ⟨_, _, _, rfl⟩
  · have := h3.small.2 h1; omega
  · simp
set_option maxRecDepth 100000 in
set_option maxHeartbeats 4000000 in
theorem sums_good (n1 : Bool) (u1 : Value) (xs : List Int) (n2 : Bool) (u2 : Value) (ys : List Int) (w : World) (hr1 : Rd w u1 xs) (hr2 : Rd w u2 ys) (hf1 : Fit xs) (hf2 : Fit ys) (hg1 : goodB n1 xs = true) (hg2 : goodB n2 ys = true) :
    Calls Tryd.prog 5 #[.agg #[.bool n1, u1], .agg #[.bool n2, u2]] w (BoolPost w true) := by
  have HR1 := Lib.hid hr1
  have HR2 := Lib.hid hr2
  have HF := Lib.hid (fun wx (hb : Below w.heap.size w wx) => (show Calls Tryd.prog 28 #[.agg #[.bool n1, u1], .agg #[.bool n2, u2]] wx (CmpPost wx 0) by have h := form_law n1 u1 xs n2 u2 ys wx (HR1.out.keep hb) (HR2.out.keep hb) hf1 hf2; simpa [hg1, hg2] using h))
  have HS1 := Lib.hid (goodB_sgn hg1 hf1)
  have HS2 := Lib.hid (goodB_sgn hg2 hf2)
  clear hr1 hr2
  go_enter Tryd.func5, Tryd.ntmps5
  go_wp2_with fail
  generalize hw1 : World.alloc (World.alloc w _) _ = w1
  have HB1 := Lib.hid (show Below w.heap.size w w1 by rw [← hw1]; exact ((Below.refl _ _).alloc (Nat.le_refl _) _).alloc (by simp) _)
  have HX1 := Lib.hid (show Box2 w1 w.heap.size (.bool n1) u1 by rw [← hw1]; exact (Box2.new _ _ _ _ rfl).alloc _)
  have HY1 := Lib.hid (show Box2 w1 (w.heap.size + 1) (.bool n2) u2 by rw [← hw1]; exact Box2.new _ _ _ _ (by simp))
  clear hw1
  have cX1a := HX1.out.c0
  have cX1b := HX1.out.c1
  have cX1l := HX1.out.lt
  have cY1a := HY1.out.c0
  have cY1b := HY1.out.c1
  have cY1l := HY1.out.lt
  refine (known_true w1).mono ?_
  rintro e w2 ⟨rfl, hb2⟩
  have HB2 := Lib.hid (HB1.out.trans (hb2.mono HB1.out.size))
  have HX2 := Lib.hid (HX1.out.keep hb2)
  have HY2 := Lib.hid (HY1.out.keep hb2)
  clear cX1a cX1b cX1l cY1a cY1b cY1l
  clear HX1 HY1 HB1 hb2
  have cX2a := HX2.out.c0
  have cX2b := HX2.out.c1
  have cX2l := HX2.out.lt
  have cY2a := HY2.out.c0
  have cY2b := HY2.out.c1
  have cY2l := HY2.out.lt
  go_wp2_with fail
  refine (HF.out w2 HB2.out).mono ?_
  rintro e w3 ⟨rfl, hb3⟩
  have HB3 := Lib.hid (HB2.out.trans (hb3.mono HB2.out.size))
  have HX3 := Lib.hid (HX2.out.keep hb3)
  have HY3 := Lib.hid (HY2.out.keep hb3)
  clear cX2a cX2b cX2l cY2a cY2b cY2l
  clear HX2 HY2 HB2 hb3
  have cX3a := HX3.out.c0
  have cX3b := HX3.out.c1
  have cX3l := HX3.out.lt
  have cY3a := HY3.out.c0
  have cY3b := HY3.out.c1
  have cY3l := HY3.out.lt
  go_wp2_with fail
  refine (add_good n1 u1 xs _ n2 u2 ys _ w3 (HR1.out.keep HB3.out) (HR2.out.keep HB3.out) HS1.out.1 HS2.out.1 HS1.out.2 HS2.out.2).mono ?_
  rintro e w4 ⟨na, ua, la, ea, rfl, hMa, hb4, hCa⟩
  obtain ⟨pa, ca, rfl⟩ := MU.form hMa
  have HCa := Lib.hid (show ResCase _ na la ea from hCa)
  have RWa4 := Lib.hid (show Rd w4 (.slice pa la.length ca) la from hMa.rd (res_len hCa))
  clear hMa hCa
  have HB4 := Lib.hid (HB3.out.trans (hb4.mono HB3.out.size))
  have HX4 := Lib.hid (HX3.out.keep hb4)
  have HY4 := Lib.hid (HY3.out.keep hb4)
  clear cX3a cX3b cX3l cY3a cY3b cY3l
  clear HX3 HY3 HB3 hb4
  have cX4a := HX4.out.c0
  have cX4b := HX4.out.c1
  have cX4l := HX4.out.lt
  have cY4a := HY4.out.c0
  have cY4b := HY4.out.c1
  have cY4l := HY4.out.lt
  go_wp2_with fail
  generalize hw5 : World.alloc w4 _ = w5
  have hb5 : Below w4.heap.size w4 w5 := by rw [← hw5]; exact (Below.refl _ _).alloc (Nat.le_refl _) _
  have HS5 := Lib.hid (show Box2 w5 w4.heap.size (.bool na) (.slice pa la.length ca) by rw [← hw5]; exact Box2.new _ _ _ _ rfl)
  have HB5 := Lib.hid (HB4.out.trans (hb5.mono HB4.out.size))
  have HX5 := Lib.hid (HX4.out.keep hb5)
  have HY5 := Lib.hid (HY4.out.keep hb5)
  have RWa5 := Lib.hid (RWa4.out.keep hb5)
  clear RWa4
  clear cX4a cX4b cX4l cY4a cY4b cY4l
  clear HX4 HY4 HB4 hb5 hw5
  have cX5a := HX5.out.c0
  have cX5b := HX5.out.c1
  have cX5l := HX5.out.lt
  have cY5a := HY5.out.c0
  have cY5b := HY5.out.c1
  have cY5l := HY5.out.lt
  have cS5a := HS5.out.c0
  have cS5b := HS5.out.c1
  have cS5l := HS5.out.lt
  refine (sub_good n1 u1 xs _ n2 u2 ys _ w5 (HR1.out.keep HB5.out) (HR2.out.keep HB5.out) HS1.out.1 HS2.out.1 HS1.out.2 HS2.out.2).mono ?_
  rintro e w6 ⟨nd, ud, ld, ed, rfl, hMd, hb6, hCd⟩
  obtain ⟨pd, cd, rfl⟩ := MU.form hMd
  have HCd := Lib.hid (show ResCase _ nd ld ed from hCd)
  have RWd6 := Lib.hid (show Rd w6 (.slice pd ld.length cd) ld from hMd.rd (res_len hCd))
  clear hMd hCd
  have HB6 := Lib.hid (HB5.out.trans (hb6.mono HB5.out.size))
  have HX6 := Lib.hid (HX5.out.keep hb6)
  have HY6 := Lib.hid (HY5.out.keep hb6)
  have HS6 := Lib.hid (HS5.out.keep hb6)
  have RWa6 := Lib.hid (RWa5.out.keep hb6)
  clear RWa5
  clear cX5a cX5b cX5l cY5a cY5b cY5l cS5a cS5b cS5l
  clear HX5 HY5 HS5 HB5 hb6
  have cX6a := HX6.out.c0
  have cX6b := HX6.out.c1
  have cX6l := HX6.out.lt
  have cY6a := HY6.out.c0
  have cY6b := HY6.out.c1
  have cY6l := HY6.out.lt
  have cS6a := HS6.out.c0
  have cS6b := HS6.out.c1
  have cS6l := HS6.out.lt
  go_wp2_with fail
  generalize hw7 : World.alloc w6 _ = w7
  have hb7 : Below w6.heap.size w6 w7 := by rw [← hw7]; exact (Below.refl _ _).alloc (Nat.le_refl _) _
  have HD7 := Lib.hid (show Box2 w7 w6.heap.size (.bool nd) (.slice pd ld.length cd) by rw [← hw7]; exact Box2.new _ _ _ _ rfl)
  have HB7 := Lib.hid (HB6.out.trans (hb7.mono HB6.out.size))
  have HX7 := Lib.hid (HX6.out.keep hb7)
  have HY7 := Lib.hid (HY6.out.keep hb7)
  have HS7 := Lib.hid (HS6.out.keep hb7)
  have RWa7 := Lib.hid (RWa6.out.keep hb7)
  have RWd7 := Lib.hid (RWd6.out.keep hb7)
  clear RWa6 RWd6
  clear cX6a cX6b cX6l cY6a cY6b cY6l cS6a cS6b cS6l
  clear HX6 HY6 HS6 HB6 hb7 hw7
  have cX7a := HX7.out.c0
  have cX7b := HX7.out.c1
  have cX7l := HX7.out.lt
  have cY7a := HY7.out.c0
  have cY7b := HY7.out.c1
  have cY7l := HY7.out.lt
  have cS7a := HS7.out.c0
  have cS7b := HS7.out.c1
  have cS7l := HS7.out.lt
  have cD7a := HD7.out.c0
  have cD7b := HD7.out.c1
  have cD7l := HD7.out.lt
  have HOF1 := Lib.hid (fun (wx : World) (hx : Below w7.heap.size w7 wx) => of_at (HR1.out.keep HB7.out) HS1.out.1 (Nat.le_trans HS1.out.2 (by omega)) wx hx)
  have HOF2 := Lib.hid (fun (wx : World) (hx : Below w7.heap.size w7 wx) => of_at (HR2.out.keep HB7.out) HS2.out.1 (Nat.le_trans HS2.out.2 (by omega)) wx hx)
  clear cS7a cS7b cS7l cD7a cD7b cD7l HF hf1 hf2 hg1 hg2
  go_cut [10, 11] (fun a b wx => ∃ b1 b2 m1 p1 c1 d1 m2 p2 c2 d2, a = .pointer (some ⟨b1, 0, none⟩) ∧ b = .pointer (some ⟨b2, 0, none⟩) ∧ NN w7 wx b1 b2 m1 p1 c1 d1 m2 p2 c2 d2 (sg n1 (val B18 xs)) (sg n2 (val B18 ys)))
  case first =>
    go_region_held3 (fun w' => w'.cell? ⟨w.heap.size, 0, none⟩ = some (.bool n1) ∧ w'.cell? ⟨w.heap.size, 1, none⟩ = some u1 ∧ w'.cell? ⟨w.heap.size + 1, 0, none⟩ = some (.bool n2) ∧ w'.cell? ⟨w.heap.size + 1, 1, none⟩ = some u2)
      ((repeat' apply And.intro) <;> (repeat' (first | with_reducible assumption | with_reducible refine alloc_cell ?_ _ | (with_reducible refine cell_set2 ?_ ?_ _ _; · omega) | with_reducible refine drew_cell ?_)))
      (first
       | (go_at_call 22; (with_reducible refine (HOF1.out _ (by ((repeat' (first | with_reducible assumption | with_reducible exact Below.refl _ _ | with_reducible refine Below.drew ?_ | with_reducible refine Below.alloc ?_ (by first | omega | (simp; omega) | (simp; done) | fail) _ | with_reducible refine Below.setCell ?_ (by first | omega | (simp; omega) | (simp; done) | fail) _ | fail)); (first | done | fail)))).mono ?_); rintro e w8 ⟨m1, p1, c1, d1, rfl, hRb1, hSb1, hb8, hx8⟩; have k80 := below_cell hb8 cX7a; have k81 := below_cell hb8 cX7b; have k82 := below_cell hb8 cY7a; have k83 := below_cell hb8 cY7b; have z8 := hb8.size; (try (have hBox := Box2.keep (B := w7.heap.size) (a := (.bool false)) (b := (.slice none 0 0)) (by ((repeat' (first | with_reducible assumption | (with_reducible exact Hid.out ‹_›) | (with_reducible refine Box2.put0 _ _ ?_) | (with_reducible refine Box2.new _ _ _ _ ?_; (first | with_reducible rfl | (simp; done) | rfl)) | (with_reducible refine Box2.alloc ?_ _) | (with_reducible refine Box2.drew ?_) | (with_reducible refine Box2.set2 ?hn _ _ ?_; case hn => omega) | fail)); (first | done | fail))) hx8; obtain ⟨_, _, _, _, _, _, _, _⟩ := hBox.all)); (try (have hBox := Box2.keep (B := (w7.heap.size + 1)) (a := (.bool false)) (b := (.slice none 0 0)) (by ((repeat' (first | with_reducible assumption | (with_reducible exact Hid.out ‹_›) | (with_reducible refine Box2.put0 _ _ ?_) | (with_reducible refine Box2.new _ _ _ _ ?_; (first | with_reducible rfl | (simp; done) | rfl)) | (with_reducible refine Box2.alloc ?_ _) | (with_reducible refine Box2.drew ?_) | (with_reducible refine Box2.set2 ?hn _ _ ?_; case hn => omega) | fail)); (first | done | fail))) hx8; obtain ⟨_, _, _, _, _, _, _, _⟩ := hBox.all)); have RB1 := Lib.hid hRb1; have HSb1 := Lib.hid hSb1; clear hx8 hRb1 hSb1)
       | (go_at_call 22; (with_reducible refine (HOF2.out _ (by ((repeat' (first | with_reducible assumption | with_reducible exact Below.refl _ _ | with_reducible refine Below.drew ?_ | with_reducible refine Below.alloc ?_ (by first | omega | (simp; omega) | (simp; done) | fail) _ | with_reducible refine Below.setCell ?_ (by first | omega | (simp; omega) | (simp; done) | fail) _ | fail)); (first | done | fail)))).mono ?_); rintro e w9 ⟨m2, p2, c2, d2, rfl, hRb2, hSb2, hb9, hx9⟩; have k90 := below_cell hb9 cX7a; have k91 := below_cell hb9 cX7b; have k92 := below_cell hb9 cY7a; have k93 := below_cell hb9 cY7b; have z9 := hb9.size; (try (have hBox := Box2.keep (B := w7.heap.size) (a := (.bool false)) (b := (.slice none 0 0)) (by ((repeat' (first | with_reducible assumption | (with_reducible exact Hid.out ‹_›) | (with_reducible refine Box2.put0 _ _ ?_) | (with_reducible refine Box2.new _ _ _ _ ?_; (first | with_reducible rfl | (simp; done) | rfl)) | (with_reducible refine Box2.alloc ?_ _) | (with_reducible refine Box2.drew ?_) | (with_reducible refine Box2.set2 ?hn _ _ ?_; case hn => omega) | fail)); (first | done | fail))) hx9; obtain ⟨_, _, _, _, _, _, _, _⟩ := hBox.all)); (try (have hBox := Box2.keep (B := (w7.heap.size + 1)) (a := (.bool false)) (b := (.slice none 0 0)) (by ((repeat' (first | with_reducible assumption | (with_reducible exact Hid.out ‹_›) | (with_reducible refine Box2.put0 _ _ ?_) | (with_reducible refine Box2.new _ _ _ _ ?_; (first | with_reducible rfl | (simp; done) | rfl)) | (with_reducible refine Box2.alloc ?_ _) | (with_reducible refine Box2.drew ?_) | (with_reducible refine Box2.set2 ?hn _ _ ?_; case hn => omega) | fail)); (first | done | fail))) hx9; obtain ⟨_, _, _, _, _, _, _, _⟩ := hBox.all)); (try (have hBox := Box2.keep (B := w8.heap.size) (a := (.bool false)) (b := (.slice none 0 0)) (by ((repeat' (first | with_reducible assumption | (with_reducible exact Hid.out ‹_›) | (with_reducible refine Box2.put0 _ _ ?_) | (with_reducible refine Box2.new _ _ _ _ ?_; (first | with_reducible rfl | (simp; done) | rfl)) | (with_reducible refine Box2.alloc ?_ _) | (with_reducible refine Box2.drew ?_) | (with_reducible refine Box2.set2 ?hn _ _ ?_; case hn => omega) | fail)); (first | done | fail))) hx9; obtain ⟨_, _, _, _, _, _, _, _⟩ := hBox.all)); (try (have hBox := Box2.keep (B := (w8.heap.size + 1)) (a := (.bool false)) (b := (.slice none 0 0)) (by ((repeat' (first | with_reducible assumption | (with_reducible exact Hid.out ‹_›) | (with_reducible refine Box2.put0 _ _ ?_) | (with_reducible refine Box2.new _ _ _ _ ?_; (first | with_reducible rfl | (simp; done) | rfl)) | (with_reducible refine Box2.alloc ?_ _) | (with_reducible refine Box2.drew ?_) | (with_reducible refine Box2.set2 ?hn _ _ ?_; case hn => omega) | fail)); (first | done | fail))) hx9; obtain ⟨_, _, _, _, _, _, _, _⟩ := hBox.all)); have RB2 := Lib.hid hRb2; have HSb2 := Lib.hid hSb2; have RB1b := Lib.hid (Rb.keep (show Rb _ (.slice p1 d1.length c1) d1 by ((repeat' (first | with_reducible exact RB1.out | with_reducible refine Rb.alloc ?_ _ | with_reducible refine Rb.drew ?_ | (with_reducible refine Rb.put2 ?hb _ _ ?_; case hb => ((repeat' (first | with_reducible assumption | (with_reducible exact Hid.out ‹_›) | (with_reducible refine Box2.put0 _ _ ?_) | (with_reducible refine Box2.new _ _ _ _ ?_; (first | with_reducible rfl | (simp; done) | rfl)) | (with_reducible refine Box2.alloc ?_ _) | (with_reducible refine Box2.drew ?_) | (with_reducible refine Box2.set2 ?hn _ _ ?_; case hn => omega) | fail)); (first | done | fail))) | fail)); (first | done | fail))) hx9); clear hx9 hRb2 hSb2))
    all_goals (go_wp2_with fail)
    all_goals go_meet
    all_goals exact ⟨_, _, m1, p1, c1, d1, m2, p2, c2, d2, rfl, rfl, ⟨by ((repeat' (first | with_reducible assumption | with_reducible exact Below.refl _ _ | with_reducible refine Below.drew ?_ | with_reducible refine Below.alloc ?_ (by first | omega | (simp; omega) | (simp; done) | fail) _ | with_reducible refine Below.setCell ?_ (by first | omega | (simp; omega) | (simp; done) | fail) _ | fail)); (first | done | fail)), by ((repeat' (first | with_reducible assumption | (with_reducible exact Hid.out ‹_›) | (with_reducible refine Box2.put0 _ _ ?_) | (with_reducible refine Box2.new _ _ _ _ ?_; (first | with_reducible rfl | (simp; done) | rfl)) | (with_reducible refine Box2.alloc ?_ _) | (with_reducible refine Box2.drew ?_) | (with_reducible refine Box2.set2 ?hn _ _ ?_; case hn => omega) | fail)); (first | done | fail)), by ((repeat' (first | with_reducible assumption | (with_reducible exact Hid.out ‹_›) | (with_reducible refine Box2.put0 _ _ ?_) | (with_reducible refine Box2.new _ _ _ _ ?_; (first | with_reducible rfl | (simp; done) | rfl)) | (with_reducible refine Box2.alloc ?_ _) | (with_reducible refine Box2.drew ?_) | (with_reducible refine Box2.set2 ?hn _ _ ?_; case hn => omega) | fail)); (first | done | fail)), by ((repeat' (first | with_reducible exact RB1b.out | with_reducible refine Rb.alloc ?_ _ | with_reducible refine Rb.drew ?_ | (with_reducible refine Rb.put2 ?hb _ _ ?_; case hb => ((repeat' (first | with_reducible assumption | (with_reducible exact Hid.out ‹_›) | (with_reducible refine Box2.put0 _ _ ?_) | (with_reducible refine Box2.new _ _ _ _ ?_; (first | with_reducible rfl | (simp; done) | rfl)) | (with_reducible refine Box2.alloc ?_ _) | (with_reducible refine Box2.drew ?_) | (with_reducible refine Box2.set2 ?hn _ _ ?_; case hn => omega) | fail)); (first | done | fail))) | fail)); (first | done | fail)), by ((repeat' (first | with_reducible exact RB2.out | with_reducible refine Rb.alloc ?_ _ | with_reducible refine Rb.drew ?_ | (with_reducible refine Rb.put2 ?hb _ _ ?_; case hb => ((repeat' (first | with_reducible assumption | (with_reducible exact Hid.out ‹_›) | (with_reducible refine Box2.put0 _ _ ?_) | (with_reducible refine Box2.new _ _ _ _ ?_; (first | with_reducible rfl | (simp; done) | rfl)) | (with_reducible refine Box2.alloc ?_ _) | (with_reducible refine Box2.drew ?_) | (with_reducible refine Box2.set2 ?hn _ _ ?_; case hn => omega) | fail)); (first | done | fail))) | fail)); (first | done | fail)), HSb1.out, HSb2.out, (by first | omega | (simp; omega)), (by first | omega | (simp; omega)), (by first | omega | (simp; omega))⟩⟩
  case rest =>
    obtain ⟨b1, b2, m1, p1, c1, d1, m2, p2, c2, d2, rfl, rfl, hN⟩ := hcut
    have HN := Lib.hid hN
    obtain ⟨w8, rfl⟩ : ∃ w8 : World, w8 = wc := ⟨_, rfl⟩
    have a0 := hN.x1.c0
    have a1 := hN.x1.c1
    have a2 := hN.x2.c0
    have a3 := hN.x2.c1
    have lb1 := hN.x1.lt
    have lb2 := hN.x2.lt
    clear hN cX7a cX7b cX7l cY7a cY7b cY7l HOF1 HOF2
    have HSM1 := Lib.hid (sgn_small HS1.out.1 HS1.out.2)
    have HSM2 := Lib.hid (sgn_small HS2.out.1 HS2.out.2)
    have HL1 := Lib.hid (HSM1.out.len HN.out.s1)
    have HL2 := Lib.hid (HSM2.out.len HN.out.s2)
    have HP1 := Lib.hid (fun (wx : World) (hx : Below w8.heap.size w8 wx) => plus_at (HN.out.r1.keep hx) (HN.out.r2.keep hx) HN.out.s1 HN.out.s2 (by have := HL1.out; omega) (by have := HL2.out; omega) hx)
    have HTU := Lib.hid (fun (wx : World) (hx : Below w8.heap.size w8 wx) => turn_at (HN.out.r2.keep hx) HN.out.s2 hx)
    go_wp2_with fail
    go_cut [12, 13] (fun a b wx => ∃ b3 b4 m3 p3 c3 d3 m4 p4 c4 d4, a = .pointer (some ⟨b3, 0, none⟩) ∧ b = .pointer (some ⟨b4, 0, none⟩) ∧ NN w8 wx b3 b4 m3 p3 c3 d3 m4 p4 c4 d4 ((sg n1 (val B18 xs)) + (sg n2 (val B18 ys))) ((sg n1 (val B18 xs)) + -(sg n2 (val B18 ys))))
    case first =>
      go_region_held3 (fun w' => w'.cell? ⟨b1, 0, none⟩ = some (.bool m1) ∧ w'.cell? ⟨b1, 1, none⟩ = some (.slice p1 d1.length c1) ∧ w'.cell? ⟨b2, 0, none⟩ = some (.bool m2) ∧ w'.cell? ⟨b2, 1, none⟩ = some (.slice p2 d2.length c2))
        ((repeat' apply And.intro) <;> (repeat' (first | with_reducible assumption | with_reducible refine alloc_cell ?_ _ | (with_reducible refine cell_set2 ?_ ?_ _ _; · omega) | with_reducible refine drew_cell ?_)))
        (first
         | (go_at_call 34; (with_reducible refine (HP1.out _ (by ((repeat' (first | with_reducible assumption | with_reducible exact Below.refl _ _ | with_reducible refine Below.drew ?_ | with_reducible refine Below.alloc ?_ (by first | omega | (simp; omega) | (simp; done) | fail) _ | with_reducible refine Below.setCell ?_ (by first | omega | (simp; omega) | (simp; done) | fail) _ | fail)); (first | done | fail)))).mono ?_); rintro e w9 ⟨m3, p3, c3, d3, rfl, hRb3, hSb3, hb9, hx9⟩; have k90 := below_cell hb9 a0; have k91 := below_cell hb9 a1; have k92 := below_cell hb9 a2; have k93 := below_cell hb9 a3; have z9 := hb9.size; (try (have hBox := Box2.keep (B := w8.heap.size) (a := (.bool false)) (b := (.slice none 0 0)) (by ((repeat' (first | with_reducible assumption | (with_reducible exact Hid.out ‹_›) | (with_reducible refine Box2.put0 _ _ ?_) | (with_reducible refine Box2.new _ _ _ _ ?_; (first | with_reducible rfl | (simp; done) | rfl)) | (with_reducible refine Box2.alloc ?_ _) | (with_reducible refine Box2.drew ?_) | (with_reducible refine Box2.set2 ?hn _ _ ?_; case hn => omega) | fail)); (first | done | fail))) hx9; obtain ⟨_, _, _, _, _, _, _, _⟩ := hBox.all)); (try (have hBox := Box2.keep (B := (w8.heap.size + 1)) (a := (.bool false)) (b := (.slice none 0 0)) (by ((repeat' (first | with_reducible assumption | (with_reducible exact Hid.out ‹_›) | (with_reducible refine Box2.put0 _ _ ?_) | (with_reducible refine Box2.new _ _ _ _ ?_; (first | with_reducible rfl | (simp; done) | rfl)) | (with_reducible refine Box2.alloc ?_ _) | (with_reducible refine Box2.drew ?_) | (with_reducible refine Box2.set2 ?hn _ _ ?_; case hn => omega) | fail)); (first | done | fail))) hx9; obtain ⟨_, _, _, _, _, _, _, _⟩ := hBox.all)); have RB3 := Lib.hid hRb3; have HSb3 := Lib.hid hSb3; clear hx9 hRb3 hSb3)
         | (go_at_call 35; (with_reducible refine (HTU.out _ (by ((repeat' (first | with_reducible assumption | with_reducible exact Below.refl _ _ | with_reducible refine Below.drew ?_ | with_reducible refine Below.alloc ?_ (by first | omega | (simp; omega) | (simp; done) | fail) _ | with_reducible refine Below.setCell ?_ (by first | omega | (simp; omega) | (simp; done) | fail) _ | fail)); (first | done | fail)))).mono ?_); rintro e w10 ⟨mt, pt, ct, dt, rfl, hRbt, hSbt, hb10, hx10⟩; have k100 := below_cell hb10 a0; have k101 := below_cell hb10 a1; have k102 := below_cell hb10 a2; have k103 := below_cell hb10 a3; have z10 := hb10.size; (try (have hBox := Box2.keep (B := w8.heap.size) (a := (.bool false)) (b := (.slice none 0 0)) (by ((repeat' (first | with_reducible assumption | (with_reducible exact Hid.out ‹_›) | (with_reducible refine Box2.put0 _ _ ?_) | (with_reducible refine Box2.new _ _ _ _ ?_; (first | with_reducible rfl | (simp; done) | rfl)) | (with_reducible refine Box2.alloc ?_ _) | (with_reducible refine Box2.drew ?_) | (with_reducible refine Box2.set2 ?hn _ _ ?_; case hn => omega) | fail)); (first | done | fail))) hx10; obtain ⟨_, _, _, _, _, _, _, _⟩ := hBox.all)); (try (have hBox := Box2.keep (B := (w8.heap.size + 1)) (a := (.bool false)) (b := (.slice none 0 0)) (by ((repeat' (first | with_reducible assumption | (with_reducible exact Hid.out ‹_›) | (with_reducible refine Box2.put0 _ _ ?_) | (with_reducible refine Box2.new _ _ _ _ ?_; (first | with_reducible rfl | (simp; done) | rfl)) | (with_reducible refine Box2.alloc ?_ _) | (with_reducible refine Box2.drew ?_) | (with_reducible refine Box2.set2 ?hn _ _ ?_; case hn => omega) | fail)); (first | done | fail))) hx10; obtain ⟨_, _, _, _, _, _, _, _⟩ := hBox.all)); (try (have hBox := Box2.keep (B := w9.heap.size) (a := (.bool false)) (b := (.slice none 0 0)) (by ((repeat' (first | with_reducible assumption | (with_reducible exact Hid.out ‹_›) | (with_reducible refine Box2.put0 _ _ ?_) | (with_reducible refine Box2.new _ _ _ _ ?_; (first | with_reducible rfl | (simp; done) | rfl)) | (with_reducible refine Box2.alloc ?_ _) | (with_reducible refine Box2.drew ?_) | (with_reducible refine Box2.set2 ?hn _ _ ?_; case hn => omega) | fail)); (first | done | fail))) hx10; obtain ⟨_, _, _, _, _, _, _, _⟩ := hBox.all)); (try (have hBox := Box2.keep (B := (w9.heap.size + 1)) (a := (.bool false)) (b := (.slice none 0 0)) (by ((repeat' (first | with_reducible assumption | (with_reducible exact Hid.out ‹_›) | (with_reducible refine Box2.put0 _ _ ?_) | (with_reducible refine Box2.new _ _ _ _ ?_; (first | with_reducible rfl | (simp; done) | rfl)) | (with_reducible refine Box2.alloc ?_ _) | (with_reducible refine Box2.drew ?_) | (with_reducible refine Box2.set2 ?hn _ _ ?_; case hn => omega) | fail)); (first | done | fail))) hx10; obtain ⟨_, _, _, _, _, _, _, _⟩ := hBox.all)); have RBT := Lib.hid hRbt; have HSbt := Lib.hid hSbt; have HLt := Lib.hid (HSM2.out.neg.len hSbt); have RB3b := Lib.hid (Rb.keep (show Rb _ (.slice p3 d3.length c3) d3 by ((repeat' (first | with_reducible exact RB3.out | with_reducible refine Rb.alloc ?_ _ | with_reducible refine Rb.drew ?_ | (with_reducible refine Rb.put2 ?hb _ _ ?_; case hb => ((repeat' (first | with_reducible assumption | (with_reducible exact Hid.out ‹_›) | (with_reducible refine Box2.put0 _ _ ?_) | (with_reducible refine Box2.new _ _ _ _ ?_; (first | with_reducible rfl | (simp; done) | rfl)) | (with_reducible refine Box2.alloc ?_ _) | (with_reducible refine Box2.drew ?_) | (with_reducible refine Box2.set2 ?hn _ _ ?_; case hn => omega) | fail)); (first | done | fail))) | fail)); (first | done | fail))) hx10); clear hx10 hRbt hSbt)
         | (go_at_call 34; (with_reducible refine (plus_at (W := w8) (z1 := (sg n1 (val B18 xs))) (z2 := -(sg n2 (val B18 ys))) (HN.out.r1.keep (by ((repeat' (first | with_reducible assumption | with_reducible exact Below.refl _ _ | with_reducible refine Below.drew ?_ | with_reducible refine Below.alloc ?_ (by first | omega | (simp; omega) | (simp; done) | fail) _ | with_reducible refine Below.setCell ?_ (by first | omega | (simp; omega) | (simp; done) | fail) _ | fail)); (first | done | fail)))) (show Rb _ (.slice pt dt.length ct) dt by ((repeat' (first | with_reducible exact RBT.out | with_reducible refine Rb.alloc ?_ _ | with_reducible refine Rb.drew ?_ | (with_reducible refine Rb.put2 ?hb _ _ ?_; case hb => ((repeat' (first | with_reducible assumption | (with_reducible exact Hid.out ‹_›) | (with_reducible refine Box2.put0 _ _ ?_) | (with_reducible refine Box2.new _ _ _ _ ?_; (first | with_reducible rfl | (simp; done) | rfl)) | (with_reducible refine Box2.alloc ?_ _) | (with_reducible refine Box2.drew ?_) | (with_reducible refine Box2.set2 ?hn _ _ ?_; case hn => omega) | fail)); (first | done | fail))) | fail)); (first | done | fail))) HN.out.s1 HSbt.out (by have := HL1.out; omega) (by have := HLt.out; omega) (by ((repeat' (first | with_reducible assumption | with_reducible exact Below.refl _ _ | with_reducible refine Below.drew ?_ | with_reducible refine Below.alloc ?_ (by first | omega | (simp; omega) | (simp; done) | fail) _ | with_reducible refine Below.setCell ?_ (by first | omega | (simp; omega) | (simp; done) | fail) _ | fail)); (first | done | fail)))).mono ?_); rintro e w11 ⟨m4, p4, c4, d4, rfl, hRb4, hSb4, hb11, hx11⟩; have k110 := below_cell hb11 a0; have k111 := below_cell hb11 a1; have k112 := below_cell hb11 a2; have k113 := below_cell hb11 a3; have z11 := hb11.size; (try (have hBox := Box2.keep (B := w8.heap.size) (a := (.bool false)) (b := (.slice none 0 0)) (by ((repeat' (first | with_reducible assumption | (with_reducible exact Hid.out ‹_›) | (with_reducible refine Box2.put0 _ _ ?_) | (with_reducible refine Box2.new _ _ _ _ ?_; (first | with_reducible rfl | (simp; done) | rfl)) | (with_reducible refine Box2.alloc ?_ _) | (with_reducible refine Box2.drew ?_) | (with_reducible refine Box2.set2 ?hn _ _ ?_; case hn => omega) | fail)); (first | done | fail))) hx11; obtain ⟨_, _, _, _, _, _, _, _⟩ := hBox.all)); (try (have hBox := Box2.keep (B := (w8.heap.size + 1)) (a := (.bool false)) (b := (.slice none 0 0)) (by ((repeat' (first | with_reducible assumption | (with_reducible exact Hid.out ‹_›) | (with_reducible refine Box2.put0 _ _ ?_) | (with_reducible refine Box2.new _ _ _ _ ?_; (first | with_reducible rfl | (simp; done) | rfl)) | (with_reducible refine Box2.alloc ?_ _) | (with_reducible refine Box2.drew ?_) | (with_reducible refine Box2.set2 ?hn _ _ ?_; case hn => omega) | fail)); (first | done | fail))) hx11; obtain ⟨_, _, _, _, _, _, _, _⟩ := hBox.all)); (try (have hBox := Box2.keep (B := w9.heap.size) (a := (.bool false)) (b := (.slice none 0 0)) (by ((repeat' (first | with_reducible assumption | (with_reducible exact Hid.out ‹_›) | (with_reducible refine Box2.put0 _ _ ?_) | (with_reducible refine Box2.new _ _ _ _ ?_; (first | with_reducible rfl | (simp; done) | rfl)) | (with_reducible refine Box2.alloc ?_ _) | (with_reducible refine Box2.drew ?_) | (with_reducible refine Box2.set2 ?hn _ _ ?_; case hn => omega) | fail)); (first | done | fail))) hx11; obtain ⟨_, _, _, _, _, _, _, _⟩ := hBox.all)); (try (have hBox := Box2.keep (B := (w9.heap.size + 1)) (a := (.bool false)) (b := (.slice none 0 0)) (by ((repeat' (first | with_reducible assumption | (with_reducible exact Hid.out ‹_›) | (with_reducible refine Box2.put0 _ _ ?_) | (with_reducible refine Box2.new _ _ _ _ ?_; (first | with_reducible rfl | (simp; done) | rfl)) | (with_reducible refine Box2.alloc ?_ _) | (with_reducible refine Box2.drew ?_) | (with_reducible refine Box2.set2 ?hn _ _ ?_; case hn => omega) | fail)); (first | done | fail))) hx11; obtain ⟨_, _, _, _, _, _, _, _⟩ := hBox.all)); (try (have hBox := Box2.keep (B := w10.heap.size) (a := (.bool false)) (b := (.slice none 0 0)) (by ((repeat' (first | with_reducible assumption | (with_reducible exact Hid.out ‹_›) | (with_reducible refine Box2.put0 _ _ ?_) | (with_reducible refine Box2.new _ _ _ _ ?_; (first | with_reducible rfl | (simp; done) | rfl)) | (with_reducible refine Box2.alloc ?_ _) | (with_reducible refine Box2.drew ?_) | (with_reducible refine Box2.set2 ?hn _ _ ?_; case hn => omega) | fail)); (first | done | fail))) hx11; obtain ⟨_, _, _, _, _, _, _, _⟩ := hBox.all)); (try (have hBox := Box2.keep (B := (w10.heap.size + 1)) (a := (.bool false)) (b := (.slice none 0 0)) (by ((repeat' (first | with_reducible assumption | (with_reducible exact Hid.out ‹_›) | (with_reducible refine Box2.put0 _ _ ?_) | (with_reducible refine Box2.new _ _ _ _ ?_; (first | with_reducible rfl | (simp; done) | rfl)) | (with_reducible refine Box2.alloc ?_ _) | (with_reducible refine Box2.drew ?_) | (with_reducible refine Box2.set2 ?hn _ _ ?_; case hn => omega) | fail)); (first | done | fail))) hx11; obtain ⟨_, _, _, _, _, _, _, _⟩ := hBox.all)); have RB4 := Lib.hid hRb4; have HSb4 := Lib.hid hSb4; have RB3c := Lib.hid (Rb.keep (show Rb _ (.slice p3 d3.length c3) d3 by ((repeat' (first | with_reducible exact RB3b.out | with_reducible refine Rb.alloc ?_ _ | with_reducible refine Rb.drew ?_ | (with_reducible refine Rb.put2 ?hb _ _ ?_; case hb => ((repeat' (first | with_reducible assumption | (with_reducible exact Hid.out ‹_›) | (with_reducible refine Box2.put0 _ _ ?_) | (with_reducible refine Box2.new _ _ _ _ ?_; (first | with_reducible rfl | (simp; done) | rfl)) | (with_reducible refine Box2.alloc ?_ _) | (with_reducible refine Box2.drew ?_) | (with_reducible refine Box2.set2 ?hn _ _ ?_; case hn => omega) | fail)); (first | done | fail))) | fail)); (first | done | fail))) hx11); clear hx11 hRb4 hSb4))
      all_goals (go_wp2_with fail)
      all_goals go_meet
      all_goals exact ⟨_, _, m3, p3, c3, d3, m4, p4, c4, d4, rfl, rfl, ⟨by ((repeat' (first | with_reducible assumption | with_reducible exact Below.refl _ _ | with_reducible refine Below.drew ?_ | with_reducible refine Below.alloc ?_ (by first | omega | (simp; omega) | (simp; done) | fail) _ | with_reducible refine Below.setCell ?_ (by first | omega | (simp; omega) | (simp; done) | fail) _ | fail)); (first | done | fail)), by ((repeat' (first | with_reducible assumption | (with_reducible exact Hid.out ‹_›) | (with_reducible refine Box2.put0 _ _ ?_) | (with_reducible refine Box2.new _ _ _ _ ?_; (first | with_reducible rfl | (simp; done) | rfl)) | (with_reducible refine Box2.alloc ?_ _) | (with_reducible refine Box2.drew ?_) | (with_reducible refine Box2.set2 ?hn _ _ ?_; case hn => omega) | fail)); (first | done | fail)), by ((repeat' (first | with_reducible assumption | (with_reducible exact Hid.out ‹_›) | (with_reducible refine Box2.put0 _ _ ?_) | (with_reducible refine Box2.new _ _ _ _ ?_; (first | with_reducible rfl | (simp; done) | rfl)) | (with_reducible refine Box2.alloc ?_ _) | (with_reducible refine Box2.drew ?_) | (with_reducible refine Box2.set2 ?hn _ _ ?_; case hn => omega) | fail)); (first | done | fail)), by ((repeat' (first | with_reducible exact RB3c.out | with_reducible refine Rb.alloc ?_ _ | with_reducible refine Rb.drew ?_ | (with_reducible refine Rb.put2 ?hb _ _ ?_; case hb => ((repeat' (first | with_reducible assumption | (with_reducible exact Hid.out ‹_›) | (with_reducible refine Box2.put0 _ _ ?_) | (with_reducible refine Box2.new _ _ _ _ ?_; (first | with_reducible rfl | (simp; done) | rfl)) | (with_reducible refine Box2.alloc ?_ _) | (with_reducible refine Box2.drew ?_) | (with_reducible refine Box2.set2 ?hn _ _ ?_; case hn => omega) | fail)); (first | done | fail))) | fail)); (first | done | fail)), by ((repeat' (first | with_reducible exact RB4.out | with_reducible refine Rb.alloc ?_ _ | with_reducible refine Rb.drew ?_ | (with_reducible refine Rb.put2 ?hb _ _ ?_; case hb => ((repeat' (first | with_reducible assumption | (with_reducible exact Hid.out ‹_›) | (with_reducible refine Box2.put0 _ _ ?_) | (with_reducible refine Box2.new _ _ _ _ ?_; (first | with_reducible rfl | (simp; done) | rfl)) | (with_reducible refine Box2.alloc ?_ _) | (with_reducible refine Box2.drew ?_) | (with_reducible refine Box2.set2 ?hn _ _ ?_; case hn => omega) | fail)); (first | done | fail))) | fail)); (first | done | fail)), HSb3.out, HSb4.out, (by first | omega | (simp; omega)), (by first | omega | (simp; omega)), (by first | omega | (simp; omega))⟩⟩
    case rest =>
      obtain ⟨b3, b4, m3, p3, c3, d3, m4, p4, c4, d4, rfl, rfl, hM⟩ := hcut
      have HM := Lib.hid hM
      obtain ⟨w9, rfl⟩ : ∃ w9 : World, w9 = wc := ⟨_, rfl⟩
      clear hM a0 a1 a2 a3 lb1 lb2 HP1 HTU
      have HB79 := Lib.hid (HN.out.below.trans (HM.out.below.mono HN.out.below.size))
      have HB9 := Lib.hid (HB7.out.trans (HB79.out.mono HB7.out.size))
      have R1 := Lib.hid (HR1.out.keep HB9.out)
      have R2 := Lib.hid (HR2.out.keep HB9.out)
      have RS := Lib.hid (RWa7.out.keep HB79.out)
      have RD := Lib.hid (RWd7.out.keep HB79.out)
      have Q1 := Lib.hid (HN.out.r1.keep HM.out.below)
      have Q2 := Lib.hid (HN.out.r2.keep HM.out.below)
      have KX := Lib.hid (HX7.out.keep HB79.out)
      have KY := Lib.hid (HY7.out.keep HB79.out)
      have KS := Lib.hid (HS7.out.keep HB79.out)
      have KD := Lib.hid (HD7.out.keep HB79.out)
      have KA := Lib.hid (HN.out.x1.keep HM.out.below)
      have KB := Lib.hid (HN.out.x2.keep HM.out.below)
      have KP := Lib.hid (HM.out.x1)
      have KM := Lib.hid (HM.out.x2)
      have kX0 := KX.out.c0
      have kX1 := KX.out.c1
      have kY0 := KY.out.c0
      have kY1 := KY.out.c1
      have kS0 := KS.out.c0
      have kS1 := KS.out.c1
      have kD0 := KD.out.c0
      have kD1 := KD.out.c1
      have kA0 := KA.out.c0
      have kA1 := KA.out.c1
      have kB0 := KB.out.c0
      have kB1 := KB.out.c1
      have kP0 := KP.out.c0
      have kP1 := KP.out.c1
      have kM0 := KM.out.c0
      have kM1 := KM.out.c1
      clear HX7 HY7 HS7 HD7 RWa7 RWd7 HB79 HB7
      have HLP := Lib.hid (sum_len HSM1.out HSM2.out HM.out.s1)
      have HLM := Lib.hid (sum_len HSM1.out HSM2.out.neg HM.out.s2)
      have CF1 := Lib.hid (fun (wx : World) (hx : Below w9.heap.size w9 wx) => fits_at (n1 := m3) HM.out.r1 hx)
      have CI1 := Lib.hid (fun (wx : World) (hx : Below w9.heap.size w9 wx) => is_at RS.out HCa.out HM.out.r1 HM.out.s1 (by have := HLP.out; omega) hx)
      have CF2 := Lib.hid (fun (wx : World) (hx : Below w9.heap.size w9 wx) => fits_at (n1 := m4) HM.out.r2 hx)
      have CI2 := Lib.hid (fun (wx : World) (hx : Below w9.heap.size w9 wx) => is_at RD.out HCd.out HM.out.r2 HM.out.s2 (by have := HLM.out; omega) hx)
      have CC := Lib.hid (fun (wx : World) (hx : Below w9.heap.size w9 wx) => cmp_at R1.out R2.out HS1.out.1 HS2.out.1 HS1.out.2 HS2.out.2 hx)
      have CR := Lib.hid (fun (wx : World) (hx : Below w9.heap.size w9 wx) => refcmp_at Q1.out Q2.out HN.out.s1 HN.out.s2 hx)
      have CS := Lib.hid (fun (wx : World) (hx : Below w9.heap.size w9 wx) => sign_at R1.out HS1.out.1 HS1.out.2 hx)
      have CZ := Lib.hid (fun (wx : World) (hx : Below w9.heap.size w9 wx) => refcmp_at (n2 := false) (u2 := .slice none 0 0) Q1.out (.inl ⟨none, rfl, rfl⟩) HN.out.s1 (Sgn.zero (by decide)) hx)
      have CN := Lib.hid (fun (wx : World) (hx : Below w9.heap.size w9 wx) => neg_at R1.out HS1.out.1 HS1.out.2 hx)
      have CT := Lib.hid (fun (wx : World) (hx : Below w9.heap.size w9 wx) => turn_at (Q1.out.keep hx) HN.out.s1 hx)
      go_wp2_with fail
      go_cut [107] (fun a wx => a = .bool false ∧ Below w9.heap.size w9 wx)
      case first =>
        go_region_held3 (fun w' => w'.cell? ⟨w.heap.size, 0, none⟩ = some (.bool n1) ∧ w'.cell? ⟨w.heap.size, 1, none⟩ = some (u1) ∧ w'.cell? ⟨w.heap.size + 1, 0, none⟩ = some (.bool n2) ∧ w'.cell? ⟨w.heap.size + 1, 1, none⟩ = some (u2) ∧ w'.cell? ⟨w4.heap.size, 0, none⟩ = some (.bool na) ∧ w'.cell? ⟨w4.heap.size, 1, none⟩ = some (.slice pa la.length ca) ∧ w'.cell? ⟨w6.heap.size, 0, none⟩ = some (.bool nd) ∧ w'.cell? ⟨w6.heap.size, 1, none⟩ = some (.slice pd ld.length cd) ∧ w'.cell? ⟨b1, 0, none⟩ = some (.bool m1) ∧ w'.cell? ⟨b1, 1, none⟩ = some (.slice p1 d1.length c1) ∧ w'.cell? ⟨b2, 0, none⟩ = some (.bool m2) ∧ w'.cell? ⟨b2, 1, none⟩ = some (.slice p2 d2.length c2) ∧ w'.cell? ⟨b3, 0, none⟩ = some (.bool m3) ∧ w'.cell? ⟨b3, 1, none⟩ = some (.slice p3 d3.length c3) ∧ w'.cell? ⟨b4, 0, none⟩ = some (.bool m4) ∧ w'.cell? ⟨b4, 1, none⟩ = some (.slice p4 d4.length c4))
          ((repeat' apply And.intro) <;> (first | with_reducible assumption | with_reducible exact drew_cell (by assumption)))
          (first
           | (go_at_call 36; (with_reducible refine (CF1.out _ (by ((repeat' (first | with_reducible assumption | with_reducible exact Below.refl _ _ | with_reducible refine Below.drew ?_ | with_reducible refine Below.alloc ?_ (by first | omega | (simp; omega) | (simp; done) | fail) _ | with_reducible refine Below.setCell ?_ (by first | omega | (simp; omega) | (simp; done) | fail) _ | fail)); (first | done | fail)))).mono ?_); rintro e v0 ⟨rfl, hv0⟩; have kX0_v0 := below_cell hv0 kX0; have kX1_v0 := below_cell hv0 kX1; have kY0_v0 := below_cell hv0 kY0; have kY1_v0 := below_cell hv0 kY1; have kS0_v0 := below_cell hv0 kS0; have kS1_v0 := below_cell hv0 kS1; have kD0_v0 := below_cell hv0 kD0; have kD1_v0 := below_cell hv0 kD1; have kA0_v0 := below_cell hv0 kA0; have kA1_v0 := below_cell hv0 kA1; have kB0_v0 := below_cell hv0 kB0; have kB1_v0 := below_cell hv0 kB1; have kP0_v0 := below_cell hv0 kP0; have kP1_v0 := below_cell hv0 kP1; have kM0_v0 := below_cell hv0 kM0; have kM1_v0 := below_cell hv0 kM1)
           | (go_at_call 25; (with_reducible refine (CI1.out _ (by ((repeat' (first | with_reducible assumption | with_reducible exact Below.refl _ _ | with_reducible refine Below.drew ?_ | with_reducible refine Below.alloc ?_ (by first | omega | (simp; omega) | (simp; done) | fail) _ | with_reducible refine Below.setCell ?_ (by first | omega | (simp; omega) | (simp; done) | fail) _ | fail)); (first | done | fail)))).mono ?_); rintro e v1 ⟨rfl, hv1⟩; have kX0_v1 := below_cell hv1 kX0; have kX1_v1 := below_cell hv1 kX1; have kY0_v1 := below_cell hv1 kY0; have kY1_v1 := below_cell hv1 kY1; have kS0_v1 := below_cell hv1 kS0; have kS1_v1 := below_cell hv1 kS1; have kD0_v1 := below_cell hv1 kD0; have kD1_v1 := below_cell hv1 kD1; have kA0_v1 := below_cell hv1 kA0; have kA1_v1 := below_cell hv1 kA1; have kB0_v1 := below_cell hv1 kB0; have kB1_v1 := below_cell hv1 kB1; have kP0_v1 := below_cell hv1 kP0; have kP1_v1 := below_cell hv1 kP1; have kM0_v1 := below_cell hv1 kM0; have kM1_v1 := below_cell hv1 kM1)
           | (go_at_call 36; (with_reducible refine (CF2.out _ (by ((repeat' (first | with_reducible assumption | with_reducible exact Below.refl _ _ | with_reducible refine Below.drew ?_ | with_reducible refine Below.alloc ?_ (by first | omega | (simp; omega) | (simp; done) | fail) _ | with_reducible refine Below.setCell ?_ (by first | omega | (simp; omega) | (simp; done) | fail) _ | fail)); (first | done | fail)))).mono ?_); rintro e v2 ⟨rfl, hv2⟩; have kX0_v2 := below_cell hv2 kX0; have kX1_v2 := below_cell hv2 kX1; have kY0_v2 := below_cell hv2 kY0; have kY1_v2 := below_cell hv2 kY1; have kS0_v2 := below_cell hv2 kS0; have kS1_v2 := below_cell hv2 kS1; have kD0_v2 := below_cell hv2 kD0; have kD1_v2 := below_cell hv2 kD1; have kA0_v2 := below_cell hv2 kA0; have kA1_v2 := below_cell hv2 kA1; have kB0_v2 := below_cell hv2 kB0; have kB1_v2 := below_cell hv2 kB1; have kP0_v2 := below_cell hv2 kP0; have kP1_v2 := below_cell hv2 kP1; have kM0_v2 := below_cell hv2 kM0; have kM1_v2 := below_cell hv2 kM1)
           | (go_at_call 25; (with_reducible refine (CI2.out _ (by ((repeat' (first | with_reducible assumption | with_reducible exact Below.refl _ _ | with_reducible refine Below.drew ?_ | with_reducible refine Below.alloc ?_ (by first | omega | (simp; omega) | (simp; done) | fail) _ | with_reducible refine Below.setCell ?_ (by first | omega | (simp; omega) | (simp; done) | fail) _ | fail)); (first | done | fail)))).mono ?_); rintro e v3 ⟨rfl, hv3⟩; have kX0_v3 := below_cell hv3 kX0; have kX1_v3 := below_cell hv3 kX1; have kY0_v3 := below_cell hv3 kY0; have kY1_v3 := below_cell hv3 kY1; have kS0_v3 := below_cell hv3 kS0; have kS1_v3 := below_cell hv3 kS1; have kD0_v3 := below_cell hv3 kD0; have kD1_v3 := below_cell hv3 kD1; have kA0_v3 := below_cell hv3 kA0; have kA1_v3 := below_cell hv3 kA1; have kB0_v3 := below_cell hv3 kB0; have kB1_v3 := below_cell hv3 kB1; have kP0_v3 := below_cell hv3 kP0; have kP1_v3 := below_cell hv3 kP1; have kM0_v3 := below_cell hv3 kM0; have kM1_v3 := below_cell hv3 kM1)
           | (go_at_call 31; (with_reducible refine (CC.out _ (by ((repeat' (first | with_reducible assumption | with_reducible exact Below.refl _ _ | with_reducible refine Below.drew ?_ | with_reducible refine Below.alloc ?_ (by first | omega | (simp; omega) | (simp; done) | fail) _ | with_reducible refine Below.setCell ?_ (by first | omega | (simp; omega) | (simp; done) | fail) _ | fail)); (first | done | fail)))).mono ?_); rintro e v4 ⟨rfl, hv4⟩; have kX0_v4 := below_cell hv4 kX0; have kX1_v4 := below_cell hv4 kX1; have kY0_v4 := below_cell hv4 kY0; have kY1_v4 := below_cell hv4 kY1; have kS0_v4 := below_cell hv4 kS0; have kS1_v4 := below_cell hv4 kS1; have kD0_v4 := below_cell hv4 kD0; have kD1_v4 := below_cell hv4 kD1; have kA0_v4 := below_cell hv4 kA0; have kA1_v4 := below_cell hv4 kA1; have kB0_v4 := below_cell hv4 kB0; have kB1_v4 := below_cell hv4 kB1; have kP0_v4 := below_cell hv4 kP0; have kP1_v4 := below_cell hv4 kP1; have kM0_v4 := below_cell hv4 kM0; have kM1_v4 := below_cell hv4 kM1)
           | (go_at_call 37; (with_reducible refine (CR.out _ (by ((repeat' (first | with_reducible assumption | with_reducible exact Below.refl _ _ | with_reducible refine Below.drew ?_ | with_reducible refine Below.alloc ?_ (by first | omega | (simp; omega) | (simp; done) | fail) _ | with_reducible refine Below.setCell ?_ (by first | omega | (simp; omega) | (simp; done) | fail) _ | fail)); (first | done | fail)))).mono ?_); rintro e v5 ⟨rfl, hv5⟩; have kX0_v5 := below_cell hv5 kX0; have kX1_v5 := below_cell hv5 kX1; have kY0_v5 := below_cell hv5 kY0; have kY1_v5 := below_cell hv5 kY1; have kS0_v5 := below_cell hv5 kS0; have kS1_v5 := below_cell hv5 kS1; have kD0_v5 := below_cell hv5 kD0; have kD1_v5 := below_cell hv5 kD1; have kA0_v5 := below_cell hv5 kA0; have kA1_v5 := below_cell hv5 kA1; have kB0_v5 := below_cell hv5 kB0; have kB1_v5 := below_cell hv5 kB1; have kP0_v5 := below_cell hv5 kP0; have kP1_v5 := below_cell hv5 kP1; have kM0_v5 := below_cell hv5 kM0; have kM1_v5 := below_cell hv5 kM1))
        all_goals (go_wp2_with fail)
        all_goals go_meet
        all_goals exact ⟨rfl, by ((repeat' (first | with_reducible assumption | with_reducible exact Below.refl _ _ | with_reducible refine Below.drew ?_ | with_reducible refine Below.alloc ?_ (by first | omega | (simp; omega) | (simp; done) | fail) _ | with_reducible refine Below.setCell ?_ (by first | omega | (simp; omega) | (simp; done) | fail) _ | fail)); (first | done | fail))⟩
      case rest =>
        obtain ⟨rfl, hv⟩ := hcut
        go_wp2_with fail
        have jX0 := below_cell hv kX0
        have jX1 := below_cell hv kX1
        have jA0 := below_cell hv kA0
        have jA1 := below_cell hv kA1
        clear kX0 kX1 kY0 kY1 kS0 kS1 kD0 kD1 kA0 kA1 kB0 kB1 kP0 kP1 kM0 kM1
        have HV := Lib.hid hv
        go_region_held3 (fun w' => w'.cell? ⟨w.heap.size, 0, none⟩ = some (.bool n1) ∧ w'.cell? ⟨w.heap.size, 1, none⟩ = some (u1) ∧ w'.cell? ⟨b1, 0, none⟩ = some (.bool m1) ∧ w'.cell? ⟨b1, 1, none⟩ = some (.slice p1 d1.length c1))
          ((repeat' apply And.intro) <;> (first | with_reducible assumption | with_reducible exact drew_cell (by assumption)))
          (first
           | (go_at_call 32; (with_reducible refine (CS.out _ (by ((repeat' (first | with_reducible assumption | with_reducible exact Below.refl _ _ | with_reducible refine Below.drew ?_ | with_reducible refine Below.alloc ?_ (by first | omega | (simp; omega) | (simp; done) | fail) _ | with_reducible refine Below.setCell ?_ (by first | omega | (simp; omega) | (simp; done) | fail) _ | fail)); (first | done | fail)))).mono ?_); rintro e v0 ⟨rfl, hv0⟩; have jX0_0 := below_cell hv0 (KX.out.c0); have jX1_0 := below_cell hv0 (KX.out.c1); have jA0_0 := below_cell hv0 (KA.out.c0); have jA1_0 := below_cell hv0 (KA.out.c1))
           | (go_at_call 37; (with_reducible refine (CZ.out _ (by ((repeat' (first | with_reducible assumption | with_reducible exact Below.refl _ _ | with_reducible refine Below.drew ?_ | with_reducible refine Below.alloc ?_ (by first | omega | (simp; omega) | (simp; done) | fail) _ | with_reducible refine Below.setCell ?_ (by first | omega | (simp; omega) | (simp; done) | fail) _ | fail)); (first | done | fail)))).mono ?_); rintro e v1 ⟨rfl, hv1⟩; have jX0_1 := below_cell hv1 (KX.out.c0); have jX1_1 := below_cell hv1 (KX.out.c1); have jA0_1 := below_cell hv1 (KA.out.c0); have jA1_1 := below_cell hv1 (KA.out.c1))
           | (go_at_call 33; (with_reducible refine (CN.out _ (by ((repeat' (first | with_reducible assumption | with_reducible exact Below.refl _ _ | with_reducible refine Below.drew ?_ | with_reducible refine Below.alloc ?_ (by first | omega | (simp; omega) | (simp; done) | fail) _ | with_reducible refine Below.setCell ?_ (by first | omega | (simp; omega) | (simp; done) | fail) _ | fail)); (first | done | fail)))).mono ?_); rintro e v2 ⟨nn, pn, cn, wn, rfl, hRn, hSn, hv2, hxn⟩; have jX0_2 := below_cell hv2 (KX.out.c0); have jX1_2 := below_cell hv2 (KX.out.c1); have jA0_2 := below_cell hv2 (KA.out.c0); have jA1_2 := below_cell hv2 (KA.out.c1); have RN := Lib.hid hRn; have SN := Lib.hid hSn; clear hRn hSn hxn)
           | (go_at_call 35; (with_reducible refine (CT.out _ (by ((repeat' (first | with_reducible assumption | with_reducible exact Below.refl _ _ | with_reducible refine Below.drew ?_ | with_reducible refine Below.alloc ?_ (by first | omega | (simp; omega) | (simp; done) | fail) _ | with_reducible refine Below.setCell ?_ (by first | omega | (simp; omega) | (simp; done) | fail) _ | fail)); (first | done | fail)))).mono ?_); rintro e v3 ⟨mt, pt, ct, dt, rfl, hRt, hSt, hv3, hxt⟩; have jX0_3 := below_cell hv3 (KX.out.c0); have jX1_3 := below_cell hv3 (KX.out.c1); have jA0_3 := below_cell hv3 (KA.out.c0); have jA1_3 := below_cell hv3 (KA.out.c1); have RN3 := Lib.hid (RN.out.keep hxt); have RT := Lib.hid hRt; have ST := Lib.hid hSt; clear hRt hSt hxt)
           | (go_at_call 18; (with_reducible refine (to_at (W := w9) RT.out ST.out (HSM1.out.neg.len ST.out) (by ((repeat' (first | with_reducible assumption | with_reducible exact Below.refl _ _ | with_reducible refine Below.drew ?_ | with_reducible refine Below.alloc ?_ (by first | omega | (simp; omega) | (simp; done) | fail) _ | with_reducible refine Below.setCell ?_ (by first | omega | (simp; omega) | (simp; done) | fail) _ | fail)); (first | done | fail)))).mono ?_); rintro e v4 ⟨no, po, co, wo, rfl, hRo, hSo, hv4, hxo⟩; have jX0_4 := below_cell hv4 (KX.out.c0); have jX1_4 := below_cell hv4 (KX.out.c1); have jA0_4 := below_cell hv4 (KA.out.c0); have jA1_4 := below_cell hv4 (KA.out.c1); have RN4 := Lib.hid (RN3.out.keep hxo); have RO := Lib.hid hRo; have SO := Lib.hid hSo; clear hRo hSo hxo)
           | (go_at_call 16; (with_reducible refine (same_at (W := w9) RN4.out RO.out SN.out SO.out (by ((repeat' (first | with_reducible assumption | with_reducible exact Below.refl _ _ | with_reducible refine Below.drew ?_ | with_reducible refine Below.alloc ?_ (by first | omega | (simp; omega) | (simp; done) | fail) _ | with_reducible refine Below.setCell ?_ (by first | omega | (simp; omega) | (simp; done) | fail) _ | fail)); (first | done | fail)))).mono ?_); rintro e v5 ⟨rfl, hv5⟩; have jX0_5 := below_cell hv5 (KX.out.c0); have jX1_5 := below_cell hv5 (KX.out.c1); have jA0_5 := below_cell hv5 (KA.out.c0); have jA1_5 := below_cell hv5 (KA.out.c1)))
        all_goals (go_wp2_with fail)
        all_goals go_ret
        all_goals exact ⟨rfl, HB9.out.trans (hv5.mono HB9.out.size)⟩
end Go.Proofs.YtapeomcnjjfihaaDoor
