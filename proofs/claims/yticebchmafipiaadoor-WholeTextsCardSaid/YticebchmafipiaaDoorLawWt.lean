/- Layer 2: the law WholeTexts, walked, at every input. -/
import Derived.Test.YticebchmafipiaaDoorWtT
import Derived.Deep.RegionHeld3
namespace Go.Proofs.YticebchmafipiaaDoor
open Go Go.ChangeShapes Go.WideShapes Go.ChangeAt Go.RowKit Go.PlainAid
set_option linter.unusedVariables false
set_option linter.unusedSimpArgs false
/-- The document's reading and the program's are one. -/
theorem tq_is {s : ByteArray} {nn ny : Bool} {un uy : Value} {ds ws : List Int} {fn fy : Int} {w : World} (h : TQ 10 s nn ds fn) (g : TQ B18 s ny ws fy) (hn : Rb w un ds) (hy : Rd w uy ws) :
    Calls Tryd.prog 8 #[.agg #[.bool ny, uy], .int .i64 fy, .agg #[.bool nn, un], .int .i64 fn] w (BoolPost w true) := by
  rcases h with ⟨h1, rfl, rfl, rfl⟩ | ⟨h1, h2, rfl, rfl, rfl⟩ | ⟨h1, h2, rfl, h3⟩ <;> rcases g with ⟨g1, rfl, rfl, rfl⟩ | ⟨g1, g2, rfl, rfl, rfl⟩ | ⟨g1, g2, rfl, g3⟩
  · exact is_bad uy false un 4 w hy (by decide)
  · exact absurd g1 h1
  · exact absurd g1 h1
  · exact absurd h1 g1
  · exact is_bad uy false un 2 w hy (by decide)
  · exact absurd g2 h2
  · exact absurd h1 g1
  · exact absurd h2 g2
  · exact is_good ny uy ws nn un ds _ w hy g3 hn h3 (by have := h3.fits.2 h2; omega)
theorem text_show2 {n1 nn : Bool} {xs ds : List Int} {z : Int} (hx : Sgn B18 n1 xs z) (hd : Sgn 10 nn ds z) : nn = n1 ∧ showB nn ds = textB n1 xs := by
  have hn : nn = n1 := (hd.neg_iff (by decide)).trans (hx.neg_iff (by decide)).symm
  subst hn
  refine ⟨rfl, ?_⟩
  by_cases h0 : xs.length = 0
  · have hz := (hx.empty (by decide)).1 h0
    have hd0 := (hd.empty (by decide)).2 hz
    unfold showB textB
    rw [if_pos h0, if_pos hd0]
  · rw [text_show hx hd (by omega)]
    unfold textB
    rw [if_neg h0]
def TxAt (V : World) (s : ByteArray) (e : Ending) (w' : World) : Prop := e = .returned (.string s) ∧ Below V.heap.size V w'
theorem text_at {V wx : World} {n1 : Bool} {u1 : Value} {xs : List Int} {z : Int} (hr : Rd V u1 xs) (hs : Sgn B18 n1 xs z) (hl : xs.length ≤ 30) (hP : P10 V) (hx : Below V.heap.size V wx) : Calls Tryd.prog 10 #[.agg #[.bool n1, u1]] wx (TxAt V (textB n1 xs)) :=
  (text_any n1 u1 xs z wx (hr.keep hx) hs hl (hP.keep hx)).mono fun _ _ h => ⟨h.1, hx.trans (h.2.mono hx.size)⟩
def OfNum (V wx : World) (n1 : Bool) (xs : List Int) (e : Ending) (w' : World) : Prop :=
  ∃ p c ds, e = .returned (.agg #[.bool n1, .slice p (List.length ds) c]) ∧ Rb w' (.slice p ds.length c) ds ∧ Dig 10 ds ∧ ds.length ≤ 540 ∧ showB n1 ds = textB n1 xs ∧ Below V.heap.size V w' ∧ Below wx.heap.size wx w'
theorem ofnum_at {V wx : World} {n1 : Bool} {u1 : Value} {xs : List Int} {z : Int} (hr : Rd V u1 xs) (hs : Sgn B18 n1 xs z) (hl : xs.length ≤ 30) (hx : Below V.heap.size V wx) : Calls Tryd.prog 12 #[.agg #[.bool n1, u1]] wx (OfNum V wx n1 xs) := by
  refine (of_any n1 u1 xs z wx (hr.keep hx) hs (by omega)).mono ?_
  rintro e w' ⟨nn, u, ds, rfl, hrb, hs2, hb⟩
  obtain ⟨rfl, hsh⟩ := text_show2 hs hs2
  obtain ⟨p, c, rfl, _, _, _⟩ := rb_form hrb
  exact ⟨p, c, ds, rfl, hrb, hs2.canon.1, hs2.fits.2 (hs.small.1 hl), hsh, hx.trans (hb.mono hx.size), hb⟩
theorem show_at {V wx : World} {n1 : Bool} {u : Value} {xs ds : List Int} (hr : Rb wx u ds) (hd : Dig 10 ds) (hl : ds.length ≤ 540) (hsh : showB n1 ds = textB n1 xs) (hx : Below V.heap.size V wx) : Calls Tryd.prog 11 #[.agg #[.bool n1, u]] wx (TxAt V (textB n1 xs)) := by
  refine (show_any n1 u ds wx hr hd (by omega)).mono ?_
  rintro e w' ⟨rfl, hb⟩
  exact ⟨by rw [hsh], hx.trans (hb.mono hx.size)⟩
set_option maxRecDepth 100000 in
set_option maxHeartbeats 4000000 in
theorem law_texts (n1 : Bool) (u1 : Value) (xs : List Int) (s : ByteArray) (w : World) (hr1 : Rd w u1 xs) (hf1 : Fit xs) (hsz : s.size ≤ 140737488355328) (hP : P10 w) :
    Calls Tryd.prog 3 #[.agg #[.bool n1, u1], .string s] w (BoolPost w true) := by
  have HR1 := Lib.hid hr1
  have HF1 := Lib.hid hf1
  have HP := Lib.hid hP
  obtain ⟨p1, c1, rfl, _, _, _⟩ := rd_form hr1
  clear hr1 hf1 hP
  go_enter Tryd.func3, Tryd.ntmps3
  go_wp2_with fail
  generalize hw1 : World.alloc w _ = w1
  have HB1 := Lib.hid (show Below w.heap.size w w1 by rw [← hw1]; exact (Below.refl _ _).alloc (Nat.le_refl _) _)
  have HX1 := Lib.hid (show Box2 w1 w.heap.size (.bool n1) (.slice p1 xs.length c1) by rw [← hw1]; exact Box2.new _ _ _ _ rfl)
  clear hw1
  refine (known_true w1).mono ?_
  rintro e w2 ⟨rfl, hb⟩
  have HB2 := Lib.hid (HB1.out.trans (hb.mono HB1.out.size))
  have HX2 := Lib.hid (HX1.out.keep hb)
  clear HX1 HB1 hb
  go_wp2_with fail
  refine (read_any s w2 hsz).mono ?_
  rintro e w3 ⟨nn, un, ds, fn, rfl, hrn, htn, hb⟩
  obtain ⟨pn, cn, rfl, _, _, _⟩ := rb_form hrn
  have HB3 := Lib.hid (HB2.out.trans (hb.mono HB2.out.size))
  have HX3 := Lib.hid (HX2.out.keep hb)
  have HRN := Lib.hid hrn
  have HTN := Lib.hid htn
  clear HX2 HB2 hb hrn htn
  go_wp2_with fail
  generalize hw : World.alloc w3 _ = w4
  have hb : Below w3.heap.size w3 w4 := by rw [← hw]; exact (Below.refl _ _).alloc (Nat.le_refl _) _
  have HN4 := Lib.hid (show Box2 w4 w3.heap.size (.bool nn) (.slice pn ds.length cn) by rw [← hw]; exact Box2.new _ _ _ _ rfl)
  have HB4 := Lib.hid (HB3.out.trans (hb.mono HB3.out.size))
  have HX4 := Lib.hid (HX3.out.keep hb)
  have HRN4 := Lib.hid (HRN.out.keep hb)
  clear hb hw HX3 HB3 HRN
  refine (parse_any s w4 hsz).mono ?_
  rintro e w5 ⟨ny, uy, ws, fy, rfl, hmy, hty, hb⟩
  obtain ⟨py, cy, rfl⟩ := MU.form hmy
  have hwl : ws.length ≤ 17592186043904 := by
    rcases hty with ⟨_, _, rfl, _⟩ | ⟨_, _, _, rfl, _⟩ | ⟨_, h, _, h3⟩
    · simp
    · simp
    · have := h3.small.2 h; omega
  have HRY := Lib.hid (hmy.rd hwl)
  have HTY := Lib.hid hty
  have HN5 := Lib.hid (HN4.out.keep hb)
  have HB5 := Lib.hid (HB4.out.trans (hb.mono HB4.out.size))
  have HX5 := Lib.hid (HX4.out.keep hb)
  have HRN5 := Lib.hid (HRN4.out.keep hb)
  clear HN4 HB4 HX4 HRN4 hb hmy hty hwl
  have n0 := HN5.out.c0
  have n1' := HN5.out.c1
  have ln := HN5.out.lt
  go_wp2_with fail
  generalize hw : World.alloc w5 _ = w6
  have hb : Below w5.heap.size w5 w6 := by rw [← hw]; exact (Below.refl _ _).alloc (Nat.le_refl _) _
  have HB6 := Lib.hid (HB5.out.trans (hb.mono HB5.out.size))
  have HX6 := Lib.hid (HX5.out.keep hb)
  have HRN6 := Lib.hid (HRN5.out.keep hb)
  have HRY6 := Lib.hid (HRY.out.keep hb)
  clear hb hw HX5 HB5 HRN5 HN5 HRY n0 n1' ln
  refine (tq_is HTN.out HTY.out HRN6.out HRY6.out).mono ?_
  rintro e w7 ⟨rfl, hb⟩
  have HB7 := Lib.hid (HB6.out.trans (hb.mono HB6.out.size))
  have HX7 := Lib.hid (HX6.out.keep hb)
  clear hb HB6 HX6 HRN6 HRY6 HTN HTY
  have x0 := HX7.out.c0
  have x1 := HX7.out.c1
  go_wp2_with fail
  cases hg : goodB n1 xs with
  | false =>
    have HG := Lib.hid hg
    refine (refgood_any n1 _ xs w7 (HR1.out.keep HB7.out) HF1.out).mono ?_
    rw [hg]
    rintro e w8 ⟨rfl, hb⟩
    have HB8 := Lib.hid (HB7.out.trans (hb.mono HB7.out.size))
    have HX8 := Lib.hid (HX7.out.keep hb)
    clear hb HB7 HX7 x0 x1 hg
    have x0 := HX8.out.c0
    have x1 := HX8.out.c1
    go_wp2_with fail
    refine (text_bad n1 _ xs w8 (HR1.out.keep HB8.out) HF1.out HG.out).mono ?_
    rintro e w9 ⟨rfl, hb⟩
    have HB9 := Lib.hid (HB8.out.trans (hb.mono HB8.out.size))
    clear hb HB8 HX8 x0 x1
    go_wp2_with fail
    go_ret
    exact ⟨rfl, HB9.out⟩
  | true =>
    have HS := Lib.hid (goodB_sgn hg HF1.out)
    refine (refgood_any n1 _ xs w7 (HR1.out.keep HB7.out) HF1.out).mono ?_
    rw [hg]
    rintro e w8 ⟨rfl, hb⟩
    have HB8 := Lib.hid (HB7.out.trans (hb.mono HB7.out.size))
    have HX8 := Lib.hid (HX7.out.keep hb)
    clear hb HB7 HX7 x0 x1 hg
    have x0 := HX8.out.c0
    have x1 := HX8.out.c1
    have hs8 := HB8.out.size
    have HTX := Lib.hid (fun (wx : World) (hx : Below w8.heap.size w8 wx) => text_at (HR1.out.keep HB8.out) HS.out.1 HS.out.2 (HP.out.keep HB8.out) hx)
    have HOF := Lib.hid (fun (wx : World) (hx : Below w8.heap.size w8 wx) => ofnum_at (HR1.out.keep HB8.out) HS.out.1 HS.out.2 hx)
    have HSH := Lib.hid (fun (wx : World) (u : Value) (ds : List Int) (hr : Rb wx u ds) (hd : Dig 10 ds) (hl : ds.length ≤ 540) (hsh : showB n1 ds = textB n1 xs) (hx : Below w8.heap.size w8 wx) => show_at (V := w8) hr hd hl hsh hx)
    generalize hTB : textB n1 xs = TB at HTX HSH
    go_wp2_with fail
    go_region_held3 (fun w' => w'.cell? ⟨w.heap.size, 0, none⟩ = some (.bool n1) ∧ w'.cell? ⟨w.heap.size, 1, none⟩ = some (.slice p1 xs.length c1))
      (first | go_keep | (with_reducible exact ⟨below_cell hbt x0, below_cell hbt x1⟩) | (with_reducible exact ⟨below_cell hbo x0, below_cell hbo x1⟩) | (with_reducible exact ⟨below_cell hbs x0, below_cell hbs x1⟩) | fail)
      (first
       | (go_at_call 10; (with_reducible refine (HTX.out _ (by ((repeat' (first | with_reducible assumption | with_reducible exact Below.refl _ _ | with_reducible refine Below.drew ?_ | with_reducible refine Below.alloc ?_ (by first | omega | (simp; omega) | (simp; done) | fail) _ | with_reducible refine Below.setCell ?_ (by first | omega | (simp; omega) | (simp; done) | fail) _ | fail)); (first | done | fail)))).mono ?_); rintro e wt ⟨rfl, hbt⟩)
       | (go_at_call 12; (with_reducible refine (HOF.out _ (by ((repeat' (first | with_reducible assumption | with_reducible exact Below.refl _ _ | with_reducible refine Below.drew ?_ | with_reducible refine Below.alloc ?_ (by first | omega | (simp; omega) | (simp; done) | fail) _ | with_reducible refine Below.setCell ?_ (by first | omega | (simp; omega) | (simp; done) | fail) _ | fail)); (first | done | fail)))).mono ?_); rintro e wo ⟨po, co, dso, rfl, hro, hdo, hlo, hsho, hbo, hbo2⟩; have HRO := Lib.hid hro; have HDO := Lib.hid hdo; have HLO := Lib.hid hlo; have HSO := Lib.hid (hsho.trans hTB); clear hro hdo hlo hsho hbo2)
       | (go_at_call 11; (with_reducible refine (HSH.out _ _ dso (HRO.out.keep (by ((repeat' (first | with_reducible assumption | with_reducible exact Below.refl _ _ | with_reducible refine Below.drew ?_ | with_reducible refine Below.alloc ?_ (by first | omega | (simp; omega) | (simp; done) | fail) _ | with_reducible refine Below.setCell ?_ (by first | omega | (simp; omega) | (simp; done) | fail) _ | fail)); (first | done | fail)))) HDO.out HLO.out HSO.out (by ((repeat' (first | with_reducible assumption | with_reducible exact Below.refl _ _ | with_reducible refine Below.drew ?_ | with_reducible refine Below.alloc ?_ (by first | omega | (simp; omega) | (simp; done) | fail) _ | with_reducible refine Below.setCell ?_ (by first | omega | (simp; omega) | (simp; done) | fail) _ | fail)); (first | done | fail)))).mono ?_); rintro e ws2 ⟨rfl, hbs⟩)
       | fail)
    all_goals (go_wp2_with fail)
    all_goals go_ret
    all_goals first
      | exact ⟨rfl, HB8.out.trans (hbs.mono hs8)⟩
      | exact ⟨rfl, HB8.out.trans (hbt.mono hs8)⟩
end Go.Proofs.YticebchmafipiaaDoor
