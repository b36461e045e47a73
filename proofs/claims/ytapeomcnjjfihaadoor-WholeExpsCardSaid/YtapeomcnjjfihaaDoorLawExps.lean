/- Layer 2: the law WholeExps, walked, at every input. -/
import Derived.Test.YtapeomcnjjfihaaDoorWPow
import Derived.Test.YtapeomcnjjfihaaDoorLawAt
namespace Go.Proofs.YtapeomcnjjfihaaDoor
open Go.ChangeShapes Go.WideShapes Go.ChangeAt Go.RowKit
set_option linter.unusedVariables false
set_option linter.unusedSimpArgs false
theorem and31 (x : Int) : bits BinOp.and IntKind.i64 x 31 = x % 32 := by
  have e : bits BinOp.and IntKind.i64 x 31 = IntKind.i64.wrap (((BitVec.ofInt 64 x).toNat &&& (2 ^ 5 - 1) : Nat) : Int) := by
    simp only [bits, BitVec.toNat_and]; rfl
  rw [e, Nat.and_two_pow_sub_one_eq_mod, BitVec.toNat_ofInt, IntKind.wrap_i64]
  omega
theorem Rd.drew {w : World} {v : Value} {ws : List Int} (h : Rd w v ws) : Rd w.drew v ws := h
theorem Rd.putN {w : World} {B : Nat} {v : Value} {ws : List Int} (hb : Box2 w B (.bool false) (.slice none 0 0)) (x y : Value) (h : Rd w v ws) : Rd ((w.setCell ⟨B, 0, none⟩ x).setCell ⟨B, 1, none⟩ y) v ws := h.put2 hb x y
theorem pow_not_small {z : Int} {a b : Nat} (h : ¬ Small (z ^ a)) : ¬ Small (z ^ (a + b)) := by
  by_cases hz : z = 0
  · exfalso
    apply h
    subst hz
    cases a with
    | zero => exact small_one false
    | succ a => rw [Int.pow_succ, Int.mul_zero]; exact I64.small ⟨by decide, by decide⟩
  · refine not_small h ?_
    rw [Int.pow_add]
    exact abs_mul_le (pow_ne hz b)
/-- A big number of one's own in a box, and an error. -/
structure PR (W wx : World) (b1 : Nat) (n1 : Bool) (p1 : Option Addr) (c1 : Nat) (ws : List Int) (er : Int) (C : Bool → List Int → Int → Prop) : Prop where
  below : Below W.heap.size W wx
  x1 : Box2 wx b1 (.bool n1) (.slice p1 ws.length c1)
  r1 : Rd wx (.slice p1 ws.length c1) ws
  case : C n1 ws er
def PAt (W wx : World) (C : Bool → List Int → Int → Prop) (e : Ending) (w' : World) : Prop :=
  ∃ n p c ws er, e = .returned (.tuple #[.agg #[.bool n, .slice p (List.length ws) c], .int .i64 er]) ∧ Rd w' (.slice p ws.length c) ws ∧ C n ws er ∧ Below W.heap.size W w' ∧ Below wx.heap.size wx w'
def BadCase (n : Bool) (ws : List Int) (er : Int) : Prop := n = false ∧ ws = [] ∧ er = 3
/-- A big number of one's own, over a world that stays fixed. -/
def BigAtE (W wx : World) (z : Int) (e : Ending) (w' : World) : Prop :=
  ∃ n p c ws, e = .returned (.agg #[.bool n, .slice p (List.length ws) c]) ∧ Rd w' (.slice p ws.length c) ws ∧ Sgn B18 n ws z ∧ Below W.heap.size W w' ∧ Below wx.heap.size wx w'
theorem wofn_at {W wx : World} {n : Int} (hn : I64 n) (hx : Below W.heap.size W wx) : Calls Tryd.prog 17 #[.int .i64 n] wx (BigAtE W wx n) := by
  refine (of_int n wx hn.lo hn.hi).mono ?_
  rintro e w' ⟨m, u, ws, rfl, hM, hS, hB⟩
  obtain ⟨p, c, rfl⟩ := MU.form hM
  have hlen : ws.length ≤ 30 := hS.small.2 hn.small
  exact ⟨m, p, c, ws, rfl, hM.rd (by omega), hS, hx.trans (hB.mono hx.size), hB⟩
theorem pow_at {W wx : World} {n1 : Bool} {u1 : Value} {xs : List Int} {z1 : Int} {n2 : Bool} {u2 : Value} {ys : List Int} {z2 : Int} (hr1 : Rd wx u1 xs) (hr2 : Rd wx u2 ys) (hs1 : Sgn B18 n1 xs z1) (hs2 : Sgn B18 n2 ys z2) (hl1 : xs.length ≤ 30) (hl2 : ys.length ≤ 30) (hz : 0 ≤ z2) (hx : Below W.heap.size W wx) :
    Calls Tryd.prog 42 #[.agg #[.bool n1, u1], .agg #[.bool n2, u2]] wx (PAt W wx (ResCase (z1 ^ Int.toNat z2))) := by
  refine (pow_good n1 u1 xs z1 n2 u2 ys z2 wx hr1 hr2 hs1 hs2 hl1 hl2).mono ?_
  rintro e w' ⟨n, u, ws, er, rfl, hM, hB, hc⟩
  obtain ⟨p, c, rfl⟩ := MU.form hM
  rcases hc with ⟨h, _⟩ | ⟨_, hc⟩
  · omega
  · exact ⟨n, p, c, ws, er, rfl, hM.rd (ResCase.len17 hc), hc, hx.trans (hB.mono hx.size), hB⟩
set_option maxRecDepth 100000 in
set_option maxHeartbeats 1000000 in
theorem pow_bad1 (n1 : Bool) (u1 : Value) (xs : List Int) (n2 : Bool) (u2 : Value) (ys : List Int) (w : World) (hr1 : Rd w u1 xs) (hf1 : Fit xs) (hr2 : Rd w u2 ys) (hg : goodB n1 xs = false) :
    Calls Tryd.prog 42 #[.agg #[.bool n1, u1], .agg #[.bool n2, u2]] w (BadPost w 3) := by
  have HR1 := Lib.hid hr1
  have HR2 := Lib.hid hr2
  obtain ⟨p1, c1, rfl, _, _, _⟩ := rd_form hr1
  obtain ⟨p2, c2, rfl, _, _, _⟩ := rd_form hr2
  have HGN := Lib.hid hg
  clear hr1 hr2 hg
  go_enter Tryd.func42, Tryd.ntmps42
  go_wp2_with fail
  generalize hw2 : World.alloc (World.alloc (World.alloc w _) _) _ = w2
  have hbx : Bx3 w2 w.heap.size n1 (.slice p1 xs.length c1) n2 (.slice p2 ys.length c2) := by
    rw [← hw2]
    exact ⟨alloc_cell (alloc_cell (by simp) _) _, alloc_cell (alloc_cell (by simp) _) _, alloc_cell (by simp) _, alloc_cell (by simp) _, third_cell _ _ _ _ _ 0, third_cell _ _ _ _ _ 1, third_fr _ _ _ _ _ 0, third_fr _ _ _ _ _ 1, by simp⟩
  have HB2 := Lib.hid (show Below w.heap.size w w2 by rw [← hw2]; exact (((Below.refl _ _).alloc (Nat.le_refl _) _).alloc (by simp) _).alloc (by simp; omega) _)
  clear hw2
  have HX2 := Lib.hid hbx
  have q0 := hbx.x0
  have q1 := hbx.x1
  have q2 := hbx.y0
  have q3 := hbx.y1
  refine (good_no _ _ xs w2 (HR1.out.keep HB2.out) hf1 HGN.out).mono ?_
  rintro e w3 ⟨rfl, hb3⟩
  have hX := HX2.out.keep hb3
  have HB := Lib.hid (HB2.out.trans (hb3.mono HB2.out.size))
  have r0 := hX.r0
  have r1 := hX.r1
  have f0 := hX.f0
  have f1 := hX.f1
  clear hX hb3
  clear q0 q1 q2 q3 hbx
  go_wp2_with fail
  have z2 := two_setW (x0 := .bool false) (x1 := .slice none 0 0) r0 r1
  refine bodyPost_ret (v := .tuple #[.agg #[.bool false, .slice none 0 0], .int .i64 3]) (by simp [results, Tryd.results42, go_sem, z2.1, z2.2]) rfl ⟨rfl, ?_⟩
  exact (HB.out.setCell (by simp; omega) _).setCell (by simp; omega) _
theorem powbad_at {W wx : World} {n1 : Bool} {u1 : Value} {xs : List Int} {n2 : Bool} {u2 : Value} {ys : List Int} (hr1 : Rd wx u1 xs) (hf1 : Fit xs) (hr2 : Rd wx u2 ys) (hg : goodB n1 xs = false) (hx : Below W.heap.size W wx) :
    Calls Tryd.prog 42 #[.agg #[.bool n1, u1], .agg #[.bool n2, u2]] wx (PAt W wx BadCase) := by
  refine (pow_bad1 n1 u1 xs n2 u2 ys wx hr1 hf1 hr2 hg).mono ?_
  rintro e w' ⟨rfl, hB⟩
  exact ⟨false, none, 0, [], 3, rfl, .inl ⟨none, rfl, rfl⟩, ⟨rfl, rfl, rfl⟩, hx.trans (hB.mono hx.size), hB⟩
set_option maxRecDepth 100000 in
set_option maxHeartbeats 16000000 in
theorem exps_bad (n1 : Bool) (u1 : Value) (xs : List Int) (i : Int) (j : Int) (w : World) (hr1 : Rd w u1 xs) (hf1 : Fit xs) (hg1 : goodB n1 xs = false) (hi : I64 i) (hj : I64 j) :
    Calls Tryd.prog 11 #[.agg #[.bool n1, u1], .int .i64 i, .int .i64 j] w (BoolPost w true) := by
  have HR1 := Lib.hid hr1
  have HF1 := Lib.hid hf1
  have HG1 := Lib.hid hg1
  have hai := and31 i
  have haj := and31 j
  obtain ⟨a, hae⟩ : ∃ a, i % 32 = a := ⟨_, rfl⟩
  obtain ⟨b, hbe⟩ : ∃ b, j % 32 = b := ⟨_, rfl⟩
  have ha : 0 ≤ a ∧ a < 32 := by omega
  have hb : 0 ≤ b ∧ b < 32 := by omega
  rw [hae] at hai
  rw [hbe] at haj
  have hwab : IntKind.i64.wrap (a + b) = a + b := by rw [IntKind.wrap_i64]; omega
  clear hae hbe hi hj hg1
  clear hr1 hf1
  go_enter Tryd.func11, Tryd.ntmps11
  go_wp2_with fail
  generalize hw1 : World.alloc w _ = w1
  have HB1 := Lib.hid (show Below w.heap.size w w1 by rw [← hw1]; exact ((Below.refl _ _).alloc (by first | exact Nat.le_refl _ | (simp; done) | (simp; omega)) _))
  have HX1 := Lib.hid (show Box2 w1 (w.heap.size) (.bool n1) u1 by rw [← hw1]; exact (Box2.new _ _ _ _ rfl))
  clear hw1
  have cX1a := HX1.out.c0
  have cX1b := HX1.out.c1
  have cX1l := HX1.out.lt
  refine (known_true w1).mono ?_
  rintro e w2 ⟨rfl, hb2⟩
  have HB2 := Lib.hid (HB1.out.trans (hb2.mono HB1.out.size))
  have HX2 := Lib.hid (HX1.out.keep hb2)
  clear cX1a  cX1b  cX1l  HX1 HB1 hb2 
  have cX2a := HX2.out.c0
  have cX2b := HX2.out.c1
  have cX2l := HX2.out.lt
  go_wp2_with fail
  have CO := Lib.hid (fun (wx : World) (hx : Below w2.heap.size w2 wx) => wofn_at (n := a) ⟨by omega, by omega⟩ hx)
  have RX := Lib.hid (HR1.out.keep HB2.out)
  go_cut [7, 8] (fun p q wx => ∃ bA nA pA cA lA eA, p = .pointer (some ⟨bA, 0, none⟩) ∧ q = .int .i64 eA ∧ PR w2 wx bA nA pA cA lA eA (BadCase))
  case first =>
    go_region_held3 (fun w' => w'.cell? ⟨w.heap.size, 0, none⟩ = some (.bool n1) ∧ w'.cell? ⟨w.heap.size, 1, none⟩ = some (u1))
      ((repeat' apply And.intro) <;> (repeat' (first | with_reducible assumption | with_reducible refine alloc_cell ?_ _ | (with_reducible refine cell_set2 ?_ ?_ _ _; · omega) | with_reducible refine drew_cell ?_)))
      (first
       | (go_at_call 17; (with_reducible refine (CO.out _ (by ((repeat' (first | with_reducible assumption | with_reducible exact Below.refl _ _ | with_reducible refine Below.drew ?_ | with_reducible refine Below.alloc ?_ (by first | omega | (simp; omega) | (simp; done) | fail) _ | with_reducible refine Below.setCell ?_ (by first | omega | (simp; omega) | (simp; done) | fail) _ | fail)); (first | done | fail)))).mono ?_); rintro e v1 ⟨nn, pn, cn, wn, rfl, hRn, hSn, hv1, hx1⟩; have kX0_1 := below_cell hv1 cX2a; have kX1_1 := below_cell hv1 cX2b; have zv1 := hv1.size; (try (have hBox := Box2.keep (B := w2.heap.size) (a := (.bool false)) (b := (.slice none 0 0)) (by ((repeat' (first | with_reducible assumption | (with_reducible exact Hid.out ‹_›) | (with_reducible refine Box2.put0 _ _ ?_) | (with_reducible refine Box2.new _ _ _ _ ?_; (first | with_reducible rfl | (simp; done) | rfl)) | (with_reducible refine Box2.alloc ?_ _) | (with_reducible refine Box2.drew ?_) | (with_reducible refine Box2.set2 ?hn _ _ ?_; case hn => omega) | fail)); (first | done | fail))) hx1; obtain ⟨_, _, _, _, _, _, _, _⟩ := hBox.all)); have RN := Lib.hid hRn; have SN := Lib.hid hSn; clear hRn hSn hx1)
       | (go_at_call 42; (with_reducible refine (powbad_at (W := w2) (RX.out.keep (by ((repeat' (first | with_reducible assumption | with_reducible exact Below.refl _ _ | with_reducible refine Below.drew ?_ | with_reducible refine Below.alloc ?_ (by first | omega | (simp; omega) | (simp; done) | fail) _ | with_reducible refine Below.setCell ?_ (by first | omega | (simp; omega) | (simp; done) | fail) _ | fail)); (first | done | fail)))) HF1.out (show Rd _ (.slice pn wn.length cn) wn by ((repeat' (first | with_reducible exact RN.out | with_reducible refine Rd.alloc ?_ _ | with_reducible refine Rd.drew ?_ | fail)); (first | done | fail))) HG1.out (by ((repeat' (first | with_reducible assumption | with_reducible exact Below.refl _ _ | with_reducible refine Below.drew ?_ | with_reducible refine Below.alloc ?_ (by first | omega | (simp; omega) | (simp; done) | fail) _ | with_reducible refine Below.setCell ?_ (by first | omega | (simp; omega) | (simp; done) | fail) _ | fail)); (first | done | fail)))).mono ?_); rintro e v2 ⟨nA, pA, cA, lA, eA, rfl, hRA, hCA, hv2, hx2⟩; have kX0_2 := below_cell hv2 cX2a; have kX1_2 := below_cell hv2 cX2b; have zv2 := hv2.size; (try (have hBox := Box2.keep (B := w2.heap.size) (a := (.bool false)) (b := (.slice none 0 0)) (by ((repeat' (first | with_reducible assumption | (with_reducible exact Hid.out ‹_›) | (with_reducible refine Box2.put0 _ _ ?_) | (with_reducible refine Box2.new _ _ _ _ ?_; (first | with_reducible rfl | (simp; done) | rfl)) | (with_reducible refine Box2.alloc ?_ _) | (with_reducible refine Box2.drew ?_) | (with_reducible refine Box2.set2 ?hn _ _ ?_; case hn => omega) | fail)); (first | done | fail))) hx2; obtain ⟨_, _, _, _, _, _, _, _⟩ := hBox.all)); (try (have hBox := Box2.keep (B := v1.heap.size) (a := (.bool false)) (b := (.slice none 0 0)) (by ((repeat' (first | with_reducible assumption | (with_reducible exact Hid.out ‹_›) | (with_reducible refine Box2.put0 _ _ ?_) | (with_reducible refine Box2.new _ _ _ _ ?_; (first | with_reducible rfl | (simp; done) | rfl)) | (with_reducible refine Box2.alloc ?_ _) | (with_reducible refine Box2.drew ?_) | (with_reducible refine Box2.set2 ?hn _ _ ?_; case hn => omega) | fail)); (first | done | fail))) hx2; obtain ⟨_, _, _, _, _, _, _, _⟩ := hBox.all)); have RA := Lib.hid hRA; have CA := Lib.hid hCA; clear hRA hCA hx2))
    all_goals (go_wp2_with fail)
    all_goals go_meet
    all_goals exact ⟨_, nA, pA, cA, lA, eA, rfl, rfl, ⟨by ((repeat' (first | with_reducible assumption | with_reducible exact Below.refl _ _ | with_reducible refine Below.drew ?_ | with_reducible refine Below.alloc ?_ (by first | omega | (simp; omega) | (simp; done) | fail) _ | with_reducible refine Below.setCell ?_ (by first | omega | (simp; omega) | (simp; done) | fail) _ | fail)); (first | done | fail)), by ((repeat' (first | with_reducible assumption | (with_reducible exact Hid.out ‹_›) | (with_reducible refine Box2.put0 _ _ ?_) | (with_reducible refine Box2.new _ _ _ _ ?_; (first | with_reducible rfl | (simp; done) | rfl)) | (with_reducible refine Box2.alloc ?_ _) | (with_reducible refine Box2.drew ?_) | (with_reducible refine Box2.set2 ?hn _ _ ?_; case hn => omega) | fail)); (first | done | fail)), by ((repeat' (first | with_reducible exact RA.out | (with_reducible refine Rd.putN ?hb _ _ ?_; case hb => ((repeat' (first | with_reducible assumption | (with_reducible exact Hid.out ‹_›) | (with_reducible refine Box2.put0 _ _ ?_) | (with_reducible refine Box2.new _ _ _ _ ?_; (first | with_reducible rfl | (simp; done) | rfl)) | (with_reducible refine Box2.alloc ?_ _) | (with_reducible refine Box2.drew ?_) | (with_reducible refine Box2.set2 ?hn _ _ ?_; case hn => omega) | fail)); (first | done | fail))) | with_reducible refine Rd.alloc ?_ _ | with_reducible refine Rd.drew ?_ | fail)); (first | done | fail)), CA.out⟩⟩
  case rest =>
    obtain ⟨bd, nd, pd, cd, ld, ed, rfl, rfl, hPR⟩ := hcut
    have HPRD := Lib.hid hPR
    have hb3 := hPR.below
    obtain ⟨w3, rfl⟩ : ∃ w3 : World, w3 = wc := ⟨_, rfl⟩
    clear hPR CO RX
    have HCD := Lib.hid HPRD.out.case
    have RWD3 := Lib.hid HPRD.out.r1
    have HD3 := Lib.hid HPRD.out.x1
    clear HPRD
    have HB3 := Lib.hid (HB2.out.trans (hb3.mono HB2.out.size))
    have HX3 := Lib.hid (HX2.out.keep hb3)
    clear cX2a  cX2b  cX2l  HX2 HB2 hb3 
    have cX3a := HX3.out.c0
    have cX3b := HX3.out.c1
    have cX3l := HX3.out.lt
    have cD3a := HD3.out.c0
    have cD3b := HD3.out.c1
    have cD3l := HD3.out.lt
    go_wp2_with fail
    have CO := Lib.hid (fun (wx : World) (hx : Below w3.heap.size w3 wx) => wofn_at (n := b) ⟨by omega, by omega⟩ hx)
    have RX := Lib.hid (HR1.out.keep HB3.out)
    go_cut [9, 10] (fun p q wx => ∃ bA nA pA cA lA eA, p = .pointer (some ⟨bA, 0, none⟩) ∧ q = .int .i64 eA ∧ PR w3 wx bA nA pA cA lA eA (BadCase))
    case first =>
      go_region_held3 (fun w' => w'.cell? ⟨w.heap.size, 0, none⟩ = some (.bool n1) ∧ w'.cell? ⟨w.heap.size, 1, none⟩ = some (u1))
        ((repeat' apply And.intro) <;> (repeat' (first | with_reducible assumption | with_reducible refine alloc_cell ?_ _ | (with_reducible refine cell_set2 ?_ ?_ _ _; · omega) | with_reducible refine drew_cell ?_)))
        (first
         | (go_at_call 17; (with_reducible refine (CO.out _ (by ((repeat' (first | with_reducible assumption | with_reducible exact Below.refl _ _ | with_reducible refine Below.drew ?_ | with_reducible refine Below.alloc ?_ (by first | omega | (simp; omega) | (simp; done) | fail) _ | with_reducible refine Below.setCell ?_ (by first | omega | (simp; omega) | (simp; done) | fail) _ | fail)); (first | done | fail)))).mono ?_); rintro e v1 ⟨nn, pn, cn, wn, rfl, hRn, hSn, hv1, hx1⟩; have kX0_1 := below_cell hv1 cX3a; have kX1_1 := below_cell hv1 cX3b; have zv1 := hv1.size; (try (have hBox := Box2.keep (B := w3.heap.size) (a := (.bool false)) (b := (.slice none 0 0)) (by ((repeat' (first | with_reducible assumption | (with_reducible exact Hid.out ‹_›) | (with_reducible refine Box2.put0 _ _ ?_) | (with_reducible refine Box2.new _ _ _ _ ?_; (first | with_reducible rfl | (simp; done) | rfl)) | (with_reducible refine Box2.alloc ?_ _) | (with_reducible refine Box2.drew ?_) | (with_reducible refine Box2.set2 ?hn _ _ ?_; case hn => omega) | fail)); (first | done | fail))) hx1; obtain ⟨_, _, _, _, _, _, _, _⟩ := hBox.all)); have RN := Lib.hid hRn; have SN := Lib.hid hSn; clear hRn hSn hx1)
         | (go_at_call 42; (with_reducible refine (powbad_at (W := w3) (RX.out.keep (by ((repeat' (first | with_reducible assumption | with_reducible exact Below.refl _ _ | with_reducible refine Below.drew ?_ | with_reducible refine Below.alloc ?_ (by first | omega | (simp; omega) | (simp; done) | fail) _ | with_reducible refine Below.setCell ?_ (by first | omega | (simp; omega) | (simp; done) | fail) _ | fail)); (first | done | fail)))) HF1.out (show Rd _ (.slice pn wn.length cn) wn by ((repeat' (first | with_reducible exact RN.out | with_reducible refine Rd.alloc ?_ _ | with_reducible refine Rd.drew ?_ | fail)); (first | done | fail))) HG1.out (by ((repeat' (first | with_reducible assumption | with_reducible exact Below.refl _ _ | with_reducible refine Below.drew ?_ | with_reducible refine Below.alloc ?_ (by first | omega | (simp; omega) | (simp; done) | fail) _ | with_reducible refine Below.setCell ?_ (by first | omega | (simp; omega) | (simp; done) | fail) _ | fail)); (first | done | fail)))).mono ?_); rintro e v2 ⟨nA, pA, cA, lA, eA, rfl, hRA, hCA, hv2, hx2⟩; have kX0_2 := below_cell hv2 cX3a; have kX1_2 := below_cell hv2 cX3b; have zv2 := hv2.size; (try (have hBox := Box2.keep (B := w3.heap.size) (a := (.bool false)) (b := (.slice none 0 0)) (by ((repeat' (first | with_reducible assumption | (with_reducible exact Hid.out ‹_›) | (with_reducible refine Box2.put0 _ _ ?_) | (with_reducible refine Box2.new _ _ _ _ ?_; (first | with_reducible rfl | (simp; done) | rfl)) | (with_reducible refine Box2.alloc ?_ _) | (with_reducible refine Box2.drew ?_) | (with_reducible refine Box2.set2 ?hn _ _ ?_; case hn => omega) | fail)); (first | done | fail))) hx2; obtain ⟨_, _, _, _, _, _, _, _⟩ := hBox.all)); (try (have hBox := Box2.keep (B := v1.heap.size) (a := (.bool false)) (b := (.slice none 0 0)) (by ((repeat' (first | with_reducible assumption | (with_reducible exact Hid.out ‹_›) | (with_reducible refine Box2.put0 _ _ ?_) | (with_reducible refine Box2.new _ _ _ _ ?_; (first | with_reducible rfl | (simp; done) | rfl)) | (with_reducible refine Box2.alloc ?_ _) | (with_reducible refine Box2.drew ?_) | (with_reducible refine Box2.set2 ?hn _ _ ?_; case hn => omega) | fail)); (first | done | fail))) hx2; obtain ⟨_, _, _, _, _, _, _, _⟩ := hBox.all)); have RA := Lib.hid hRA; have CA := Lib.hid hCA; clear hRA hCA hx2))
      all_goals (go_wp2_with fail)
      all_goals go_meet
      all_goals exact ⟨_, nA, pA, cA, lA, eA, rfl, rfl, ⟨by ((repeat' (first | with_reducible assumption | with_reducible exact Below.refl _ _ | with_reducible refine Below.drew ?_ | with_reducible refine Below.alloc ?_ (by first | omega | (simp; omega) | (simp; done) | fail) _ | with_reducible refine Below.setCell ?_ (by first | omega | (simp; omega) | (simp; done) | fail) _ | fail)); (first | done | fail)), by ((repeat' (first | with_reducible assumption | (with_reducible exact Hid.out ‹_›) | (with_reducible refine Box2.put0 _ _ ?_) | (with_reducible refine Box2.new _ _ _ _ ?_; (first | with_reducible rfl | (simp; done) | rfl)) | (with_reducible refine Box2.alloc ?_ _) | (with_reducible refine Box2.drew ?_) | (with_reducible refine Box2.set2 ?hn _ _ ?_; case hn => omega) | fail)); (first | done | fail)), by ((repeat' (first | with_reducible exact RA.out | (with_reducible refine Rd.putN ?hb _ _ ?_; case hb => ((repeat' (first | with_reducible assumption | (with_reducible exact Hid.out ‹_›) | (with_reducible refine Box2.put0 _ _ ?_) | (with_reducible refine Box2.new _ _ _ _ ?_; (first | with_reducible rfl | (simp; done) | rfl)) | (with_reducible refine Box2.alloc ?_ _) | (with_reducible refine Box2.drew ?_) | (with_reducible refine Box2.set2 ?hn _ _ ?_; case hn => omega) | fail)); (first | done | fail))) | with_reducible refine Rd.alloc ?_ _ | with_reducible refine Rd.drew ?_ | fail)); (first | done | fail)), CA.out⟩⟩
    case rest =>
      obtain ⟨be, ne, pe, ce, le, ee, rfl, rfl, hPR⟩ := hcut
      have HPRE := Lib.hid hPR
      have hb4 := hPR.below
      obtain ⟨w4, rfl⟩ : ∃ w4 : World, w4 = wc := ⟨_, rfl⟩
      clear hPR CO RX
      have HCE := Lib.hid HPRE.out.case
      have RWE4 := Lib.hid HPRE.out.r1
      have HE4 := Lib.hid HPRE.out.x1
      clear HPRE
      have HB4 := Lib.hid (HB3.out.trans (hb4.mono HB3.out.size))
      have HX4 := Lib.hid (HX3.out.keep hb4)
      have HD4 := Lib.hid (HD3.out.keep hb4)
      have RWD4 := Lib.hid (RWD3.out.keep hb4)
      clear cX3a  cX3b  cX3l  cD3a  cD3b  cD3l  HX3 HD3 RWD3 HB3 hb4 
      have cX4a := HX4.out.c0
      have cX4b := HX4.out.c1
      have cX4l := HX4.out.lt
      have cD4a := HD4.out.c0
      have cD4b := HD4.out.c1
      have cD4l := HD4.out.lt
      have cE4a := HE4.out.c0
      have cE4b := HE4.out.c1
      have cE4l := HE4.out.lt
      go_wp2_with fail
      have CO := Lib.hid (fun (wx : World) (hx : Below w4.heap.size w4 wx) => wofn_at (n := a + b) ⟨by omega, by omega⟩ hx)
      have RX := Lib.hid (HR1.out.keep HB4.out)
      go_cut [11, 12] (fun p q wx => ∃ bA nA pA cA lA eA, p = .pointer (some ⟨bA, 0, none⟩) ∧ q = .int .i64 eA ∧ PR w4 wx bA nA pA cA lA eA (BadCase))
      case first =>
        go_region_held3 (fun w' => w'.cell? ⟨w.heap.size, 0, none⟩ = some (.bool n1) ∧ w'.cell? ⟨w.heap.size, 1, none⟩ = some (u1))
          ((repeat' apply And.intro) <;> (repeat' (first | with_reducible assumption | with_reducible refine alloc_cell ?_ _ | (with_reducible refine cell_set2 ?_ ?_ _ _; · omega) | with_reducible refine drew_cell ?_)))
          (first
           | (go_at_call 17; (with_reducible refine (CO.out _ (by ((repeat' (first | with_reducible assumption | with_reducible exact Below.refl _ _ | with_reducible refine Below.drew ?_ | with_reducible refine Below.alloc ?_ (by first | omega | (simp; omega) | (simp; done) | fail) _ | with_reducible refine Below.setCell ?_ (by first | omega | (simp; omega) | (simp; done) | fail) _ | fail)); (first | done | fail)))).mono ?_); rintro e v1 ⟨nn, pn, cn, wn, rfl, hRn, hSn, hv1, hx1⟩; have kX0_1 := below_cell hv1 cX4a; have kX1_1 := below_cell hv1 cX4b; have zv1 := hv1.size; (try (have hBox := Box2.keep (B := w4.heap.size) (a := (.bool false)) (b := (.slice none 0 0)) (by ((repeat' (first | with_reducible assumption | (with_reducible exact Hid.out ‹_›) | (with_reducible refine Box2.put0 _ _ ?_) | (with_reducible refine Box2.new _ _ _ _ ?_; (first | with_reducible rfl | (simp; done) | rfl)) | (with_reducible refine Box2.alloc ?_ _) | (with_reducible refine Box2.drew ?_) | (with_reducible refine Box2.set2 ?hn _ _ ?_; case hn => omega) | fail)); (first | done | fail))) hx1; obtain ⟨_, _, _, _, _, _, _, _⟩ := hBox.all)); have RN := Lib.hid hRn; have SN := Lib.hid hSn; clear hRn hSn hx1)
           | (go_at_call 42; (with_reducible refine (powbad_at (W := w4) (RX.out.keep (by ((repeat' (first | with_reducible assumption | with_reducible exact Below.refl _ _ | with_reducible refine Below.drew ?_ | with_reducible refine Below.alloc ?_ (by first | omega | (simp; omega) | (simp; done) | fail) _ | with_reducible refine Below.setCell ?_ (by first | omega | (simp; omega) | (simp; done) | fail) _ | fail)); (first | done | fail)))) HF1.out (show Rd _ (.slice pn wn.length cn) wn by ((repeat' (first | with_reducible exact RN.out | with_reducible refine Rd.alloc ?_ _ | with_reducible refine Rd.drew ?_ | fail)); (first | done | fail))) HG1.out (by ((repeat' (first | with_reducible assumption | with_reducible exact Below.refl _ _ | with_reducible refine Below.drew ?_ | with_reducible refine Below.alloc ?_ (by first | omega | (simp; omega) | (simp; done) | fail) _ | with_reducible refine Below.setCell ?_ (by first | omega | (simp; omega) | (simp; done) | fail) _ | fail)); (first | done | fail)))).mono ?_); rintro e v2 ⟨nA, pA, cA, lA, eA, rfl, hRA, hCA, hv2, hx2⟩; have kX0_2 := below_cell hv2 cX4a; have kX1_2 := below_cell hv2 cX4b; have zv2 := hv2.size; (try (have hBox := Box2.keep (B := w4.heap.size) (a := (.bool false)) (b := (.slice none 0 0)) (by ((repeat' (first | with_reducible assumption | (with_reducible exact Hid.out ‹_›) | (with_reducible refine Box2.put0 _ _ ?_) | (with_reducible refine Box2.new _ _ _ _ ?_; (first | with_reducible rfl | (simp; done) | rfl)) | (with_reducible refine Box2.alloc ?_ _) | (with_reducible refine Box2.drew ?_) | (with_reducible refine Box2.set2 ?hn _ _ ?_; case hn => omega) | fail)); (first | done | fail))) hx2; obtain ⟨_, _, _, _, _, _, _, _⟩ := hBox.all)); (try (have hBox := Box2.keep (B := v1.heap.size) (a := (.bool false)) (b := (.slice none 0 0)) (by ((repeat' (first | with_reducible assumption | (with_reducible exact Hid.out ‹_›) | (with_reducible refine Box2.put0 _ _ ?_) | (with_reducible refine Box2.new _ _ _ _ ?_; (first | with_reducible rfl | (simp; done) | rfl)) | (with_reducible refine Box2.alloc ?_ _) | (with_reducible refine Box2.drew ?_) | (with_reducible refine Box2.set2 ?hn _ _ ?_; case hn => omega) | fail)); (first | done | fail))) hx2; obtain ⟨_, _, _, _, _, _, _, _⟩ := hBox.all)); have RA := Lib.hid hRA; have CA := Lib.hid hCA; clear hRA hCA hx2))
        all_goals (go_wp2_with fail)
        all_goals go_meet
        all_goals exact ⟨_, nA, pA, cA, lA, eA, rfl, rfl, ⟨by ((repeat' (first | with_reducible assumption | with_reducible exact Below.refl _ _ | with_reducible refine Below.drew ?_ | with_reducible refine Below.alloc ?_ (by first | omega | (simp; omega) | (simp; done) | fail) _ | with_reducible refine Below.setCell ?_ (by first | omega | (simp; omega) | (simp; done) | fail) _ | fail)); (first | done | fail)), by ((repeat' (first | with_reducible assumption | (with_reducible exact Hid.out ‹_›) | (with_reducible refine Box2.put0 _ _ ?_) | (with_reducible refine Box2.new _ _ _ _ ?_; (first | with_reducible rfl | (simp; done) | rfl)) | (with_reducible refine Box2.alloc ?_ _) | (with_reducible refine Box2.drew ?_) | (with_reducible refine Box2.set2 ?hn _ _ ?_; case hn => omega) | fail)); (first | done | fail)), by ((repeat' (first | with_reducible exact RA.out | (with_reducible refine Rd.putN ?hb _ _ ?_; case hb => ((repeat' (first | with_reducible assumption | (with_reducible exact Hid.out ‹_›) | (with_reducible refine Box2.put0 _ _ ?_) | (with_reducible refine Box2.new _ _ _ _ ?_; (first | with_reducible rfl | (simp; done) | rfl)) | (with_reducible refine Box2.alloc ?_ _) | (with_reducible refine Box2.drew ?_) | (with_reducible refine Box2.set2 ?hn _ _ ?_; case hn => omega) | fail)); (first | done | fail))) | with_reducible refine Rd.alloc ?_ _ | with_reducible refine Rd.drew ?_ | fail)); (first | done | fail)), CA.out⟩⟩
      case rest =>
        obtain ⟨bt, nt, pt, ct, lt, et, rfl, rfl, hPR⟩ := hcut
        have HPRT := Lib.hid hPR
        have hb5 := hPR.below
        obtain ⟨w5, rfl⟩ : ∃ w5 : World, w5 = wc := ⟨_, rfl⟩
        clear hPR CO RX
        have HCT := Lib.hid HPRT.out.case
        have RWT5 := Lib.hid HPRT.out.r1
        have HT5 := Lib.hid HPRT.out.x1
        clear HPRT
        have HB5 := Lib.hid (HB4.out.trans (hb5.mono HB4.out.size))
        have HX5 := Lib.hid (HX4.out.keep hb5)
        have HD5 := Lib.hid (HD4.out.keep hb5)
        have HE5 := Lib.hid (HE4.out.keep hb5)
        have RWD5 := Lib.hid (RWD4.out.keep hb5)
        have RWE5 := Lib.hid (RWE4.out.keep hb5)
        clear cX4a  cX4b  cX4l  cD4a  cD4b  cD4l  cE4a  cE4b  cE4l  HX4 HD4 HE4 RWD4 RWE4 HB4 hb5 
        have cX5a := HX5.out.c0
        have cX5b := HX5.out.c1
        have cX5l := HX5.out.lt
        have cD5a := HD5.out.c0
        have cD5b := HD5.out.c1
        have cD5l := HD5.out.lt
        have cE5a := HE5.out.c0
        have cE5b := HE5.out.c1
        have cE5l := HE5.out.lt
        have cT5a := HT5.out.c0
        have cT5b := HT5.out.c1
        have cT5l := HT5.out.lt
        go_wp2_with fail
        obtain ⟨_, _, rfl⟩ := HCD.out
        obtain ⟨_, _, rfl⟩ := HCE.out
        obtain ⟨_, _, rfl⟩ := HCT.out
        refine (show Calls _ _ _ _ (BoolPost w5 false) by have h := refgood_any n1 u1 xs w5 (HR1.out.keep HB5.out) HF1.out; rwa [HG1.out] at h).mono ?_
        rintro e w6 ⟨rfl, hb6⟩
        have HB6 := Lib.hid (HB5.out.trans (hb6.mono HB5.out.size))
        have HX6 := Lib.hid (HX5.out.keep hb6)
        have HD6 := Lib.hid (HD5.out.keep hb6)
        have HE6 := Lib.hid (HE5.out.keep hb6)
        have HT6 := Lib.hid (HT5.out.keep hb6)
        have RWD6 := Lib.hid (RWD5.out.keep hb6)
        have RWE6 := Lib.hid (RWE5.out.keep hb6)
        have RWT6 := Lib.hid (RWT5.out.keep hb6)
        clear cX5a  cX5b  cX5l  cD5a  cD5b  cD5l  cE5a  cE5b  cE5l  cT5a  cT5b  cT5l  HX5 HD5 HE5 HT5 RWD5 RWE5 RWT5 HB5 hb6 
        have cX6a := HX6.out.c0
        have cX6b := HX6.out.c1
        have cX6l := HX6.out.lt
        have cD6a := HD6.out.c0
        have cD6b := HD6.out.c1
        have cD6l := HD6.out.lt
        have cE6a := HE6.out.c0
        have cE6b := HE6.out.c1
        have cE6l := HE6.out.lt
        have cT6a := HT6.out.c0
        have cT6b := HT6.out.c1
        have cT6l := HT6.out.lt
        go_wp2_with fail
        go_ret
        exact ⟨rfl, HB6.out⟩
set_option maxRecDepth 100000 in
set_option maxHeartbeats 16000000 in
theorem exps_good (n1 : Bool) (u1 : Value) (xs : List Int) (i : Int) (j : Int) (w : World) (hr1 : Rd w u1 xs) (hf1 : Fit xs) (hg1 : goodB n1 xs = true) (hi : I64 i) (hj : I64 j) :
    Calls Tryd.prog 11 #[.agg #[.bool n1, u1], .int .i64 i, .int .i64 j] w (BoolPost w true) := by
  have HR1 := Lib.hid hr1
  have HF1 := Lib.hid hf1
  have HG1 := Lib.hid hg1
  have hai := and31 i
  have haj := and31 j
  have HS1 := Lib.hid (goodB_sgn hg1 hf1)
  obtain ⟨a, hae⟩ : ∃ a, i % 32 = a := ⟨_, rfl⟩
  obtain ⟨b, hbe⟩ : ∃ b, j % 32 = b := ⟨_, rfl⟩
  have ha : 0 ≤ a ∧ a < 32 := by omega
  have hb : 0 ≤ b ∧ b < 32 := by omega
  rw [hae] at hai
  rw [hbe] at haj
  have hwab : IntKind.i64.wrap (a + b) = a + b := by rw [IntKind.wrap_i64]; omega
  clear hae hbe hi hj hg1
  clear hr1 hf1
  go_enter Tryd.func11, Tryd.ntmps11
  go_wp2_with fail
  generalize hw1 : World.alloc w _ = w1
  have HB1 := Lib.hid (show Below w.heap.size w w1 by rw [← hw1]; exact ((Below.refl _ _).alloc (by first | exact Nat.le_refl _ | (simp; done) | (simp; omega)) _))
  have HX1 := Lib.hid (show Box2 w1 (w.heap.size) (.bool n1) u1 by rw [← hw1]; exact (Box2.new _ _ _ _ rfl))
  clear hw1
  have cX1a := HX1.out.c0
  have cX1b := HX1.out.c1
  have cX1l := HX1.out.lt
  refine (known_true w1).mono ?_
  rintro e w2 ⟨rfl, hb2⟩
  have HB2 := Lib.hid (HB1.out.trans (hb2.mono HB1.out.size))
  have HX2 := Lib.hid (HX1.out.keep hb2)
  clear cX1a  cX1b  cX1l  HX1 HB1 hb2 
  have cX2a := HX2.out.c0
  have cX2b := HX2.out.c1
  have cX2l := HX2.out.lt
  go_wp2_with fail
  have CO := Lib.hid (fun (wx : World) (hx : Below w2.heap.size w2 wx) => wofn_at (n := a) ⟨by omega, by omega⟩ hx)
  have RX := Lib.hid (HR1.out.keep HB2.out)
  go_cut [7, 8] (fun p q wx => ∃ bA nA pA cA lA eA, p = .pointer (some ⟨bA, 0, none⟩) ∧ q = .int .i64 eA ∧ PR w2 wx bA nA pA cA lA eA (ResCase (sg n1 (val B18 xs) ^ Int.toNat (a))))
  case first =>
    go_region_held3 (fun w' => w'.cell? ⟨w.heap.size, 0, none⟩ = some (.bool n1) ∧ w'.cell? ⟨w.heap.size, 1, none⟩ = some (u1))
      ((repeat' apply And.intro) <;> (repeat' (first | with_reducible assumption | with_reducible refine alloc_cell ?_ _ | (with_reducible refine cell_set2 ?_ ?_ _ _; · omega) | with_reducible refine drew_cell ?_)))
      (first
       | (go_at_call 17; (with_reducible refine (CO.out _ (by ((repeat' (first | with_reducible assumption | with_reducible exact Below.refl _ _ | with_reducible refine Below.drew ?_ | with_reducible refine Below.alloc ?_ (by first | omega | (simp; omega) | (simp; done) | fail) _ | with_reducible refine Below.setCell ?_ (by first | omega | (simp; omega) | (simp; done) | fail) _ | fail)); (first | done | fail)))).mono ?_); rintro e v1 ⟨nn, pn, cn, wn, rfl, hRn, hSn, hv1, hx1⟩; have kX0_1 := below_cell hv1 cX2a; have kX1_1 := below_cell hv1 cX2b; have zv1 := hv1.size; (try (have hBox := Box2.keep (B := w2.heap.size) (a := (.bool false)) (b := (.slice none 0 0)) (by ((repeat' (first | with_reducible assumption | (with_reducible exact Hid.out ‹_›) | (with_reducible refine Box2.put0 _ _ ?_) | (with_reducible refine Box2.new _ _ _ _ ?_; (first | with_reducible rfl | (simp; done) | rfl)) | (with_reducible refine Box2.alloc ?_ _) | (with_reducible refine Box2.drew ?_) | (with_reducible refine Box2.set2 ?hn _ _ ?_; case hn => omega) | fail)); (first | done | fail))) hx1; obtain ⟨_, _, _, _, _, _, _, _⟩ := hBox.all)); have RN := Lib.hid hRn; have SN := Lib.hid hSn; clear hRn hSn hx1)
       | (go_at_call 42; (with_reducible refine (pow_at (W := w2) (z2 := a) (RX.out.keep (by ((repeat' (first | with_reducible assumption | with_reducible exact Below.refl _ _ | with_reducible refine Below.drew ?_ | with_reducible refine Below.alloc ?_ (by first | omega | (simp; omega) | (simp; done) | fail) _ | with_reducible refine Below.setCell ?_ (by first | omega | (simp; omega) | (simp; done) | fail) _ | fail)); (first | done | fail)))) (show Rd _ (.slice pn wn.length cn) wn by ((repeat' (first | with_reducible exact RN.out | with_reducible refine Rd.alloc ?_ _ | with_reducible refine Rd.drew ?_ | fail)); (first | done | fail))) HS1.out.1 SN.out HS1.out.2 (SN.out.small.2 (I64.small ⟨by omega, by omega⟩)) (by omega) (by ((repeat' (first | with_reducible assumption | with_reducible exact Below.refl _ _ | with_reducible refine Below.drew ?_ | with_reducible refine Below.alloc ?_ (by first | omega | (simp; omega) | (simp; done) | fail) _ | with_reducible refine Below.setCell ?_ (by first | omega | (simp; omega) | (simp; done) | fail) _ | fail)); (first | done | fail)))).mono ?_); rintro e v2 ⟨nA, pA, cA, lA, eA, rfl, hRA, hCA, hv2, hx2⟩; have kX0_2 := below_cell hv2 cX2a; have kX1_2 := below_cell hv2 cX2b; have zv2 := hv2.size; (try (have hBox := Box2.keep (B := w2.heap.size) (a := (.bool false)) (b := (.slice none 0 0)) (by ((repeat' (first | with_reducible assumption | (with_reducible exact Hid.out ‹_›) | (with_reducible refine Box2.put0 _ _ ?_) | (with_reducible refine Box2.new _ _ _ _ ?_; (first | with_reducible rfl | (simp; done) | rfl)) | (with_reducible refine Box2.alloc ?_ _) | (with_reducible refine Box2.drew ?_) | (with_reducible refine Box2.set2 ?hn _ _ ?_; case hn => omega) | fail)); (first | done | fail))) hx2; obtain ⟨_, _, _, _, _, _, _, _⟩ := hBox.all)); (try (have hBox := Box2.keep (B := v1.heap.size) (a := (.bool false)) (b := (.slice none 0 0)) (by ((repeat' (first | with_reducible assumption | (with_reducible exact Hid.out ‹_›) | (with_reducible refine Box2.put0 _ _ ?_) | (with_reducible refine Box2.new _ _ _ _ ?_; (first | with_reducible rfl | (simp; done) | rfl)) | (with_reducible refine Box2.alloc ?_ _) | (with_reducible refine Box2.drew ?_) | (with_reducible refine Box2.set2 ?hn _ _ ?_; case hn => omega) | fail)); (first | done | fail))) hx2; obtain ⟨_, _, _, _, _, _, _, _⟩ := hBox.all)); have RA := Lib.hid hRA; have CA := Lib.hid hCA; clear hRA hCA hx2))
    all_goals (go_wp2_with fail)
    all_goals go_meet
    all_goals exact ⟨_, nA, pA, cA, lA, eA, rfl, rfl, ⟨by ((repeat' (first | with_reducible assumption | with_reducible exact Below.refl _ _ | with_reducible refine Below.drew ?_ | with_reducible refine Below.alloc ?_ (by first | omega | (simp; omega) | (simp; done) | fail) _ | with_reducible refine Below.setCell ?_ (by first | omega | (simp; omega) | (simp; done) | fail) _ | fail)); (first | done | fail)), by ((repeat' (first | with_reducible assumption | (with_reducible exact Hid.out ‹_›) | (with_reducible refine Box2.put0 _ _ ?_) | (with_reducible refine Box2.new _ _ _ _ ?_; (first | with_reducible rfl | (simp; done) | rfl)) | (with_reducible refine Box2.alloc ?_ _) | (with_reducible refine Box2.drew ?_) | (with_reducible refine Box2.set2 ?hn _ _ ?_; case hn => omega) | fail)); (first | done | fail)), by ((repeat' (first | with_reducible exact RA.out | (with_reducible refine Rd.putN ?hb _ _ ?_; case hb => ((repeat' (first | with_reducible assumption | (with_reducible exact Hid.out ‹_›) | (with_reducible refine Box2.put0 _ _ ?_) | (with_reducible refine Box2.new _ _ _ _ ?_; (first | with_reducible rfl | (simp; done) | rfl)) | (with_reducible refine Box2.alloc ?_ _) | (with_reducible refine Box2.drew ?_) | (with_reducible refine Box2.set2 ?hn _ _ ?_; case hn => omega) | fail)); (first | done | fail))) | with_reducible refine Rd.alloc ?_ _ | with_reducible refine Rd.drew ?_ | fail)); (first | done | fail)), CA.out⟩⟩
  case rest =>
    obtain ⟨bd, nd, pd, cd, ld, ed, rfl, rfl, hPR⟩ := hcut
    have HPRD := Lib.hid hPR
    have hb3 := hPR.below
    obtain ⟨w3, rfl⟩ : ∃ w3 : World, w3 = wc := ⟨_, rfl⟩
    clear hPR CO RX
    have HCD := Lib.hid HPRD.out.case
    have RWD3 := Lib.hid HPRD.out.r1
    have HD3 := Lib.hid HPRD.out.x1
    clear HPRD
    have HB3 := Lib.hid (HB2.out.trans (hb3.mono HB2.out.size))
    have HX3 := Lib.hid (HX2.out.keep hb3)
    clear cX2a  cX2b  cX2l  HX2 HB2 hb3 
    have cX3a := HX3.out.c0
    have cX3b := HX3.out.c1
    have cX3l := HX3.out.lt
    have cD3a := HD3.out.c0
    have cD3b := HD3.out.c1
    have cD3l := HD3.out.lt
    go_wp2_with fail
    have CO := Lib.hid (fun (wx : World) (hx : Below w3.heap.size w3 wx) => wofn_at (n := b) ⟨by omega, by omega⟩ hx)
    have RX := Lib.hid (HR1.out.keep HB3.out)
    go_cut [9, 10] (fun p q wx => ∃ bA nA pA cA lA eA, p = .pointer (some ⟨bA, 0, none⟩) ∧ q = .int .i64 eA ∧ PR w3 wx bA nA pA cA lA eA (ResCase (sg n1 (val B18 xs) ^ Int.toNat (b))))
    case first =>
      go_region_held3 (fun w' => w'.cell? ⟨w.heap.size, 0, none⟩ = some (.bool n1) ∧ w'.cell? ⟨w.heap.size, 1, none⟩ = some (u1))
        ((repeat' apply And.intro) <;> (repeat' (first | with_reducible assumption | with_reducible refine alloc_cell ?_ _ | (with_reducible refine cell_set2 ?_ ?_ _ _; · omega) | with_reducible refine drew_cell ?_)))
        (first
         | (go_at_call 17; (with_reducible refine (CO.out _ (by ((repeat' (first | with_reducible assumption | with_reducible exact Below.refl _ _ | with_reducible refine Below.drew ?_ | with_reducible refine Below.alloc ?_ (by first | omega | (simp; omega) | (simp; done) | fail) _ | with_reducible refine Below.setCell ?_ (by first | omega | (simp; omega) | (simp; done) | fail) _ | fail)); (first | done | fail)))).mono ?_); rintro e v1 ⟨nn, pn, cn, wn, rfl, hRn, hSn, hv1, hx1⟩; have kX0_1 := below_cell hv1 cX3a; have kX1_1 := below_cell hv1 cX3b; have zv1 := hv1.size; (try (have hBox := Box2.keep (B := w3.heap.size) (a := (.bool false)) (b := (.slice none 0 0)) (by ((repeat' (first | with_reducible assumption | (with_reducible exact Hid.out ‹_›) | (with_reducible refine Box2.put0 _ _ ?_) | (with_reducible refine Box2.new _ _ _ _ ?_; (first | with_reducible rfl | (simp; done) | rfl)) | (with_reducible refine Box2.alloc ?_ _) | (with_reducible refine Box2.drew ?_) | (with_reducible refine Box2.set2 ?hn _ _ ?_; case hn => omega) | fail)); (first | done | fail))) hx1; obtain ⟨_, _, _, _, _, _, _, _⟩ := hBox.all)); have RN := Lib.hid hRn; have SN := Lib.hid hSn; clear hRn hSn hx1)
         | (go_at_call 42; (with_reducible refine (pow_at (W := w3) (z2 := b) (RX.out.keep (by ((repeat' (first | with_reducible assumption | with_reducible exact Below.refl _ _ | with_reducible refine Below.drew ?_ | with_reducible refine Below.alloc ?_ (by first | omega | (simp; omega) | (simp; done) | fail) _ | with_reducible refine Below.setCell ?_ (by first | omega | (simp; omega) | (simp; done) | fail) _ | fail)); (first | done | fail)))) (show Rd _ (.slice pn wn.length cn) wn by ((repeat' (first | with_reducible exact RN.out | with_reducible refine Rd.alloc ?_ _ | with_reducible refine Rd.drew ?_ | fail)); (first | done | fail))) HS1.out.1 SN.out HS1.out.2 (SN.out.small.2 (I64.small ⟨by omega, by omega⟩)) (by omega) (by ((repeat' (first | with_reducible assumption | with_reducible exact Below.refl _ _ | with_reducible refine Below.drew ?_ | with_reducible refine Below.alloc ?_ (by first | omega | (simp; omega) | (simp; done) | fail) _ | with_reducible refine Below.setCell ?_ (by first | omega | (simp; omega) | (simp; done) | fail) _ | fail)); (first | done | fail)))).mono ?_); rintro e v2 ⟨nA, pA, cA, lA, eA, rfl, hRA, hCA, hv2, hx2⟩; have kX0_2 := below_cell hv2 cX3a; have kX1_2 := below_cell hv2 cX3b; have zv2 := hv2.size; (try (have hBox := Box2.keep (B := w3.heap.size) (a := (.bool false)) (b := (.slice none 0 0)) (by ((repeat' (first | with_reducible assumption | (with_reducible exact Hid.out ‹_›) | (with_reducible refine Box2.put0 _ _ ?_) | (with_reducible refine Box2.new _ _ _ _ ?_; (first | with_reducible rfl | (simp; done) | rfl)) | (with_reducible refine Box2.alloc ?_ _) | (with_reducible refine Box2.drew ?_) | (with_reducible refine Box2.set2 ?hn _ _ ?_; case hn => omega) | fail)); (first | done | fail))) hx2; obtain ⟨_, _, _, _, _, _, _, _⟩ := hBox.all)); (try (have hBox := Box2.keep (B := v1.heap.size) (a := (.bool false)) (b := (.slice none 0 0)) (by ((repeat' (first | with_reducible assumption | (with_reducible exact Hid.out ‹_›) | (with_reducible refine Box2.put0 _ _ ?_) | (with_reducible refine Box2.new _ _ _ _ ?_; (first | with_reducible rfl | (simp; done) | rfl)) | (with_reducible refine Box2.alloc ?_ _) | (with_reducible refine Box2.drew ?_) | (with_reducible refine Box2.set2 ?hn _ _ ?_; case hn => omega) | fail)); (first | done | fail))) hx2; obtain ⟨_, _, _, _, _, _, _, _⟩ := hBox.all)); have RA := Lib.hid hRA; have CA := Lib.hid hCA; clear hRA hCA hx2))
      all_goals (go_wp2_with fail)
      all_goals go_meet
      all_goals exact ⟨_, nA, pA, cA, lA, eA, rfl, rfl, ⟨by ((repeat' (first | with_reducible assumption | with_reducible exact Below.refl _ _ | with_reducible refine Below.drew ?_ | with_reducible refine Below.alloc ?_ (by first | omega | (simp; omega) | (simp; done) | fail) _ | with_reducible refine Below.setCell ?_ (by first | omega | (simp; omega) | (simp; done) | fail) _ | fail)); (first | done | fail)), by ((repeat' (first | with_reducible assumption | (with_reducible exact Hid.out ‹_›) | (with_reducible refine Box2.put0 _ _ ?_) | (with_reducible refine Box2.new _ _ _ _ ?_; (first | with_reducible rfl | (simp; done) | rfl)) | (with_reducible refine Box2.alloc ?_ _) | (with_reducible refine Box2.drew ?_) | (with_reducible refine Box2.set2 ?hn _ _ ?_; case hn => omega) | fail)); (first | done | fail)), by ((repeat' (first | with_reducible exact RA.out | (with_reducible refine Rd.putN ?hb _ _ ?_; case hb => ((repeat' (first | with_reducible assumption | (with_reducible exact Hid.out ‹_›) | (with_reducible refine Box2.put0 _ _ ?_) | (with_reducible refine Box2.new _ _ _ _ ?_; (first | with_reducible rfl | (simp; done) | rfl)) | (with_reducible refine Box2.alloc ?_ _) | (with_reducible refine Box2.drew ?_) | (with_reducible refine Box2.set2 ?hn _ _ ?_; case hn => omega) | fail)); (first | done | fail))) | with_reducible refine Rd.alloc ?_ _ | with_reducible refine Rd.drew ?_ | fail)); (first | done | fail)), CA.out⟩⟩
    case rest =>
      obtain ⟨be, ne, pe, ce, le, ee, rfl, rfl, hPR⟩ := hcut
      have HPRE := Lib.hid hPR
      have hb4 := hPR.below
      obtain ⟨w4, rfl⟩ : ∃ w4 : World, w4 = wc := ⟨_, rfl⟩
      clear hPR CO RX
      have HCE := Lib.hid HPRE.out.case
      have RWE4 := Lib.hid HPRE.out.r1
      have HE4 := Lib.hid HPRE.out.x1
      clear HPRE
      have HB4 := Lib.hid (HB3.out.trans (hb4.mono HB3.out.size))
      have HX4 := Lib.hid (HX3.out.keep hb4)
      have HD4 := Lib.hid (HD3.out.keep hb4)
      have RWD4 := Lib.hid (RWD3.out.keep hb4)
      clear cX3a  cX3b  cX3l  cD3a  cD3b  cD3l  HX3 HD3 RWD3 HB3 hb4 
      have cX4a := HX4.out.c0
      have cX4b := HX4.out.c1
      have cX4l := HX4.out.lt
      have cD4a := HD4.out.c0
      have cD4b := HD4.out.c1
      have cD4l := HD4.out.lt
      have cE4a := HE4.out.c0
      have cE4b := HE4.out.c1
      have cE4l := HE4.out.lt
      go_wp2_with fail
      have CO := Lib.hid (fun (wx : World) (hx : Below w4.heap.size w4 wx) => wofn_at (n := a + b) ⟨by omega, by omega⟩ hx)
      have RX := Lib.hid (HR1.out.keep HB4.out)
      go_cut [11, 12] (fun p q wx => ∃ bA nA pA cA lA eA, p = .pointer (some ⟨bA, 0, none⟩) ∧ q = .int .i64 eA ∧ PR w4 wx bA nA pA cA lA eA (ResCase (sg n1 (val B18 xs) ^ Int.toNat (a + b))))
      case first =>
        go_region_held3 (fun w' => w'.cell? ⟨w.heap.size, 0, none⟩ = some (.bool n1) ∧ w'.cell? ⟨w.heap.size, 1, none⟩ = some (u1))
          ((repeat' apply And.intro) <;> (repeat' (first | with_reducible assumption | with_reducible refine alloc_cell ?_ _ | (with_reducible refine cell_set2 ?_ ?_ _ _; · omega) | with_reducible refine drew_cell ?_)))
          (first
           | (go_at_call 17; (with_reducible refine (CO.out _ (by ((repeat' (first | with_reducible assumption | with_reducible exact Below.refl _ _ | with_reducible refine Below.drew ?_ | with_reducible refine Below.alloc ?_ (by first | omega | (simp; omega) | (simp; done) | fail) _ | with_reducible refine Below.setCell ?_ (by first | omega | (simp; omega) | (simp; done) | fail) _ | fail)); (first | done | fail)))).mono ?_); rintro e v1 ⟨nn, pn, cn, wn, rfl, hRn, hSn, hv1, hx1⟩; have kX0_1 := below_cell hv1 cX4a; have kX1_1 := below_cell hv1 cX4b; have zv1 := hv1.size; (try (have hBox := Box2.keep (B := w4.heap.size) (a := (.bool false)) (b := (.slice none 0 0)) (by ((repeat' (first | with_reducible assumption | (with_reducible exact Hid.out ‹_›) | (with_reducible refine Box2.put0 _ _ ?_) | (with_reducible refine Box2.new _ _ _ _ ?_; (first | with_reducible rfl | (simp; done) | rfl)) | (with_reducible refine Box2.alloc ?_ _) | (with_reducible refine Box2.drew ?_) | (with_reducible refine Box2.set2 ?hn _ _ ?_; case hn => omega) | fail)); (first | done | fail))) hx1; obtain ⟨_, _, _, _, _, _, _, _⟩ := hBox.all)); have RN := Lib.hid hRn; have SN := Lib.hid hSn; clear hRn hSn hx1)
           | (go_at_call 42; (with_reducible refine (pow_at (W := w4) (z2 := a + b) (RX.out.keep (by ((repeat' (first | with_reducible assumption | with_reducible exact Below.refl _ _ | with_reducible refine Below.drew ?_ | with_reducible refine Below.alloc ?_ (by first | omega | (simp; omega) | (simp; done) | fail) _ | with_reducible refine Below.setCell ?_ (by first | omega | (simp; omega) | (simp; done) | fail) _ | fail)); (first | done | fail)))) (show Rd _ (.slice pn wn.length cn) wn by ((repeat' (first | with_reducible exact RN.out | with_reducible refine Rd.alloc ?_ _ | with_reducible refine Rd.drew ?_ | fail)); (first | done | fail))) HS1.out.1 SN.out HS1.out.2 (SN.out.small.2 (I64.small ⟨by omega, by omega⟩)) (by omega) (by ((repeat' (first | with_reducible assumption | with_reducible exact Below.refl _ _ | with_reducible refine Below.drew ?_ | with_reducible refine Below.alloc ?_ (by first | omega | (simp; omega) | (simp; done) | fail) _ | with_reducible refine Below.setCell ?_ (by first | omega | (simp; omega) | (simp; done) | fail) _ | fail)); (first | done | fail)))).mono ?_); rintro e v2 ⟨nA, pA, cA, lA, eA, rfl, hRA, hCA, hv2, hx2⟩; have kX0_2 := below_cell hv2 cX4a; have kX1_2 := below_cell hv2 cX4b; have zv2 := hv2.size; (try (have hBox := Box2.keep (B := w4.heap.size) (a := (.bool false)) (b := (.slice none 0 0)) (by ((repeat' (first | with_reducible assumption | (with_reducible exact Hid.out ‹_›) | (with_reducible refine Box2.put0 _ _ ?_) | (with_reducible refine Box2.new _ _ _ _ ?_; (first | with_reducible rfl | (simp; done) | rfl)) | (with_reducible refine Box2.alloc ?_ _) | (with_reducible refine Box2.drew ?_) | (with_reducible refine Box2.set2 ?hn _ _ ?_; case hn => omega) | fail)); (first | done | fail))) hx2; obtain ⟨_, _, _, _, _, _, _, _⟩ := hBox.all)); (try (have hBox := Box2.keep (B := v1.heap.size) (a := (.bool false)) (b := (.slice none 0 0)) (by ((repeat' (first | with_reducible assumption | (with_reducible exact Hid.out ‹_›) | (with_reducible refine Box2.put0 _ _ ?_) | (with_reducible refine Box2.new _ _ _ _ ?_; (first | with_reducible rfl | (simp; done) | rfl)) | (with_reducible refine Box2.alloc ?_ _) | (with_reducible refine Box2.drew ?_) | (with_reducible refine Box2.set2 ?hn _ _ ?_; case hn => omega) | fail)); (first | done | fail))) hx2; obtain ⟨_, _, _, _, _, _, _, _⟩ := hBox.all)); have RA := Lib.hid hRA; have CA := Lib.hid hCA; clear hRA hCA hx2))
        all_goals (go_wp2_with fail)
        all_goals go_meet
        all_goals exact ⟨_, nA, pA, cA, lA, eA, rfl, rfl, ⟨by ((repeat' (first | with_reducible assumption | with_reducible exact Below.refl _ _ | with_reducible refine Below.drew ?_ | with_reducible refine Below.alloc ?_ (by first | omega | (simp; omega) | (simp; done) | fail) _ | with_reducible refine Below.setCell ?_ (by first | omega | (simp; omega) | (simp; done) | fail) _ | fail)); (first | done | fail)), by ((repeat' (first | with_reducible assumption | (with_reducible exact Hid.out ‹_›) | (with_reducible refine Box2.put0 _ _ ?_) | (with_reducible refine Box2.new _ _ _ _ ?_; (first | with_reducible rfl | (simp; done) | rfl)) | (with_reducible refine Box2.alloc ?_ _) | (with_reducible refine Box2.drew ?_) | (with_reducible refine Box2.set2 ?hn _ _ ?_; case hn => omega) | fail)); (first | done | fail)), by ((repeat' (first | with_reducible exact RA.out | (with_reducible refine Rd.putN ?hb _ _ ?_; case hb => ((repeat' (first | with_reducible assumption | (with_reducible exact Hid.out ‹_›) | (with_reducible refine Box2.put0 _ _ ?_) | (with_reducible refine Box2.new _ _ _ _ ?_; (first | with_reducible rfl | (simp; done) | rfl)) | (with_reducible refine Box2.alloc ?_ _) | (with_reducible refine Box2.drew ?_) | (with_reducible refine Box2.set2 ?hn _ _ ?_; case hn => omega) | fail)); (first | done | fail))) | with_reducible refine Rd.alloc ?_ _ | with_reducible refine Rd.drew ?_ | fail)); (first | done | fail)), CA.out⟩⟩
      case rest =>
        obtain ⟨bt, nt, pt, ct, lt, et, rfl, rfl, hPR⟩ := hcut
        have HPRT := Lib.hid hPR
        have hb5 := hPR.below
        obtain ⟨w5, rfl⟩ : ∃ w5 : World, w5 = wc := ⟨_, rfl⟩
        clear hPR CO RX
        have HCT := Lib.hid HPRT.out.case
        have RWT5 := Lib.hid HPRT.out.r1
        have HT5 := Lib.hid HPRT.out.x1
        clear HPRT
        have HB5 := Lib.hid (HB4.out.trans (hb5.mono HB4.out.size))
        have HX5 := Lib.hid (HX4.out.keep hb5)
        have HD5 := Lib.hid (HD4.out.keep hb5)
        have HE5 := Lib.hid (HE4.out.keep hb5)
        have RWD5 := Lib.hid (RWD4.out.keep hb5)
        have RWE5 := Lib.hid (RWE4.out.keep hb5)
        clear cX4a  cX4b  cX4l  cD4a  cD4b  cD4l  cE4a  cE4b  cE4l  HX4 HD4 HE4 RWD4 RWE4 HB4 hb5 
        have cX5a := HX5.out.c0
        have cX5b := HX5.out.c1
        have cX5l := HX5.out.lt
        have cD5a := HD5.out.c0
        have cD5b := HD5.out.c1
        have cD5l := HD5.out.lt
        have cE5a := HE5.out.c0
        have cE5b := HE5.out.c1
        have cE5l := HE5.out.lt
        have cT5a := HT5.out.c0
        have cT5b := HT5.out.c1
        have cT5l := HT5.out.lt
        go_wp2_with fail
        refine (show Calls _ _ _ _ (BoolPost w5 true) by have h := refgood_any n1 u1 xs w5 (HR1.out.keep HB5.out) HF1.out; rwa [HG1.out] at h).mono ?_
        rintro e w6 ⟨rfl, hb6⟩
        have HB6 := Lib.hid (HB5.out.trans (hb6.mono HB5.out.size))
        have HX6 := Lib.hid (HX5.out.keep hb6)
        have HD6 := Lib.hid (HD5.out.keep hb6)
        have HE6 := Lib.hid (HE5.out.keep hb6)
        have HT6 := Lib.hid (HT5.out.keep hb6)
        have RWD6 := Lib.hid (RWD5.out.keep hb6)
        have RWE6 := Lib.hid (RWE5.out.keep hb6)
        have RWT6 := Lib.hid (RWT5.out.keep hb6)
        clear cX5a  cX5b  cX5l  cD5a  cD5b  cD5l  cE5a  cE5b  cE5l  cT5a  cT5b  cT5l  HX5 HD5 HE5 HT5 RWD5 RWE5 RWT5 HB5 hb6 
        have cX6a := HX6.out.c0
        have cX6b := HX6.out.c1
        have cX6l := HX6.out.lt
        have cD6a := HD6.out.c0
        have cD6b := HD6.out.c1
        have cD6l := HD6.out.lt
        have cE6a := HE6.out.c0
        have cE6b := HE6.out.c1
        have cE6l := HE6.out.lt
        have cT6a := HT6.out.c0
        have cT6b := HT6.out.c1
        have cT6l := HT6.out.lt
        have hab : Int.toNat (a + b) = a.toNat + b.toNat := by omega
        rcases ResCase.er HCD.out with rfl | rfl
        rotate_left
        · obtain rfl := ResCase.er7 HCT.out (by rw [hab]; exact pow_not_small (fun h => absurd (ResCase.er0 HCD.out h) (by decide)))
          go_wp2_with fail
          go_ret
          exact ⟨rfl, HB6.out⟩
        rcases ResCase.er HCE.out with rfl | rfl
        rotate_left
        · obtain rfl := ResCase.er7 HCT.out (by rw [hab, Nat.add_comm]; exact pow_not_small (fun h => absurd (ResCase.er0 HCE.out h) (by decide)))
          go_wp2_with fail
          go_ret
          exact ⟨rfl, HB6.out⟩
        have SA := Lib.hid (ResCase.ok HCD.out)
        have SB := Lib.hid (ResCase.ok HCE.out)
        have HZD := Lib.hid (show ResCase (sg n1 (val B18 xs) ^ a.toNat * sg n1 (val B18 xs) ^ b.toNat) nt lt et by rw [← Int.pow_add, ← hab]; exact HCT.out)
        clear hab
        go_wp2_with fail
        refine (mul_good nd (.slice pd ld.length cd) ld _ ne (.slice pe le.length ce) le _ w6 RWD6.out RWE6.out SA.out SB.out (ResCase.sgn HCD.out).2 (ResCase.sgn HCE.out).2).mono ?_
        rintro e w7 ⟨np, up, lp, ep, rfl, hMp, hb7, hCp⟩
        obtain ⟨pp, cp, rfl⟩ := MU.form hMp
        have HCp := Lib.hid (show ResCase _ np lp ep from hCp)
        have RWp7 := Lib.hid (show Rd w7 (.slice pp lp.length cp) lp from hMp.rd (ResCase.len17 HCp.out))
        clear hMp hCp
        have HB7 := Lib.hid (HB6.out.trans (hb7.mono HB6.out.size))
        have HX7 := Lib.hid (HX6.out.keep hb7)
        have HD7 := Lib.hid (HD6.out.keep hb7)
        have HE7 := Lib.hid (HE6.out.keep hb7)
        have HT7 := Lib.hid (HT6.out.keep hb7)
        have RWD7 := Lib.hid (RWD6.out.keep hb7)
        have RWE7 := Lib.hid (RWE6.out.keep hb7)
        have RWT7 := Lib.hid (RWT6.out.keep hb7)
        clear cX6a  cX6b  cX6l  cD6a  cD6b  cD6l  cE6a  cE6b  cE6l  cT6a  cT6b  cT6l  HX6 HD6 HE6 HT6 RWD6 RWE6 RWT6 HB6 hb7 
        have cX7a := HX7.out.c0
        have cX7b := HX7.out.c1
        have cX7l := HX7.out.lt
        have cD7a := HD7.out.c0
        have cD7b := HD7.out.c1
        have cD7l := HD7.out.lt
        have cE7a := HE7.out.c0
        have cE7b := HE7.out.c1
        have cE7l := HE7.out.lt
        have cT7a := HT7.out.c0
        have cT7b := HT7.out.c1
        have cT7l := HT7.out.lt
        obtain ⟨rfl, rfl, rfl⟩ := ResCase.uniq HZD.out HCp.out
        go_wp2_with fail
        generalize hw8 : World.alloc w7 _ = w8
        have hb8 : Below w7.heap.size w7 w8 := by rw [← hw8]; exact (Below.refl _ _).alloc (Nat.le_refl _) _
        have HP8 := Lib.hid (show Box2 w8 w7.heap.size (.bool nt) (.slice pp lt.length cp) by rw [← hw8]; exact Box2.new _ _ _ _ rfl)
        have HB8 := Lib.hid (HB7.out.trans (hb8.mono HB7.out.size))
        have HX8 := Lib.hid (HX7.out.keep hb8)
        have HD8 := Lib.hid (HD7.out.keep hb8)
        have HE8 := Lib.hid (HE7.out.keep hb8)
        have HT8 := Lib.hid (HT7.out.keep hb8)
        have RWD8 := Lib.hid (RWD7.out.keep hb8)
        have RWE8 := Lib.hid (RWE7.out.keep hb8)
        have RWT8 := Lib.hid (RWT7.out.keep hb8)
        have RWp8 := Lib.hid (RWp7.out.keep hb8)
        clear cX7a  cX7b  cX7l  cD7a  cD7b  cD7l  cE7a  cE7b  cE7l  cT7a  cT7b  cT7l  HX7 HD7 HE7 HT7 RWD7 RWE7 RWT7 RWp7 HB7 hb8 hw8
        have cX8a := HX8.out.c0
        have cX8b := HX8.out.c1
        have cX8l := HX8.out.lt
        have cD8a := HD8.out.c0
        have cD8b := HD8.out.c1
        have cD8l := HD8.out.lt
        have cE8a := HE8.out.c0
        have cE8b := HE8.out.c1
        have cE8l := HE8.out.lt
        have cT8a := HT8.out.c0
        have cT8b := HT8.out.c1
        have cT8l := HT8.out.lt
        have cP8a := HP8.out.c0
        have cP8b := HP8.out.c1
        have cP8l := HP8.out.lt
        refine (same_self nt (.slice pp lt.length cp) (.slice pt lt.length ct) lt w8 RWp8.out RWT8.out).mono ?_
        rintro e w9 ⟨rfl, hb9⟩
        have HB9 := Lib.hid (HB8.out.trans (hb9.mono HB8.out.size))
        have HX9 := Lib.hid (HX8.out.keep hb9)
        have HD9 := Lib.hid (HD8.out.keep hb9)
        have HE9 := Lib.hid (HE8.out.keep hb9)
        have HT9 := Lib.hid (HT8.out.keep hb9)
        have HP9 := Lib.hid (HP8.out.keep hb9)
        have RWD9 := Lib.hid (RWD8.out.keep hb9)
        have RWE9 := Lib.hid (RWE8.out.keep hb9)
        have RWT9 := Lib.hid (RWT8.out.keep hb9)
        have RWp9 := Lib.hid (RWp8.out.keep hb9)
        clear cX8a  cX8b  cX8l  cD8a  cD8b  cD8l  cE8a  cE8b  cE8l  cT8a  cT8b  cT8l  cP8a  cP8b  cP8l  HX8 HD8 HE8 HT8 HP8 RWD8 RWE8 RWT8 RWp8 HB8 hb9 
        have cX9a := HX9.out.c0
        have cX9b := HX9.out.c1
        have cX9l := HX9.out.lt
        have cD9a := HD9.out.c0
        have cD9b := HD9.out.c1
        have cD9l := HD9.out.lt
        have cE9a := HE9.out.c0
        have cE9b := HE9.out.c1
        have cE9l := HE9.out.lt
        have cT9a := HT9.out.c0
        have cT9b := HT9.out.c1
        have cT9l := HT9.out.lt
        have cP9a := HP9.out.c0
        have cP9b := HP9.out.c1
        have cP9l := HP9.out.lt
        go_wp2_with fail
        go_ret
        exact ⟨rfl, HB9.out⟩
theorem lawExps (n1 : Bool) (u1 : Value) (xs : List Int) (i j : Int) (w : World) (hr1 : Rd w u1 xs) (hf1 : Fit xs) (hi : (Lit.int .i64 i).wf = true) (hj : (Lit.int .i64 j).wf = true) :
    Calls Tryd.prog 11 #[.agg #[.bool n1, u1], .int .i64 i, .int .i64 j] w (BoolPost w true) := by
  have h1 := wfi hi
  have h2 := wfi hj
  cases hg1 : goodB n1 xs with
  | false => exact exps_bad n1 u1 xs i j w hr1 hf1 hg1 ⟨h1.1, h1.2⟩ ⟨h2.1, h2.2⟩
  | true => exact exps_good n1 u1 xs i j w hr1 hf1 hg1 ⟨h1.1, h1.2⟩ ⟨h2.1, h2.2⟩
end Go.Proofs.YtapeomcnjjfihaaDoor
