/- Layer 2: whole.power: squaring its way up. -/
import Derived.Test.YtapeomcnjjfihaaDoorWMul
import Derived.Test.YtapeomcnjjfihaaDoorWOf
import Derived.Test.YtapeomcnjjfihaaDoorWDivBox
import Derived.Test.YtapeomcnjjfihaaDoorLawAt
import Derived.Test.YtapeomcnjjfihaaDoorWRefInt
import Derived.Deep.Cut
import Derived.Deep.CutBlock
namespace Go.Proofs.YtapeomcnjjfihaaDoor
open Go.ChangeShapes Go.WideShapes Go.ChangeAt Go.RowKit
set_option linter.unusedVariables false
set_option linter.unusedSimpArgs false
theorem Rd.put2 {w : World} {B : Nat} {a : Bool} {p : Option Addr} {n c : Nat} {v : Value} {ws : List Int} (h : Rd w v ws) (hb : Box2 w B (.bool a) (.slice p n c)) (x y : Value) : Rd ((w.setCell ⟨B, 0, none⟩ x).setCell ⟨B, 1, none⟩ y) v ws := by
  rcases h with h | ⟨b, off, cc, rfl, h1, h2, h3⟩
  · exact .inl h
  · refine .inr ⟨b, off, cc, rfl, h1, h2, fun i hi => ?_⟩
    have h4 := h3 i hi
    have e0 : (⟨B, 0, none⟩ : Addr) ≠ ⟨b, off + i, none⟩ := fun e => by rw [← e, hb.c0] at h4; simp at h4
    have e1 : (⟨B, 1, none⟩ : Addr) ≠ ⟨b, off + i, none⟩ := fun e => by rw [← e, hb.c1] at h4; simp at h4
    exact (World.cell?_setCell_other _ _ _ _ e1).trans ((World.cell?_setCell_other _ _ _ _ e0).trans h4)
theorem MU.put2 {w : World} {B B0 : Nat} {a : Bool} {p : Option Addr} {n c : Nat} {v : Value} {ws : List Int} (h : MU w B0 v ws) (hl : 0 < ws.length) (hb : Box2 w B (.bool a) (.slice p n c)) (x y : Value) : MU ((w.setCell ⟨B, 0, none⟩ x).setCell ⟨B, 1, none⟩ y) B0 v ws := by
  rcases h with h | ⟨g, c, cur, h0, h1, h2, h3, h4, h5⟩
  · exact .inl h
  · have hne : B ≠ g := by
      intro e
      subst e
      have hc := hb.c0
      simp [World.cell?, h4, h5 0 hl] at hc
    refine .inr ⟨g, c, cur, h0, h1, h2, h3, ?_, h5⟩
    rw [Below.heap_setCell _ _ _ _ (by simp; omega), Below.heap_setCell _ _ _ _ (by simp; omega)]
    exact h4
theorem Sgn.row {b : Int} (hb : 0 < b) {neg : Bool} {ws : List Int} {z : Int} (h : Sgn b neg ws z) (hz : z ≠ 0) : 0 < ws.length := by
  apply Classical.byContradiction
  intro hc
  exact hz ((h.empty hb).1 (by omega))
theorem not_small {a b : Int} (h : ¬ Small a) (hab : a.natAbs ≤ b.natAbs) : ¬ Small b := fun hb => h ⟨by have := hb.lt; generalize (10 : Int) ^ 540 = P at *; omega⟩
theorem pow_ne {z : Int} (h : z ≠ 0) (n : Nat) : z ^ n ≠ 0 := by
  induction n with
  | zero => simp
  | succ n ih => rw [Int.pow_succ]; exact Int.mul_ne_zero ih h
theorem abs_mul_le {a t : Int} (ht : t ≠ 0) : a.natAbs ≤ (a * t).natAbs := by
  rw [Int.natAbs_mul]
  exact Nat.le_mul_of_pos_right _ (Int.natAbs_pos.2 ht)
/-- The numbers in their boxes at a round's head. -/
structure PowSt (w wr : World) (bO : Nat) (nx : Bool) (px : Option Addr) (cx : Nat) (xs : List Int) (zx : Int) (no : Bool) (po : Option Addr) (co : Nat) (os : List Int) (zo : Int) : Prop where
  bx : Box2 wr w.heap.size (.bool nx) (.slice px xs.length cx)
  rx : Rd wr (.slice px xs.length cx) xs
  sx : Sgn B18 nx xs zx
  lx : xs.length ≤ 30
  bo : Box2 wr bO (.bool no) (.slice po os.length co)
  mo : MU wr w.heap.size (.slice po os.length co) os
  so : Sgn B18 no os zo
  lo : os.length ≤ 30
  res : Box2 wr (w.heap.size + 1) (.bool false) (.slice none 0 0)
  x0 : zx ≠ 0
  o0 : zo ≠ 0
  hO : w.heap.size + 1 < bO
  below : Below w.heap.size w wr
theorem PowSt.keep {w wr w' : World} {bO : Nat} {nx : Bool} {px : Option Addr} {cx : Nat} {xs : List Int} {zx : Int} {no : Bool} {po : Option Addr} {co : Nat} {os : List Int} {zo : Int} (h : PowSt w wr bO nx px cx xs zx no po co os zo) (hb : Below wr.heap.size wr w') : PowSt w w' bO nx px cx xs zx no po co os zo :=
  ⟨h.bx.keep hb, h.rx.keep hb, h.sx, h.lx, h.bo.keep hb, h.mo.keep hb, h.so, h.lo, h.res.keep hb, h.x0, h.o0, h.hO, h.below.trans (hb.mono h.below.size)⟩
/-- A product is stored into the answer's box. -/
theorem PowSt.putO {w wr : World} {bO B0 : Nat} {nx : Bool} {px : Option Addr} {cx : Nat} {xs : List Int} {zx : Int} {no : Bool} {po : Option Addr} {co : Nat} {os : List Int} {zo : Int} (h : PowSt w wr bO nx px cx xs zx no po co os zo)
    {n : Bool} {p : Option Addr} {c : Nat} {ws : List Int} {z : Int} (hM : MU wr B0 (.slice p ws.length c) ws) (hB : bO < B0) (hs : Sgn B18 n ws z) (hl : ws.length ≤ 30) (hz : z ≠ 0) :
    PowSt w ((wr.setCell ⟨bO, 0, none⟩ (.bool n)).setCell ⟨bO, 1, none⟩ (.slice p ws.length c)) bO nx px cx xs zx n p c ws z :=
  ⟨Box2.set2 (by have := h.hO; omega) _ _ h.bx, h.rx.put2 h.bo _ _, h.sx, h.lx, Box2.put _ _ h.bo, (hM.set2 hB _ _).low (by have := h.hO; omega), hs, hl, Box2.set2 (by have := h.hO; omega) _ _ h.res, h.x0, hz, h.hO,
    (h.below.setCell (by have := h.hO; simp; omega) _).setCell (by have := h.hO; simp; omega) _⟩
/-- A square is stored into the number's box. -/
theorem PowSt.putX {w wr : World} {bO B0 : Nat} {nx : Bool} {px : Option Addr} {cx : Nat} {xs : List Int} {zx : Int} {no : Bool} {po : Option Addr} {co : Nat} {os : List Int} {zo : Int} (h : PowSt w wr bO nx px cx xs zx no po co os zo)
    {n : Bool} {p : Option Addr} {c : Nat} {ws : List Int} {z : Int} (hM : MU wr B0 (.slice p ws.length c) ws) (hB : w.heap.size < B0) (hs : Sgn B18 n ws z) (hl : ws.length ≤ 30) (hz : z ≠ 0) :
    PowSt w ((wr.setCell ⟨w.heap.size, 0, none⟩ (.bool n)).setCell ⟨w.heap.size, 1, none⟩ (.slice p ws.length c)) bO n p c ws z no po co os zo :=
  ⟨Box2.put _ _ h.bx, (hM.set2 hB _ _).rd (by omega), hs, hl, Box2.set2 (by have := h.hO; omega) _ _ h.bo, h.mo.put2 (h.so.row (by decide) h.o0) h.bx _ _, h.so, h.lo, Box2.set2 (by omega) _ _ h.res, hz, h.o0, h.hO,
    (h.below.setCell (by simp) _).setCell (by simp) _⟩
set_option maxRecDepth 100000 in
set_option maxHeartbeats 16000000 in
theorem power_any (n1 : Bool) (u1 : Value) (xs0 : List Int) (z1 : Int) (Y : Nat) (w : World) (hr1 : Rd w u1 xs0) (hs1 : Sgn B18 n1 xs0 z1) (hl1 : xs0.length ≤ 30) (hz1 : z1 ≠ 0) (hY : 1 ≤ Y ∧ Y ≤ 2000) :
    Calls Tryd.prog 69 #[.agg #[.bool n1, u1], .int .u64 (Y : Int)] w (ResPost w w.heap.size (z1 ^ Y)) := by
  have HR1 := Lib.hid hr1
  have HS1 := Lib.hid hs1
  obtain ⟨p1, c1, rfl, _, _, _⟩ := rd_form hr1
  clear hr1 hs1
  go_enter Tryd.func69, Tryd.ntmps69
  go_wp2_with fail
  generalize hw1 : World.alloc (World.alloc w _) _ = w1
  have HB1 := Lib.hid (show Below w.heap.size w w1 by rw [← hw1]; exact ((Below.refl _ _).alloc (Nat.le_refl _) _).alloc (by simp) _)
  have HX1 := Lib.hid (show Box2 w1 w.heap.size (.bool n1) (.slice p1 xs0.length c1) by rw [← hw1]; exact (Box2.new _ _ _ _ rfl).alloc _)
  have HY1 := Lib.hid (show Box2 w1 (w.heap.size + 1) (.bool false) (.slice none 0 0) by rw [← hw1]; exact Box2.new _ _ _ _ (by simp))
  clear hw1
  refine (of_int 1 w1 (by omega) (by omega)).mono ?_
  rintro e w2 ⟨no, uo, os, rfl, hM, hS, hb2⟩
  obtain ⟨po, co, rfl⟩ := MU.form hM
  have hy1 := HY1.out.lt
  have hz2 := hb2.size
  go_wp2_with fail
  generalize hw3 : World.alloc w2 _ = w3
  have hb3 : Below w2.heap.size w2 w3 := by rw [← hw3]; exact (Below.refl _ _).alloc (Nat.le_refl _) _
  have HP := Lib.hid (show PowSt w w3 w2.heap.size n1 p1 c1 xs0 z1 no po co os 1 from
    ⟨(HX1.out.keep hb2).keep hb3, HR1.out.keep ((HB1.out.trans (hb2.mono HB1.out.size)).trans (hb3.mono (by omega))), HS1.out, hl1, by rw [← hw3]; exact Box2.new _ _ _ _ rfl, (hM.keep hb3).low (by omega), hS, hS.small.2 (I64.small ⟨by omega, by omega⟩), (HY1.out.keep hb2).keep hb3, hz1, by omega, by omega, (HB1.out.trans (hb2.mono HB1.out.size)).trans (hb3.mono (by omega))⟩)
  clear hw3 hM hS hb2 hb3 HB1 HX1 HY1 hy1 hz2
  obtain ⟨bO, hbO⟩ : ∃ bO, w2.heap.size = bO := ⟨_, rfl⟩
  rw [hbO] at HP ⊢
  clear hbO
  go_loopw [1] (fun yv wr => ∃ (y : Nat) (nx : Bool) (px : Option Addr) (cx : Nat) (xs : List Int) (zx : Int) (no : Bool) (po : Option Addr) (co : Nat) (os : List Int) (zo : Int), yv = .int .u64 (y : Int) ∧ 1 ≤ y ∧ y ≤ 2000 ∧ zo * zx ^ y = z1 ^ Y ∧ PowSt w wr bO nx px cx xs zx no po co os zo) (fun yv _ => (intOf yv).toNat)
  case atStart => exact ⟨Y, _, _, _, _, _, _, _, _, _, _, rfl, hY.1, hY.2, by rw [Int.one_mul], HP.out⟩
  case round =>
    obtain ⟨y, nx, px, cx, xs, zx, no, po, co, os, zo, rfl, hy1, hy2, hinv, hP⟩ := hrel
    obtain ⟨wo, rfl⟩ : ∃ wo : World, wo = wr := ⟨_, rfl⟩
    have HQ := Lib.hid hP
    have HI := Lib.hid hinv
    have q0 := hP.bx.c0
    have q1 := hP.bx.c1
    have o0 := hP.bo.c0
    have o1 := hP.bo.c1
    have hbl := hP.bo.lt
    clear hP hinv
    by_cases hodd : y % 2 = 1
    · have hot : (((y : Int) % 2) == 1) = true := by simp; omega
      have hot2 : (y : Int) % 2 = 1 := by omega
      have hpw := pow_ne HQ.out.x0 (y - 1)
      have HI2 := Lib.hid (show zo * zx * zx ^ (y - 1) = z1 ^ Y by rw [← HI.out, Int.mul_assoc, ← Int.pow_succ', show y - 1 + 1 = y by omega])
      have HPW := Lib.hid hpw
      clear hpw
      go_wp2_with fail
      refine (mul_good no _ os zo nx _ xs zx wo (HQ.out.mo.rd (by have := HQ.out.lo; omega)) HQ.out.rx HQ.out.so HQ.out.sx HQ.out.lo HQ.out.lx).mono ?_
      rintro e w4 ⟨n, u, ws, er, rfl, hM, hb4, hC⟩
      obtain ⟨p, c, rfl⟩ := MU.form hM
      have hz4 := hb4.size
      have HM := Lib.hid hM
      have HQ4 := Lib.hid (HQ.out.keep hb4)
      have HC := Lib.hid (show ResCase (zo * zx) n ws er from hC)
      clear hM hb4 hC q0 q1 o0 o1
      have o0 := HQ4.out.bo.c0
      have o1 := HQ4.out.bo.c1
      have of0 := HQ4.out.bo.f0
      have of1 := HQ4.out.bo.f1
      rcases ResCase.er HC.out with rfl | rfl
      · have HSW := Lib.hid (ResCase.ok HC.out)
        have HLW := Lib.hid ((ResCase.sgn HC.out).2)
        go_upto_region 7 with (fail)
        have HQ5 := Lib.hid (HQ4.out.putO (n := n) HM.out (by omega) HSW.out HLW.out (Int.mul_ne_zero HQ.out.o0 HQ.out.x0))
        generalize World.setCell (World.setCell w4 _ _) _ _ = w5 at HQ5
        have HI5 := Lib.hid (show (zo * zx) * zx ^ (2 * (y / 2)) = z1 ^ Y by rw [← HI2.out, show 2 * (y / 2) = y - 1 by omega])
        clear HQ HQ4 HM HC HSW HLW HI HI2 HPW o0 o1 of0 of1 hot hot2
        have q0 := HQ5.out.bx.c0
        have q1 := HQ5.out.bx.c1
        have xf0 := HQ5.out.bx.f0
        have xf1 := HQ5.out.bx.f1
        have o0 := HQ5.out.bo.c0
        have o1 := HQ5.out.bo.c1
        have hbl5 := HQ5.out.bo.lt
        by_cases hq : y / 2 = 0
        · have hqt : ((y : Int) / 2 == 0) = true := by simp; omega
          have hqz : (y : Int) / 2 = 0 := by omega
          have r0 := HQ5.out.res.c0
          have r1 := HQ5.out.res.c1
          have f0 := HQ5.out.res.f0
          have f1 := HQ5.out.res.f1
          go_wp2_with fail
          have zz := two_setW (x0 := .bool n) (x1 := (.slice p ws.length c)) r0 r1
          refine bodyPost_ret (v := .tuple #[.agg #[.bool n, (.slice p ws.length c)], .int .i64 0]) (by simp [results, Tryd.results69, go_sem, zz.1, zz.2]) rfl ?_
          have hz := HI5.out
          rw [hq, Nat.mul_zero, Int.pow_zero, Int.mul_one] at hz
          exact ⟨n, _, ws, 0, rfl, HQ5.out.mo.put2 (HQ5.out.so.row (by decide) HQ5.out.o0) HQ5.out.res _ _, (HQ5.out.below.setCell (by simp) _).setCell (by simp) _, .inl ⟨by rw [← hz]; exact HQ5.out.so.small.1 HQ5.out.lo, rfl, by rw [← hz]; exact HQ5.out.so⟩⟩
        · have hqf : ((y : Int) / 2 == 0) = false := by rw [beq_eq_false_iff_ne]; omega
          have hqz : ¬ (y : Int) / 2 = 0 := by omega
          go_wp2_with fail
          refine (mul_good nx _ xs zx nx _ xs zx w5 HQ5.out.rx HQ5.out.rx HQ5.out.sx HQ5.out.sx HQ5.out.lx HQ5.out.lx).mono ?_
          rintro e w6 ⟨m, v, vs, er2, rfl, hM6, hb6, hC6⟩
          obtain ⟨pv, cv, rfl⟩ := MU.form hM6
          have hz6 := hb6.size
          have HM6 := Lib.hid hM6
          have HQ6 := Lib.hid (HQ5.out.keep hb6)
          have HC6 := Lib.hid (show ResCase (zx * zx) m vs er2 from hC6)
          clear hM6 hb6 hC6 q0 q1 o0 o1 xf0 xf1
          have q0 := HQ6.out.bx.c0
          have q1 := HQ6.out.bx.c1
          have xf0 := HQ6.out.bx.f0
          have xf1 := HQ6.out.bx.f1
          have HI6 := Lib.hid (show (zo * zx) * (zx * zx) ^ (y / 2) = z1 ^ Y by rw [← HI5.out, Int.pow_mul, Int.pow_succ, Int.pow_succ, Int.pow_zero, Int.one_mul])
          rcases ResCase.er HC6.out with rfl | rfl
          · have HSW := Lib.hid (ResCase.ok HC6.out)
            have HLW := Lib.hid ((ResCase.sgn HC6.out).2)
            go_upto_if 34 with (fail)
            have HQ7 := Lib.hid (HQ6.out.putX (n := m) HM6.out HQ5.out.bx.lt HSW.out HLW.out (Int.mul_ne_zero HQ5.out.x0 HQ5.out.x0))
            generalize World.setCell (World.setCell w6 _ _) _ _ = w7 at HQ7
            have hyn : y / 2 < y := by omega
            clear q0 q1 xf0 xf1 HQ6 HM6
            go_wp2_with fail
            go_roundw
            case rel => exact ⟨y / 2, _, _, _, _, _, _, _, _, _, _, by go_num, by omega, by omega, HI6.out, HQ7.out⟩
            case measure => simp [intOf]; omega
          · have HNS := Lib.hid (show ¬ Small (z1 ^ Y) from not_small (show ¬ Small (zx * zx) from fun hs => by have := ResCase.er0 HC6.out hs; omega) (by
              rw [← HI6.out, show y / 2 = (y / 2 - 1) + 1 by omega, Int.pow_succ', Int.mul_left_comm]
              exact abs_mul_le (Int.mul_ne_zero HQ5.out.o0 (pow_ne (Int.mul_ne_zero HQ5.out.x0 HQ5.out.x0) _))))
            go_upto_region 12 with (fail)
            have hr := Box2.set2 (C := w.heap.size) (by omega) (.bool m) (.slice pv vs.length cv) HQ6.out.res
            have HB5 := Lib.hid (show Below w.heap.size w ((w6.setCell ⟨w.heap.size, 0, none⟩ (.bool m)).setCell ⟨w.heap.size, 1, none⟩ (.slice pv vs.length cv)) from (HQ6.out.below.setCell (by simp) _).setCell (by simp) _)
            generalize World.setCell (World.setCell w6 _ _) _ _ = w7 at hr HB5
            have r0 := hr.c0
            have r1 := hr.c1
            have f0 := hr.f0
            have f1 := hr.f1
            clear hr
            go_wp2_with fail
            have zz := two_setW (x0 := .bool false) (x1 := .slice none 0 0) r0 r1
            refine bodyPost_ret (v := .tuple #[.agg #[.bool false, .slice none 0 0], .int .i64 7]) (by simp [results, Tryd.results69, go_sem, zz.1, zz.2]) rfl ?_
            exact ⟨false, _, [], 7, rfl, Mine.nil _ _, (HB5.out.setCell (by simp) _).setCell (by simp) _, .inr ⟨HNS.out, rfl, rfl, rfl⟩⟩
      · have HNS := Lib.hid (show ¬ Small (z1 ^ Y) from not_small (show ¬ Small (zo * zx) from fun hs => by have := ResCase.er0 HC.out hs; omega) (by rw [← HI2.out]; exact abs_mul_le HPW.out))
        go_upto_region 6 with (fail)
        have hr := Box2.set2 (C := bO) (by have := HQ4.out.hO; omega) (.bool n) (.slice p ws.length c) HQ4.out.res
        have HB5 := Lib.hid (show Below w.heap.size w ((w4.setCell ⟨bO, 0, none⟩ (.bool n)).setCell ⟨bO, 1, none⟩ (.slice p ws.length c)) from (HQ4.out.below.setCell (by have := HQ4.out.hO; simp; omega) _).setCell (by have := HQ4.out.hO; simp; omega) _)
        generalize World.setCell (World.setCell w4 _ _) _ _ = w5 at hr HB5
        have r0 := hr.c0
        have r1 := hr.c1
        have f0 := hr.f0
        have f1 := hr.f1
        clear hr
        go_wp2_with fail
        have zz := two_setW (x0 := .bool false) (x1 := .slice none 0 0) r0 r1
        refine bodyPost_ret (v := .tuple #[.agg #[.bool false, .slice none 0 0], .int .i64 7]) (by simp [results, Tryd.results69, go_sem, zz.1, zz.2]) rfl ?_
        exact ⟨false, _, [], 7, rfl, Mine.nil _ _, (HB5.out.setCell (by simp) _).setCell (by simp) _, .inr ⟨HNS.out, rfl, rfl, rfl⟩⟩
    · have hot : (((y : Int) % 2) == 1) = false := by rw [beq_eq_false_iff_ne]; omega
      have hot2 : (y : Int) % 2 = 0 := by omega
      go_upto_region 7 with (fail)
      have HQ5 := Lib.hid HQ.out
      have HI5 := Lib.hid (show zo * zx ^ (2 * (y / 2)) = z1 ^ Y by rw [← HI.out, show 2 * (y / 2) = y by omega])
      obtain ⟨w5, rfl⟩ : ∃ w5 : World, w5 = wo := ⟨_, rfl⟩
      clear HQ HI hot hot2 q0 q1 o0 o1
      have q0 := HQ5.out.bx.c0
      have q1 := HQ5.out.bx.c1
      have xf0 := HQ5.out.bx.f0
      have xf1 := HQ5.out.bx.f1
      have o0 := HQ5.out.bo.c0
      have o1 := HQ5.out.bo.c1
      have hbl5 := HQ5.out.bo.lt
      by_cases hq : y / 2 = 0
      · exact absurd hq (by omega)
      · have hqf : ((y : Int) / 2 == 0) = false := by rw [beq_eq_false_iff_ne]; omega
        have hqz : ¬ (y : Int) / 2 = 0 := by omega
        go_wp2_with fail
        refine (mul_good nx _ xs zx nx _ xs zx w5 HQ5.out.rx HQ5.out.rx HQ5.out.sx HQ5.out.sx HQ5.out.lx HQ5.out.lx).mono ?_
        rintro e w6 ⟨m, v, vs, er2, rfl, hM6, hb6, hC6⟩
        obtain ⟨pv, cv, rfl⟩ := MU.form hM6
        have hz6 := hb6.size
        have HM6 := Lib.hid hM6
        have HQ6 := Lib.hid (HQ5.out.keep hb6)
        have HC6 := Lib.hid (show ResCase (zx * zx) m vs er2 from hC6)
        clear hM6 hb6 hC6 q0 q1 o0 o1 xf0 xf1
        have q0 := HQ6.out.bx.c0
        have q1 := HQ6.out.bx.c1
        have xf0 := HQ6.out.bx.f0
        have xf1 := HQ6.out.bx.f1
        have HI6 := Lib.hid (show zo * (zx * zx) ^ (y / 2) = z1 ^ Y by rw [← HI5.out, Int.pow_mul, Int.pow_succ, Int.pow_succ, Int.pow_zero, Int.one_mul])
        rcases ResCase.er HC6.out with rfl | rfl
        · have HSW := Lib.hid (ResCase.ok HC6.out)
          have HLW := Lib.hid ((ResCase.sgn HC6.out).2)
          go_upto_if 34 with (fail)
          have HQ7 := Lib.hid (HQ6.out.putX (n := m) HM6.out HQ5.out.bx.lt HSW.out HLW.out (Int.mul_ne_zero HQ5.out.x0 HQ5.out.x0))
          generalize World.setCell (World.setCell w6 _ _) _ _ = w7 at HQ7
          have hyn : y / 2 < y := by omega
          clear q0 q1 xf0 xf1 HQ6 HM6
          go_wp2_with fail
          go_roundw
          case rel => exact ⟨y / 2, _, _, _, _, _, _, _, _, _, _, by go_num, by omega, by omega, HI6.out, HQ7.out⟩
          case measure => simp [intOf]; omega
        · have HNS := Lib.hid (show ¬ Small (z1 ^ Y) from not_small (show ¬ Small (zx * zx) from fun hs => by have := ResCase.er0 HC6.out hs; omega) (by
            rw [← HI6.out, show y / 2 = (y / 2 - 1) + 1 by omega, Int.pow_succ', Int.mul_left_comm]
            exact abs_mul_le (Int.mul_ne_zero HQ5.out.o0 (pow_ne (Int.mul_ne_zero HQ5.out.x0 HQ5.out.x0) _))))
          go_upto_region 12 with (fail)
          have hr := Box2.set2 (C := w.heap.size) (by omega) (.bool m) (.slice pv vs.length cv) HQ6.out.res
          have HB5 := Lib.hid (show Below w.heap.size w ((w6.setCell ⟨w.heap.size, 0, none⟩ (.bool m)).setCell ⟨w.heap.size, 1, none⟩ (.slice pv vs.length cv)) from (HQ6.out.below.setCell (by simp) _).setCell (by simp) _)
          generalize World.setCell (World.setCell w6 _ _) _ _ = w7 at hr HB5
          have r0 := hr.c0
          have r1 := hr.c1
          have f0 := hr.f0
          have f1 := hr.f1
          clear hr
          go_wp2_with fail
          have zz := two_setW (x0 := .bool false) (x1 := .slice none 0 0) r0 r1
          refine bodyPost_ret (v := .tuple #[.agg #[.bool false, .slice none 0 0], .int .i64 7]) (by simp [results, Tryd.results69, go_sem, zz.1, zz.2]) rfl ?_
          exact ⟨false, _, [], 7, rfl, Mine.nil _ _, (HB5.out.setCell (by simp) _).setCell (by simp) _, .inr ⟨HNS.out, rfl, rfl, rfl⟩⟩
end Go.Proofs.YtapeomcnjjfihaaDoor
