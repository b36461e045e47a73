/- Layer 2: the reference's Int and Small: digits of an int, the int of digits. -/
import Derived.Test.YtlhfemgimieooaaGreatDoorPGWf
import Derived.Test.YtlhfemgimieooaaGreatDoorPGWd
import Derived.Deep.CutBlock
import Derived.Test.YtlhfemgimieooaaGreatDoorPGWj
import Derived.Test.YtlhfemgimieooaaGreatDoorPGWg
import Derived.Deep.Cut
import Derived.Test.YtlhfemgimieooaaGreatDoorPGWc
set_option linter.unusedVariables false
set_option linter.unusedSimpArgs false
set_option maxRecDepth 100000
set_option maxHeartbeats 16000000
namespace Go.Proofs.YtlhfemgimieooaaGreatDoor
open Go.Lib (hid)
open Go.ChangeShapes Go.WideShapes Go.ChangeAt Go.RowKit
section
section
structure I64 (z : Int) : Prop where
 lo : -9223372036854775808 ≤ z
 hi : z ≤ 9223372036854775807
theorem I64.small {n : Int} (h : I64 n) : Small n := by
 refine ⟨?_⟩
 have h1 := pow_mono' (b := 10) (by decide) (show 19 ≤ 540 by decide)
 rw [show (10 : Int) ^ 19 = 10000000000000000000 by decide] at h1
 have := h.lo; have := h.hi
 generalize (10 : Int) ^ 540 = P at h1 ⊢
 omega
structure IntState (a : Int) (ds : List Int) (u : Int) : Prop where
 dig : Dig 10 ds
 sum : val 10 ds + 10 ^ ds.length * u = a
 lo : 0 ≤ u
 last : u = 0 → 0 < ds.length → ds.getD (ds.length - 1) 0 ≠ 0
theorem IntState.start {a : Int} (h : 0 ≤ a) : IntState a [] a := ⟨Dig.nil (by decide), by simp [val], h, fun _ h => by simp at h⟩
theorem IntState.len {a u : Int} {ds : List Int} (h : IntState a ds u) (hu : 0 < u) (ha : a ≤ 18446744073709551615) : ds.length < 20 := by
 apply Classical.byContradiction
 intro hc
 have h1 := pow_mono' (b := 10) (by decide) (show 20 ≤ ds.length by omega)
 have h2 := val_nonneg (b := 10) (by decide) h.dig
 have h3 : (10 : Int) ^ ds.length * 1 ≤ 10 ^ ds.length * u := Int.mul_le_mul_of_nonneg_left (by omega) (Int.le_of_lt (pow_pos' (by decide) _))
 have h4 := h.sum
 rw [show (10 : Int) ^ 20 = 100000000000000000000 by decide] at h1
 omega
theorem getD_snoc_last (ds : List Int) (x : Int) : (ds ++ [x]).getD ((ds ++ [x]).length - 1) 0 = x := by
 simp [List.getD_eq_getElem?_getD]
theorem IntState.step {a u : Int} {ds : List Int} (h : IntState a ds u) (hu : 0 < u) : IntState a (ds ++ [u % 10]) (u / 10) := by
 refine ⟨h.dig.append (Dig.cons ⟨by omega, by omega⟩ (Dig.nil (by decide))), ?_, by omega, fun h0 _ => ?_⟩
 · rw [val_snoc, List.length_append, List.length_singleton, Int.pow_succ, ← h.sum]
   have e : (10 : Int) ^ ds.length * 10 * (u / 10) = 10 ^ ds.length * (10 * (u / 10)) := by rw [Int.mul_assoc]
   have e2 : (10 : Int) ^ ds.length * (u % 10) + 10 ^ ds.length * (10 * (u / 10)) = 10 ^ ds.length * u := by
     rw [← Int.mul_add]; congr 1; omega
   omega
 · rw [getD_snoc_last]; omega
theorem IntState.done {n a : Int} {ds : List Int} (h : IntState a ds 0) (ha : a = (n.natAbs : Int)) : Sgn 10 (decide (n < 0)) ds n := by
 have hs := h.sum
 rw [Int.mul_zero, Int.add_zero] at hs
 refine ⟨⟨h.dig, h.last rfl⟩, fun hn => ?_, ?_⟩
 · apply Classical.byContradiction
   intro hc
   obtain rfl := List.length_eq_zero_iff.1 (show ds.length = 0 by omega)
   simp [val] at hs
   simp at hn
   omega
 · unfold sg
   split <;> rename_i hh <;> simp at hh <;> omega
theorem refint_any (n : Int) (hn : I64 n) (w : World) : Calls Tryz.prog 16 #[.int .i64 n] w (NumPost w n) := by
 obtain ⟨i0, hi, hz0, hz1, hz2⟩ := info_parts infoU8
 have hlo := hn.lo
 have hhi := hn.hi
 obtain ⟨a, ha⟩ : ∃ a : Int, a = (n.natAbs : Int) := ⟨_, rfl⟩
 have ha0 : 0 ≤ a ∧ a ≤ 9223372036854775808 := by omega
 have HA := hid ha
 have hc : (n < 0 ∧ IntKind.u64.wrap n = n + 18446744073709551616 ∧ IntKind.u64.wrap (-(n + 18446744073709551616)) = a) ∨ (¬ n < 0 ∧ n = a) := by
   by_cases h : n < 0
   · exact .inl ⟨h, by rw [IntKind.wrap_u64]; omega, by rw [IntKind.wrap_u64]; omega⟩
   · exact .inr ⟨h, by omega⟩
 have HN := hid hn
 clear ha hn
 rcases hc with ⟨hneg, hw1, hw2⟩ | ⟨hneg, rfl⟩
 · have hdd : decide (n < 0) = true := by simpa using hneg
   go_enter Tryz.func16, Tryz.ntmps16
   go_wp2_with fail
   generalize hw2 : World.alloc w _ = w2
   have HB2 := hid (show Below w.heap.size w w2 by rw [← hw2]; exact (Below.refl _ _).alloc (Nat.le_refl _) _)
   have HX2 := hid (show Box2 w2 w.heap.size (.bool false) (.slice none 0 0) by rw [← hw2]; exact Box2.new _ _ _ _ rfl)
   clear hw2
   go_loopw [3, 4] (fun uv v wr => ∃ (u : Int) (os : List Int), uv = .int .u64 u ∧ IntState a os u ∧ u ≤ a ∧ OB wr w2.heap.size v os ∧ Below w2.heap.size w2 wr) (fun uv _ _ => (intOf uv).toNat)
   case atStart => exact ⟨_, [], rfl, IntState.start (by omega), Int.le_refl _, OW.nil _ _, Below.refl _ _⟩
   case round =>
     obtain ⟨u, os, rfl, hS, hua, hO, hB⟩ := hrel
     have HS := hid hS
     have HO := hid hO
     have HB := hid hB
     have HX := hid (HX2.out.keep hB)
     have hu0 := hS.lo
     clear hS hO hB
     by_cases hlt : 0 < u
     · have hol := HS.out.len hlt (by omega)
       go_wp2_with (at_builtin; refine wpList_append_own _ rfl _ _ 43 rfl w2.heap.size 5 i0 (.int .u8 0) 1 1 Tryz.underlying43 hi hz0 hz1 hz2 rfl (by decide) _ _ _ rfl (World.ownsRow.alloc HO.out _) ⟨wr.heap.size, 0, none⟩ 1 1 [.int .u8 (u % 10)] rfl rfl (one_newO _ _ _) (by simp [Value.oneCell']) (by unfold maxLen; omega) (by omega) (by have := HB.out.size; simp; omega) ?_; intro v' w4 hown' hgrow _)
       have HOn := hid (OW.snoc hown')
       have HBn := hid (HO.out.grown HB.out hgrow (Nat.le_refl _))
       have HSn := hid (HS.out.step hlt)
       clear hown' hgrow
       go_wp2
       go_roundw
       case rel => exact ⟨u / 10, os ++ [u % 10], rfl, HSn.out, by omega, HOn.out, HBn.out⟩
       case measure => simp [intOf]; omega
     · obtain rfl : u = 0 := by omega
       have HD := hid (HS.out.done HA.out)
       have hrb := HO.out.rb (by have := (HD.out.fits).2 (HN.out.small); omega)
       obtain ⟨p, cc, rfl, _, _, _⟩ := rb_form hrb
       have r0 := HX.out.c0
       have r1 := HX.out.c1
       have f0 := HX.out.f0
       have f1 := HX.out.f1
       have hlt2 := HX2.out.lt
       have HM := hid HO.out.mine
       clear hrb
       go_wp2_with fail
       have zz := two_setW (x0 := .bool true) (x1 := .slice p os.length cc) r0 r1
       have hd : decide (n < 0) = true := by simpa using hneg
       refine bodyPost_ret (v := .agg #[.bool true, .slice p os.length cc]) (by simp [results, Tryz.results16, go_sem, zz.1, zz.2]) rfl ⟨true, _, os, rfl, (HM.out.set2 hlt2 _ _).rb (by have := (HD.out.fits).2 (HN.out.small); omega), by have h := HD.out; rwa [hd] at h, ?_⟩
       exact ((HB2.out.trans (HB.out.mono HB2.out.size)).setCell (Nat.le_refl _) _).setCell (Nat.le_refl _) _
 · have hdd : decide (n < 0) = false := by simpa using hneg
   go_enter Tryz.func16, Tryz.ntmps16
   go_wp2_with fail
   generalize hw2 : World.alloc w _ = w2
   have HB2 := hid (show Below w.heap.size w w2 by rw [← hw2]; exact (Below.refl _ _).alloc (Nat.le_refl _) _)
   have HX2 := hid (show Box2 w2 w.heap.size (.bool false) (.slice none 0 0) by rw [← hw2]; exact Box2.new _ _ _ _ rfl)
   clear hw2
   go_loopw [3, 4] (fun uv v wr => ∃ (u : Int) (os : List Int), uv = .int .u64 u ∧ IntState n os u ∧ u ≤ n ∧ OB wr w2.heap.size v os ∧ Below w2.heap.size w2 wr) (fun uv _ _ => (intOf uv).toNat)
   case atStart => exact ⟨_, [], rfl, IntState.start (by omega), Int.le_refl _, OW.nil _ _, Below.refl _ _⟩
   case round =>
     obtain ⟨u, os, rfl, hS, hua, hO, hB⟩ := hrel
     have HS := hid hS
     have HO := hid hO
     have HB := hid hB
     have HX := hid (HX2.out.keep hB)
     have hu0 := hS.lo
     clear hS hO hB
     by_cases hlt : 0 < u
     · have hol := HS.out.len hlt (by omega)
       go_wp2_with (at_builtin; refine wpList_append_own _ rfl _ _ 43 rfl w2.heap.size 5 i0 (.int .u8 0) 1 1 Tryz.underlying43 hi hz0 hz1 hz2 rfl (by decide) _ _ _ rfl (World.ownsRow.alloc HO.out _) ⟨wr.heap.size, 0, none⟩ 1 1 [.int .u8 (u % 10)] rfl rfl (one_newO _ _ _) (by simp [Value.oneCell']) (by unfold maxLen; omega) (by omega) (by have := HB.out.size; simp; omega) ?_; intro v' w4 hown' hgrow _)
       have HOn := hid (OW.snoc hown')
       have HBn := hid (HO.out.grown HB.out hgrow (Nat.le_refl _))
       have HSn := hid (HS.out.step hlt)
       clear hown' hgrow
       go_wp2
       go_roundw
       case rel => exact ⟨u / 10, os ++ [u % 10], rfl, HSn.out, by omega, HOn.out, HBn.out⟩
       case measure => simp [intOf]; omega
     · obtain rfl : u = 0 := by omega
       have HD := hid (HS.out.done HA.out)
       have hrb := HO.out.rb (by have := (HD.out.fits).2 (HN.out.small); omega)
       obtain ⟨p, cc, rfl, _, _, _⟩ := rb_form hrb
       have r0 := HX.out.c0
       have r1 := HX.out.c1
       have f0 := HX.out.f0
       have f1 := HX.out.f1
       have hlt2 := HX2.out.lt
       have HM := hid HO.out.mine
       clear hrb
       go_wp2_with fail
       have zz := two_setW (x0 := .bool false) (x1 := .slice p os.length cc) r0 r1
       have hd : decide (n < 0) = false := by simpa using hneg
       refine bodyPost_ret (v := .agg #[.bool false, .slice p os.length cc]) (by simp [results, Tryz.results16, go_sem, zz.1, zz.2]) rfl ⟨false, _, os, rfl, (HM.out.set2 hlt2 _ _).rb (by have := (HD.out.fits).2 (HN.out.small); omega), by have h := HD.out; rwa [hd] at h, ?_⟩
       exact ((HB2.out.trans (HB.out.mono HB2.out.size)).setCell (Nat.le_refl _) _).setCell (Nat.le_refl _) _
end
section
end
end
section
section
theorem Rd.put2 {w : World} {B : Nat} {a : Bool} {p : Option Addr} {n c : Nat} {v : Value} {ws : List Int} (h : Rd w v ws) (hb : Box2 w B (.bool a) (.slice p n c)) (x y : Value) : Rd ((w.setCell ⟨B, 0, none⟩ x).setCell ⟨B, 1, none⟩ y) v ws := by
 rcases h with h | ⟨b, off, cc, rfl, h1, h2, h3⟩
 · exact .inl h
 · refine .inr ⟨b, off, cc, rfl, h1, h2, fun i hi => ?_⟩
   have h4 := h3 i hi
   have e0 : (⟨B, 0, none⟩ : Addr) ≠ ⟨b, off + i, none⟩ := fun e => by rw [← e, hb.c0] at h4; simp at h4
   have e1 : (⟨B, 1, none⟩ : Addr) ≠ ⟨b, off + i, none⟩ := fun e => by rw [← e, hb.c1] at h4; simp at h4
   exact (World.cell?_setCell_other _ _ _ _ e1).trans ((World.cell?_setCell_other _ _ _ _ e0).trans h4)
theorem MU.put2 {w : World} {B B0 : Nat} {a : Bool} {p : Option Addr} {n c : Nat} {v : Value} {ws : List Int} (h : MU w B0 v ws) (hl : 0 < ws.length) (hb : Box2 w B (.bool a) (.slice p n c)) (x y : Value) : MU ((w.setCell ⟨B, 0, none⟩ x).setCell ⟨B, 1, none⟩ y) B0 v ws := by
 rcases h with h | ⟨g, c, cur, h0, h1, h2, h3, h4, h5⟩
 · exact .inl h
 · have hne : B ≠ g := by
     intro e
     subst e
     have hc := hb.c0
     simp [World.cell?, h4, h5 0 hl] at hc
   refine .inr ⟨g, c, cur, h0, h1, h2, h3, ?_, h5⟩
   rw [Below.heap_setCell _ _ _ _ (by simp; omega), Below.heap_setCell _ _ _ _ (by simp; omega)]
   exact h4
theorem Sgn.row {b : Int} (hb : 0 < b) {neg : Bool} {ws : List Int} {z : Int} (h : Sgn b neg ws z) (hz : z ≠ 0) : 0 < ws.length := by
 apply Classical.byContradiction
 intro hc
 exact hz ((h.empty hb).1 (by omega))
theorem not_small {a b : Int} (h : ¬ Small a) (hab : a.natAbs ≤ b.natAbs) : ¬ Small b := fun hb => h ⟨by have := hb.lt; generalize (10 : Int) ^ 540 = P at *; omega⟩
theorem pow_ne {z : Int} (h : z ≠ 0) (n : Nat) : z ^ n ≠ 0 := by
 induction n with
 | zero => simp
 | succ n ih => rw [Int.pow_succ]; exact Int.mul_ne_zero ih h
theorem abs_mul_le {a t : Int} (ht : t ≠ 0) : a.natAbs ≤ (a * t).natAbs := by
 rw [Int.natAbs_mul]
 exact Nat.le_mul_of_pos_right _ (Int.natAbs_pos.2 ht)
structure PowSt (w wr : World) (bO : Nat) (nx : Bool) (px : Option Addr) (cx : Nat) (xs : List Int) (zx : Int) (no : Bool) (po : Option Addr) (co : Nat) (os : List Int) (zo : Int) : Prop where
 bx : Box2 wr w.heap.size (.bool nx) (.slice px xs.length cx)
 rx : Rd wr (.slice px xs.length cx) xs
 sx : Sgn B18 nx xs zx
 lx : xs.length ≤ 30
 bo : Box2 wr bO (.bool no) (.slice po os.length co)
 mo : MU wr w.heap.size (.slice po os.length co) os
 so : Sgn B18 no os zo
 lo : os.length ≤ 30
 res : Box2 wr (w.heap.size + 1) (.bool false) (.slice none 0 0)
 x0 : zx ≠ 0
 o0 : zo ≠ 0
 hO : w.heap.size + 1 < bO
 below : Below w.heap.size w wr
theorem PowSt.keep {w wr w' : World} {bO : Nat} {nx : Bool} {px : Option Addr} {cx : Nat} {xs : List Int} {zx : Int} {no : Bool} {po : Option Addr} {co : Nat} {os : List Int} {zo : Int} (h : PowSt w wr bO nx px cx xs zx no po co os zo) (hb : Below wr.heap.size wr w') : PowSt w w' bO nx px cx xs zx no po co os zo :=
 ⟨h.bx.keep hb, h.rx.keep hb, h.sx, h.lx, h.bo.keep hb, h.mo.keep hb, h.so, h.lo, h.res.keep hb, h.x0, h.o0, h.hO, h.below.trans (hb.mono h.below.size)⟩
theorem PowSt.putO {w wr : World} {bO B0 : Nat} {nx : Bool} {px : Option Addr} {cx : Nat} {xs : List Int} {zx : Int} {no : Bool} {po : Option Addr} {co : Nat} {os : List Int} {zo : Int} (h : PowSt w wr bO nx px cx xs zx no po co os zo)
   {n : Bool} {p : Option Addr} {c : Nat} {ws : List Int} {z : Int} (hM : MU wr B0 (.slice p ws.length c) ws) (hB : bO < B0) (hs : Sgn B18 n ws z) (hl : ws.length ≤ 30) (hz : z ≠ 0) :
   PowSt w ((wr.setCell ⟨bO, 0, none⟩ (.bool n)).setCell ⟨bO, 1, none⟩ (.slice p ws.length c)) bO nx px cx xs zx n p c ws z :=
 ⟨Box2.set2 (by have := h.hO; omega) _ _ h.bx, h.rx.put2 h.bo _ _, h.sx, h.lx, Box2.put _ _ h.bo, (hM.set2 hB _ _).low (by have := h.hO; omega), hs, hl, Box2.set2 (by have := h.hO; omega) _ _ h.res, h.x0, hz, h.hO,
   (h.below.setCell (by have := h.hO; simp; omega) _).setCell (by have := h.hO; simp; omega) _⟩
theorem PowSt.putX {w wr : World} {bO B0 : Nat} {nx : Bool} {px : Option Addr} {cx : Nat} {xs : List Int} {zx : Int} {no : Bool} {po : Option Addr} {co : Nat} {os : List Int} {zo : Int} (h : PowSt w wr bO nx px cx xs zx no po co os zo)
   {n : Bool} {p : Option Addr} {c : Nat} {ws : List Int} {z : Int} (hM : MU wr B0 (.slice p ws.length c) ws) (hB : w.heap.size < B0) (hs : Sgn B18 n ws z) (hl : ws.length ≤ 30) (hz : z ≠ 0) :
   PowSt w ((wr.setCell ⟨w.heap.size, 0, none⟩ (.bool n)).setCell ⟨w.heap.size, 1, none⟩ (.slice p ws.length c)) bO n p c ws z no po co os zo :=
 ⟨Box2.put _ _ h.bx, (hM.set2 hB _ _).rd (by omega), hs, hl, Box2.set2 (by have := h.hO; omega) _ _ h.bo, h.mo.put2 (h.so.row (by decide) h.o0) h.bx _ _, h.so, h.lo, Box2.set2 (by omega) _ _ h.res, hz, h.o0, h.hO,
   (h.below.setCell (by simp) _).setCell (by simp) _⟩
theorem power_any (n1 : Bool) (u1 : Value) (xs0 : List Int) (z1 : Int) (Y : Nat) (w : World) (hr1 : Rd w u1 xs0) (hs1 : Sgn B18 n1 xs0 z1) (hl1 : xs0.length ≤ 30) (hz1 : z1 ≠ 0) (hY : 1 ≤ Y ∧ Y ≤ 2000) :
   Calls Tryz.prog 109 #[.agg #[.bool n1, u1], .int .u64 (Y : Int)] w (ResPost w w.heap.size (z1 ^ Y)) := by
 have HR1 := hid hr1
 have HS1 := hid hs1
 obtain ⟨p1, c1, rfl, _, _, _⟩ := rd_form hr1
 clear hr1 hs1
 go_enter Tryz.func109, Tryz.ntmps109
 go_wp2_with fail
 generalize hw1 : World.alloc (World.alloc w _) _ = w1
 have HB1 := hid (show Below w.heap.size w w1 by rw [← hw1]; exact ((Below.refl _ _).alloc (Nat.le_refl _) _).alloc (by simp) _)
 have HX1 := hid (show Box2 w1 w.heap.size (.bool n1) (.slice p1 xs0.length c1) by rw [← hw1]; exact (Box2.new _ _ _ _ rfl).alloc _)
 have HY1 := hid (show Box2 w1 (w.heap.size + 1) (.bool false) (.slice none 0 0) by rw [← hw1]; exact Box2.new _ _ _ _ (by simp))
 clear hw1
 refine (of_int 1 w1 (by omega) (by omega)).mono ?_
 rintro e w2 ⟨no, uo, os, rfl, hM, hS, hb2⟩
 obtain ⟨po, co, rfl⟩ := MU.form hM
 have hy1 := HY1.out.lt
 have hz2 := hb2.size
 go_wp2_with fail
 generalize hw3 : World.alloc w2 _ = w3
 have hb3 : Below w2.heap.size w2 w3 := by rw [← hw3]; exact (Below.refl _ _).alloc (Nat.le_refl _) _
 have HP := hid (show PowSt w w3 w2.heap.size n1 p1 c1 xs0 z1 no po co os 1 from
   ⟨(HX1.out.keep hb2).keep hb3, HR1.out.keep ((HB1.out.trans (hb2.mono HB1.out.size)).trans (hb3.mono (by omega))), HS1.out, hl1, by rw [← hw3]; exact Box2.new _ _ _ _ rfl, (hM.keep hb3).low (by omega), hS, hS.small.2 (I64.small ⟨by omega, by omega⟩), (HY1.out.keep hb2).keep hb3, hz1, by omega, by omega, (HB1.out.trans (hb2.mono HB1.out.size)).trans (hb3.mono (by omega))⟩)
 clear hw3 hM hS hb2 hb3 HB1 HX1 HY1 hy1 hz2
 obtain ⟨bO, hbO⟩ : ∃ bO, w2.heap.size = bO := ⟨_, rfl⟩
 rw [hbO] at HP ⊢
 clear hbO
 go_loopw [1] (fun yv wr => ∃ (y : Nat) (nx : Bool) (px : Option Addr) (cx : Nat) (xs : List Int) (zx : Int) (no : Bool) (po : Option Addr) (co : Nat) (os : List Int) (zo : Int), yv = .int .u64 (y : Int) ∧ 1 ≤ y ∧ y ≤ 2000 ∧ zo * zx ^ y = z1 ^ Y ∧ PowSt w wr bO nx px cx xs zx no po co os zo) (fun yv _ => (intOf yv).toNat)
 case atStart => exact ⟨Y, _, _, _, _, _, _, _, _, _, _, rfl, hY.1, hY.2, by rw [Int.one_mul], HP.out⟩
 case round =>
   obtain ⟨y, nx, px, cx, xs, zx, no, po, co, os, zo, rfl, hy1, hy2, hinv, hP⟩ := hrel
   obtain ⟨wo, rfl⟩ : ∃ wo : World, wo = wr := ⟨_, rfl⟩
   have HQ := hid hP
   have HI := hid hinv
   have q0 := hP.bx.c0
   have q1 := hP.bx.c1
   have o0 := hP.bo.c0
   have o1 := hP.bo.c1
   have hbl := hP.bo.lt
   clear hP hinv
   by_cases hodd : y % 2 = 1
   · have hot : (((y : Int) % 2) == 1) = true := by simp; omega
     have hot2 : (y : Int) % 2 = 1 := by omega
     have hpw := pow_ne HQ.out.x0 (y - 1)
     have HI2 := hid (show zo * zx * zx ^ (y - 1) = z1 ^ Y by rw [← HI.out, Int.mul_assoc, ← Int.pow_succ', show y - 1 + 1 = y by omega])
     have HPW := hid hpw
     clear hpw
     go_wp2_with fail
     refine (mul_good no _ os zo nx _ xs zx wo (HQ.out.mo.rd (by have := HQ.out.lo; omega)) HQ.out.rx HQ.out.so HQ.out.sx HQ.out.lo HQ.out.lx).mono ?_
     rintro e w4 ⟨n, u, ws, er, rfl, hM, hb4, hC⟩
     obtain ⟨p, c, rfl⟩ := MU.form hM
     have hz4 := hb4.size
     have HM := hid hM
     have HQ4 := hid (HQ.out.keep hb4)
     have HC := hid (show ResCase (zo * zx) n ws er from hC)
     clear hM hb4 hC q0 q1 o0 o1
     have o0 := HQ4.out.bo.c0
     have o1 := HQ4.out.bo.c1
     have of0 := HQ4.out.bo.f0
     have of1 := HQ4.out.bo.f1
     rcases ResCase.er HC.out with rfl | rfl
     · have HSW := hid (ResCase.ok HC.out)
       have HLW := hid ((ResCase.sgn HC.out).2)
       go_upto_region 7 with (fail)
       have HQ5 := hid (HQ4.out.putO (n := n) HM.out (by omega) HSW.out HLW.out (Int.mul_ne_zero HQ.out.o0 HQ.out.x0))
       generalize World.setCell (World.setCell w4 _ _) _ _ = w5 at HQ5
       have HI5 := hid (show (zo * zx) * zx ^ (2 * (y / 2)) = z1 ^ Y by rw [← HI2.out, show 2 * (y / 2) = y - 1 by omega])
       clear HQ HQ4 HM HC HSW HLW HI HI2 HPW o0 o1 of0 of1 hot hot2
       have q0 := HQ5.out.bx.c0
       have q1 := HQ5.out.bx.c1
       have xf0 := HQ5.out.bx.f0
       have xf1 := HQ5.out.bx.f1
       have o0 := HQ5.out.bo.c0
       have o1 := HQ5.out.bo.c1
       have hbl5 := HQ5.out.bo.lt
       by_cases hq : y / 2 = 0
       · have hqt : ((y : Int) / 2 == 0) = true := by simp; omega
         have hqz : (y : Int) / 2 = 0 := by omega
         have r0 := HQ5.out.res.c0
         have r1 := HQ5.out.res.c1
         have f0 := HQ5.out.res.f0
         have f1 := HQ5.out.res.f1
         go_wp2_with fail
         have zz := two_setW (x0 := .bool n) (x1 := (.slice p ws.length c)) r0 r1
         refine bodyPost_ret (v := .tuple #[.agg #[.bool n, (.slice p ws.length c)], .int .i64 0]) (by simp [results, Tryz.results109, go_sem, zz.1, zz.2]) rfl ?_
         have hz := HI5.out
         rw [hq, Nat.mul_zero, Int.pow_zero, Int.mul_one] at hz
         exact ⟨n, _, ws, 0, rfl, HQ5.out.mo.put2 (HQ5.out.so.row (by decide) HQ5.out.o0) HQ5.out.res _ _, (HQ5.out.below.setCell (by simp) _).setCell (by simp) _, .inl ⟨by rw [← hz]; exact HQ5.out.so.small.1 HQ5.out.lo, rfl, by rw [← hz]; exact HQ5.out.so⟩⟩
       · have hqf : ((y : Int) / 2 == 0) = false := by rw [beq_eq_false_iff_ne]; omega
         have hqz : ¬ (y : Int) / 2 = 0 := by omega
         go_wp2_with fail
         refine (mul_good nx _ xs zx nx _ xs zx w5 HQ5.out.rx HQ5.out.rx HQ5.out.sx HQ5.out.sx HQ5.out.lx HQ5.out.lx).mono ?_
         rintro e w6 ⟨m, v, vs, er2, rfl, hM6, hb6, hC6⟩
         obtain ⟨pv, cv, rfl⟩ := MU.form hM6
         have hz6 := hb6.size
         have HM6 := hid hM6
         have HQ6 := hid (HQ5.out.keep hb6)
         have HC6 := hid (show ResCase (zx * zx) m vs er2 from hC6)
         clear hM6 hb6 hC6 q0 q1 o0 o1 xf0 xf1
         have q0 := HQ6.out.bx.c0
         have q1 := HQ6.out.bx.c1
         have xf0 := HQ6.out.bx.f0
         have xf1 := HQ6.out.bx.f1
         have HI6 := hid (show (zo * zx) * (zx * zx) ^ (y / 2) = z1 ^ Y by rw [← HI5.out, Int.pow_mul, Int.pow_succ, Int.pow_succ, Int.pow_zero, Int.one_mul])
         rcases ResCase.er HC6.out with rfl | rfl
         · have HSW := hid (ResCase.ok HC6.out)
           have HLW := hid ((ResCase.sgn HC6.out).2)
           go_upto_if 34 with (fail)
           have HQ7 := hid (HQ6.out.putX (n := m) HM6.out HQ5.out.bx.lt HSW.out HLW.out (Int.mul_ne_zero HQ5.out.x0 HQ5.out.x0))
           generalize World.setCell (World.setCell w6 _ _) _ _ = w7 at HQ7
           have hyn : y / 2 < y := by omega
           clear q0 q1 xf0 xf1 HQ6 HM6
           go_wp2_with fail
           go_roundw
           case rel => exact ⟨y / 2, _, _, _, _, _, _, _, _, _, _, by go_num, by omega, by omega, HI6.out, HQ7.out⟩
           case measure => simp [intOf]; omega
         · have HNS := hid (show ¬ Small (z1 ^ Y) from not_small (show ¬ Small (zx * zx) from fun hs => by have := ResCase.er0 HC6.out hs; omega) (by
             rw [← HI6.out, show y / 2 = (y / 2 - 1) + 1 by omega, Int.pow_succ', Int.mul_left_comm]
             exact abs_mul_le (Int.mul_ne_zero HQ5.out.o0 (pow_ne (Int.mul_ne_zero HQ5.out.x0 HQ5.out.x0) _))))
           go_upto_region 12 with (fail)
           have hr := Box2.set2 (C := w.heap.size) (by omega) (.bool m) (.slice pv vs.length cv) HQ6.out.res
           have HB5 := hid (show Below w.heap.size w ((w6.setCell ⟨w.heap.size, 0, none⟩ (.bool m)).setCell ⟨w.heap.size, 1, none⟩ (.slice pv vs.length cv)) from (HQ6.out.below.setCell (by simp) _).setCell (by simp) _)
           generalize World.setCell (World.setCell w6 _ _) _ _ = w7 at hr HB5
           have r0 := hr.c0
           have r1 := hr.c1
           have f0 := hr.f0
           have f1 := hr.f1
           clear hr
           go_wp2_with fail
           have zz := two_setW (x0 := .bool false) (x1 := .slice none 0 0) r0 r1
           refine bodyPost_ret (v := .tuple #[.agg #[.bool false, .slice none 0 0], .int .i64 7]) (by simp [results, Tryz.results109, go_sem, zz.1, zz.2]) rfl ?_
           exact ⟨false, _, [], 7, rfl, Mine.nil _ _, (HB5.out.setCell (by simp) _).setCell (by simp) _, .inr ⟨HNS.out, rfl, rfl, rfl⟩⟩
     · have HNS := hid (show ¬ Small (z1 ^ Y) from not_small (show ¬ Small (zo * zx) from fun hs => by have := ResCase.er0 HC.out hs; omega) (by rw [← HI2.out]; exact abs_mul_le HPW.out))
       go_upto_region 6 with (fail)
       have hr := Box2.set2 (C := bO) (by have := HQ4.out.hO; omega) (.bool n) (.slice p ws.length c) HQ4.out.res
       have HB5 := hid (show Below w.heap.size w ((w4.setCell ⟨bO, 0, none⟩ (.bool n)).setCell ⟨bO, 1, none⟩ (.slice p ws.length c)) from (HQ4.out.below.setCell (by have := HQ4.out.hO; simp; omega) _).setCell (by have := HQ4.out.hO; simp; omega) _)
       generalize World.setCell (World.setCell w4 _ _) _ _ = w5 at hr HB5
       have r0 := hr.c0
       have r1 := hr.c1
       have f0 := hr.f0
       have f1 := hr.f1
       clear hr
       go_wp2_with fail
       have zz := two_setW (x0 := .bool false) (x1 := .slice none 0 0) r0 r1
       refine bodyPost_ret (v := .tuple #[.agg #[.bool false, .slice none 0 0], .int .i64 7]) (by simp [results, Tryz.results109, go_sem, zz.1, zz.2]) rfl ?_
       exact ⟨false, _, [], 7, rfl, Mine.nil _ _, (HB5.out.setCell (by simp) _).setCell (by simp) _, .inr ⟨HNS.out, rfl, rfl, rfl⟩⟩
   · have hot : (((y : Int) % 2) == 1) = false := by rw [beq_eq_false_iff_ne]; omega
     have hot2 : (y : Int) % 2 = 0 := by omega
     go_upto_region 7 with (fail)
     have HQ5 := hid HQ.out
     have HI5 := hid (show zo * zx ^ (2 * (y / 2)) = z1 ^ Y by rw [← HI.out, show 2 * (y / 2) = y by omega])
     obtain ⟨w5, rfl⟩ : ∃ w5 : World, w5 = wo := ⟨_, rfl⟩
     clear HQ HI hot hot2 q0 q1 o0 o1
     have q0 := HQ5.out.bx.c0
     have q1 := HQ5.out.bx.c1
     have xf0 := HQ5.out.bx.f0
     have xf1 := HQ5.out.bx.f1
     have o0 := HQ5.out.bo.c0
     have o1 := HQ5.out.bo.c1
     have hbl5 := HQ5.out.bo.lt
     by_cases hq : y / 2 = 0
     · exact absurd hq (by omega)
     · have hqf : ((y : Int) / 2 == 0) = false := by rw [beq_eq_false_iff_ne]; omega
       have hqz : ¬ (y : Int) / 2 = 0 := by omega
       go_wp2_with fail
       refine (mul_good nx _ xs zx nx _ xs zx w5 HQ5.out.rx HQ5.out.rx HQ5.out.sx HQ5.out.sx HQ5.out.lx HQ5.out.lx).mono ?_
       rintro e w6 ⟨m, v, vs, er2, rfl, hM6, hb6, hC6⟩
       obtain ⟨pv, cv, rfl⟩ := MU.form hM6
       have hz6 := hb6.size
       have HM6 := hid hM6
       have HQ6 := hid (HQ5.out.keep hb6)
       have HC6 := hid (show ResCase (zx * zx) m vs er2 from hC6)
       clear hM6 hb6 hC6 q0 q1 o0 o1 xf0 xf1
       have q0 := HQ6.out.bx.c0
       have q1 := HQ6.out.bx.c1
       have xf0 := HQ6.out.bx.f0
       have xf1 := HQ6.out.bx.f1
       have HI6 := hid (show zo * (zx * zx) ^ (y / 2) = z1 ^ Y by rw [← HI5.out, Int.pow_mul, Int.pow_succ, Int.pow_succ, Int.pow_zero, Int.one_mul])
       rcases ResCase.er HC6.out with rfl | rfl
       · have HSW := hid (ResCase.ok HC6.out)
         have HLW := hid ((ResCase.sgn HC6.out).2)
         go_upto_if 34 with (fail)
         have HQ7 := hid (HQ6.out.putX (n := m) HM6.out HQ5.out.bx.lt HSW.out HLW.out (Int.mul_ne_zero HQ5.out.x0 HQ5.out.x0))
         generalize World.setCell (World.setCell w6 _ _) _ _ = w7 at HQ7
         have hyn : y / 2 < y := by omega
         clear q0 q1 xf0 xf1 HQ6 HM6
         go_wp2_with fail
         go_roundw
         case rel => exact ⟨y / 2, _, _, _, _, _, _, _, _, _, _, by go_num, by omega, by omega, HI6.out, HQ7.out⟩
         case measure => simp [intOf]; omega
       · have HNS := hid (show ¬ Small (z1 ^ Y) from not_small (show ¬ Small (zx * zx) from fun hs => by have := ResCase.er0 HC6.out hs; omega) (by
           rw [← HI6.out, show y / 2 = (y / 2 - 1) + 1 by omega, Int.pow_succ', Int.mul_left_comm]
           exact abs_mul_le (Int.mul_ne_zero HQ5.out.o0 (pow_ne (Int.mul_ne_zero HQ5.out.x0 HQ5.out.x0) _))))
         go_upto_region 12 with (fail)
         have hr := Box2.set2 (C := w.heap.size) (by omega) (.bool m) (.slice pv vs.length cv) HQ6.out.res
         have HB5 := hid (show Below w.heap.size w ((w6.setCell ⟨w.heap.size, 0, none⟩ (.bool m)).setCell ⟨w.heap.size, 1, none⟩ (.slice pv vs.length cv)) from (HQ6.out.below.setCell (by simp) _).setCell (by simp) _)
         generalize World.setCell (World.setCell w6 _ _) _ _ = w7 at hr HB5
         have r0 := hr.c0
         have r1 := hr.c1
         have f0 := hr.f0
         have f1 := hr.f1
         clear hr
         go_wp2_with fail
         have zz := two_setW (x0 := .bool false) (x1 := .slice none 0 0) r0 r1
         refine bodyPost_ret (v := .tuple #[.agg #[.bool false, .slice none 0 0], .int .i64 7]) (by simp [results, Tryz.results109, go_sem, zz.1, zz.2]) rfl ?_
         exact ⟨false, _, [], 7, rfl, Mine.nil _ _, (HB5.out.setCell (by simp) _).setCell (by simp) _, .inr ⟨HNS.out, rfl, rfl, rfl⟩⟩
end
section
def PowPost (W : World) (z1 z2 : Int) (e : Ending) (w' : World) : Prop :=
 ∃ neg u ws er, e = .returned (.tuple #[.agg #[.bool neg, u], .int .i64 er]) ∧ MU w' W.heap.size u ws ∧ Below W.heap.size W w' ∧
   ((z2 < 0 ∧ er = 1 ∧ neg = false ∧ ws = []) ∨ (0 ≤ z2 ∧ ResCase (z1 ^ z2.toNat) neg ws er))
theorem pow_sg (n : Bool) (k : Nat) : (sg n 1) ^ k = sg (n && decide (k % 2 = 1)) 1 := by
 induction k with
 | zero => cases n <;> rfl
 | succ k ih =>
   rw [Int.pow_succ, ih]
   rcases Nat.mod_two_eq_zero_or_one k with h | h
   · have h2 : (k + 1) % 2 = 1 := by omega
     cases n <;> simp [sg, h, h2]
   · have h2 : (k + 1) % 2 = 0 := by omega
     cases n <;> simp [sg, h, h2]
theorem pow_split (a n m q j : Nat) : a ^ ((n + m) * q + j) = (a ^ n * a ^ m) ^ q * a ^ j := by rw [Nat.pow_add, Nat.pow_mul, Nat.pow_add]
theorem pow_lo {a k : Nat} (ha : 2 ≤ a) (hk : 1794 ≤ k) : (10 ^ 90) ^ 6 ≤ a ^ k := by
 obtain ⟨j, hj⟩ : ∃ j, k = (200 + 99) * 6 + j := ⟨k - 1794, by omega⟩
 have e : a ^ k = (a ^ 200 * a ^ 99) ^ 6 * a ^ j := hj ▸ pow_split a 200 99 6 j
 have h0 : (10 : Nat) ^ 90 ≤ 2 ^ 200 * 2 ^ 99 := by decide
 have h1 : (10 : Nat) ^ 90 ≤ a ^ 200 * a ^ 99 := Nat.le_trans h0 (Nat.mul_le_mul (Nat.pow_le_pow_left ha 200) (Nat.pow_le_pow_left ha 99))
 have h2 := Nat.pow_le_pow_left h1 6
 have h3 : 1 ≤ a ^ j := Nat.pow_pos (by omega)
 rw [e]
 exact Nat.le_trans h2 (Nat.le_mul_of_pos_right _ h3)
theorem lim6 : ((10 : Int) ^ 90) ^ 6 = 10 ^ 540 := by rw [← Int.pow_mul]
theorem big_pow {z : Int} {k : Nat} (hz : 2 ≤ z.natAbs) (hk : 1794 ≤ k) : ¬ Small (z ^ k) := by
 intro h
 have h1 := h.lt
 rw [Int.natAbs_pow, ← lim6] at h1
 have h2 := Int.ofNat_le.2 (pow_lo hz hk)
 rw [Int.natCast_pow (10 ^ 90) 6, Int.natCast_pow 10 90] at h2
 exact absurd h1 (Int.not_lt.2 h2)
theorem small_one (n : Bool) : Small (sg n 1) := I64.small (by cases n <;> exact ⟨by decide, by decide⟩)
theorem abs_two {n : Bool} {xs : List Int} {z : Int} (h : Sgn B18 n xs z) (h0 : 0 < xs.length) (h1 : ¬ (xs.length = 1 ∧ xs.getD 0 0 = 1)) : 2 ≤ z.natAbs := by
 have ha := h.abs (by decide)
 have hp := h.canon.pos (by decide) h0
 by_cases hl : xs.length = 1
 · match xs, hl with
   | [d], _ =>
     have hd : d ≠ 1 := fun e => h1 ⟨rfl, by simpa using e⟩
     rw [val_one] at ha hp
     omega
 · have h2 := canon_lo (b := B18) (by decide) h.canon h0
   have h3 := pow_mono' (b := B18) (by decide) (show 1 ≤ xs.length - 1 by omega)
   rw [Int.pow_succ, Int.pow_zero, Int.one_mul] at h3
   have h4 : (1000000000000000000 : Int) ≤ val B18 xs := Int.le_trans h3 h2
   omega
theorem one_val {n : Bool} {xs : List Int} {z : Int} (h : Sgn B18 n xs z) (h1 : xs.length = 1) (h2 : xs.getD 0 0 = 1) : z = sg n 1 ∧ val B18 xs = 1 := by
 match xs, h1 with
 | [d], _ =>
   have hd : d = 1 := by simpa using h2
   subst hd
   exact ⟨by rw [h.eq, val_one], val_one _ _⟩
theorem low_digit {ys : List Int} {z : Int} (h : Sgn B18 false ys z) (h0 : 0 < ys.length) : 0 < z ∧ z % 2 = ys.getD 0 0 % 2 ∧ (ys.length = 1 → z = ys.getD 0 0) ∧ (1 < ys.length → 1000000000000000000 ≤ z) := by
 have hz : z = val B18 ys := by have := h.eq; simpa [sg] using this
 refine ⟨by rw [hz]; exact h.canon.pos (by decide) h0, ?_, fun h1 => ?_, fun h1 => ?_⟩
 · match ys, h0 with
   | d :: r, _ =>
     rw [hz]
     have : val B18 (d :: r) = d + B18 * val B18 r := rfl
     rw [this, B18]
     simp only [List.getD_cons_zero]
     generalize val B18 r = v
     omega
 · match ys, h1 with
   | [d], _ => rw [hz, val_one]; rfl
 · have h2 := canon_lo (b := B18) (by decide) h.canon h0
   have h3 := pow_mono' (b := B18) (by decide) (show 1 ≤ ys.length - 1 by omega)
   rw [Int.pow_succ, Int.pow_zero, Int.one_mul] at h3
   rw [hz]
   exact Int.le_trans h3 h2
theorem pow_good (n1 : Bool) (u1 : Value) (xs : List Int) (z1 : Int) (n2 : Bool) (u2 : Value) (ys : List Int) (z2 : Int) (w : World) (hr1 : Rd w u1 xs) (hr2 : Rd w u2 ys) (hs1 : Sgn B18 n1 xs z1) (hs2 : Sgn B18 n2 ys z2) (hl1 : xs.length ≤ 30) (hl2 : ys.length ≤ 30) :
   Calls Tryz.prog 71 #[.agg #[.bool n1, u1], .agg #[.bool n2, u2]] w (PowPost w z1 z2) := by
 have HR1 := hid hr1
 have HR2 := hid hr2
 obtain ⟨p1, c1, rfl, _, _, hp1⟩ := rd_form hr1
 obtain ⟨p2, c2, rfl, _, _, hp2⟩ := rd_form hr2
 have HP1 := hid hp1
 have HP2 := hid hp2
 have HS1 := hid hs1
 have HS2 := hid hs2
 clear hr1 hr2 hs1 hs2 hp1 hp2
 go_enter Tryz.func71, Tryz.ntmps71
 go_wp2_with fail
 generalize hw2 : World.alloc (World.alloc (World.alloc w _) _) _ = w2
 have hbx : Bx3 w2 w.heap.size n1 (.slice p1 xs.length c1) n2 (.slice p2 ys.length c2) := by
   rw [← hw2]
   exact ⟨acl (acl (by simp) _) _, acl (acl (by simp) _) _, acl (by simp) _, acl (by simp) _, third_cell _ _ _ _ _ 0, third_cell _ _ _ _ _ 1, third_fr _ _ _ _ _ 0, third_fr _ _ _ _ _ 1, by simp⟩
 have HB2 := hid (show Below w.heap.size w w2 by rw [← hw2]; exact (((Below.refl _ _).alloc (Nat.le_refl _) _).alloc (by simp) _).alloc (by simp; omega) _)
 clear hw2
 have HX2 := hid hbx
 have q0 := hbx.x0
 have q1 := hbx.x1
 have q2 := hbx.y0
 have q3 := hbx.y1
 refine (good_yes _ _ xs z1 w2 (HR1.out.keep HB2.out) HS1.out hl1).mono ?_
 rintro e w3 ⟨rfl, hb3⟩
 have HX3 := hid (HX2.out.keep hb3)
 have HB3 := hid (HB2.out.trans (hb3.mono HB2.out.size))
 have t0 := HX3.out.x0
 have t1 := HX3.out.x1
 have t2 := HX3.out.y0
 have t3 := HX3.out.y1
 clear q0 q1 q2 q3 hb3 hbx HX2 HB2
 go_wp2_with fail
 refine (good_yes _ _ ys z2 w3 (HR2.out.keep HB3.out) HS2.out hl2).mono ?_
 rintro e w4 ⟨rfl, hb4⟩
 have HX4 := hid (HX3.out.keep hb4)
 have HB4 := hid (HB3.out.trans (hb4.mono HB3.out.size))
 have s0 := HX4.out.x0
 have s1 := HX4.out.x1
 have s2 := HX4.out.y0
 have s3 := HX4.out.y1
 have r0 := HX4.out.r0
 have r1 := HX4.out.r1
 have f0 := HX4.out.f0
 have f1 := HX4.out.f1
 have hlt := HX4.out.lt
 clear t0 t1 t2 t3 hb4 HX3 HB3
 cases n2 with
 | true =>
   have HZ2 := hid (show z2 < 0 by have := HS2.out.neg_iff (by decide); simpa using this.symm)
   go_wp2_with fail
   have zz := two_setW (x0 := .bool false) (x1 := .slice none 0 0) r0 r1
   refine bodyPost_ret (v := .tuple #[.agg #[.bool false, .slice none 0 0], .int .i64 1]) (by simp [results, Tryz.results71, go_sem, zz.1, zz.2]) rfl ?_
   exact ⟨false, _, [], 1, rfl, Mine.nil _ _, (HB4.out.setCell (by simp; omega) _).setCell (by simp; omega) _, .inl ⟨HZ2.out, rfl, rfl, rfl⟩⟩
 | false =>
   have HZ0 := hid (show 0 ≤ z2 by have := HS2.out.neg_iff (by decide); simp at this; omega)
   by_cases hy0 : ys.length = 0
   · have hyt : ((ys.length : Int) == 0) = true := by simp; exact List.length_eq_zero_iff.1 hy0
     have hyz : (ys.length : Int) = 0 := by omega
     have HE := hid ((HS2.out.empty (by decide)).1 hy0)
     clear hyz
     have hy0' := hid hy0
     clear hy0
     go_wp2_with fail
     refine (of_int 1 w4 (by omega) (by omega)).mono ?_
     rintro e w5 ⟨neg, u, ws, rfl, hM, hS, hb5⟩
     obtain ⟨p, c, rfl⟩ := MU.form hM
     have HX5 := hid (HX4.out.keep hb5)
     have HB5 := hid (HB4.out.trans (hb5.mono HB4.out.size))
     have HM := hid hM
     have HS := hid hS
     clear hM hS hb5 s0 s1 s2 s3 r0 r1 f0 f1
     have r0 := HX5.out.r0
     have r1 := HX5.out.r1
     have f0 := HX5.out.f0
     have f1 := HX5.out.f1
     have hlt5 := HX5.out.lt
     go_wp2_with fail
     have zz := two_setW (x0 := .bool neg) (x1 := (.slice p ws.length c)) r0 r1
     refine bodyPost_ret (v := .tuple #[.agg #[.bool neg, (.slice p ws.length c)], .int .i64 0]) (by simp [results, Tryz.results71, go_sem, zz.1, zz.2]) rfl ?_
     exact ⟨neg, _, _, 0, rfl, (HM.out.set2 hlt _ _).low (by omega), (HB5.out.setCell (by simp; omega) _).setCell (by simp; omega) _, .inr ⟨HZ0.out, by rw [HE.out, show (0 : Int).toNat = 0 from rfl, Int.pow_zero]; exact .inl ⟨small_one false, rfl, HS.out⟩⟩⟩
   · have hyf : ((ys.length : Int) == 0) = false := by rw [beq_eq_false_iff_ne]; omega
     have hyn : ¬ (ys.length : Int) = 0 := by omega
     have hyp : 0 < ys.length := by omega
     have hypz : (0 : Int) < (ys.length : Int) := by omega
     obtain ⟨b2, o2, rfl, hcy⟩ := HP2.out hyp
     have HLD := hid (low_digit HS2.out hyp)
     have hc0 := bcl HB4.out (hcy 0 hyp)
     have hb2lt : b2 < w.heap.size := World.block_lt_of_cell? w ⟨b2, _, none⟩ (hcy 0 hyp)
     have hyb := HS2.out.canon.1 0
     rw [B18] at hyb
     rw [Nat.add_zero] at hc0
     clear hcy
     have HLD' := HLD.out
     clear HLD
     generalize ys.getD 0 0 = y0 at hc0 hyb HLD'
     have HLD := hid HLD'
     clear HLD'
     by_cases hx0 : xs.length = 0
     · have hxt : ((xs.length : Int) == 0) = true := by simp; exact List.length_eq_zero_iff.1 hx0
       have HE := hid ((HS1.out.empty (by decide)).1 hx0)
       have HXX := hid hx0
       clear hx0
       go_wp2_with fail
       have zz := two_setW (x0 := .bool false) (x1 := (.slice none 0 0)) r0 r1
       refine bodyPost_ret (v := .tuple #[.agg #[.bool false, (.slice none 0 0)], .int .i64 0]) (by simp [results, Tryz.results71, go_sem, zz.1, zz.2]) rfl ?_
       exact ⟨false, _, _, 0, rfl, Mine.nil _ _, (HB4.out.setCell (by simp; omega) _).setCell (by simp; omega) _, .inr ⟨HZ0.out, by rw [HE.out, show z2.toNat = (z2.toNat - 1) + 1 by have := HLD.out.1; omega, Int.pow_succ, Int.mul_zero]; exact .inl ⟨I64.small ⟨by decide, by decide⟩, rfl, Sgn.zero (by decide)⟩⟩⟩
     · have hxf : ((xs.length : Int) == 0) = false := by rw [beq_eq_false_iff_ne]; omega
       have hxn : ¬ (xs.length : Int) = 0 := by omega
       have hxp : 0 < xs.length := by omega
       have hxpz : (0 : Int) < (xs.length : Int) := by omega
       obtain ⟨b1, o1, rfl, hcx⟩ := HP1.out hxp
       have hx0' := bcl HB4.out (hcx 0 hxp)
       rw [Nat.add_zero] at hx0'
       clear hcx
       by_cases hone : xs.length = 1 ∧ xs.getD 0 0 = 1
       · have HOV := hid (one_val HS1.out hone.1 hone.2)
         obtain rfl : xs = [1] := by
           match xs, hone.1 with
           | [d], _ => have := hone.2; simp at this; rw [this]
         simp only [List.length_singleton, List.getD_cons_zero] at hx0' s1
         clear hone hx0 hxn hxp hxpz hxf
         have HCP := hid (fun neg => (show Calls Tryz.prog 64 #[.bool neg, .slice (some ⟨b1, o1, none⟩) 1 c1] w4 (CopiedPost w4 neg [1]) from copied_any neg _ [1] w4 (HR1.out.keep HB4.out)))
         cases n1 with
         | false =>
           go_wp2_with fail
           have hcp := HCP.out false
           refine hcp.mono ?_
           clear hcp
           rintro e w5 ⟨k, g, hk, hg, rfl, hL, hb5⟩
           obtain ⟨neg', p, ws', hv, hM, hS, hlk⟩ := made_sgn (B0 := w4.heap.size) false hk HS1.out.canon.1 hL hg
           rw [hv]
           have HX5 := hid (HX4.out.keep hb5)
           have HB5 := hid (HB4.out.trans (hb5.mono HB4.out.size))
           have HM := hid (hM w5 rfl)
           have HS := hid hS
           clear hv hM hS hlk hb5 hL hk s0 s1 s2 s3 r0 r1 f0 f1
           have r0 := HX5.out.r0
           have r1 := HX5.out.r1
           have f0 := HX5.out.f0
           have f1 := HX5.out.f1
           have hlt5 := HX5.out.lt
           go_wp2_with fail
           have zz := two_setW (x0 := .bool neg') (x1 := (.slice p k k)) r0 r1
           refine bodyPost_ret (v := .tuple #[.agg #[.bool neg', (.slice p k k)], .int .i64 0]) (by simp [results, Tryz.results71, go_sem, zz.1, zz.2]) rfl ?_
           exact ⟨neg', _, _, 0, rfl, (HM.out.set2 hlt _ _).low (by omega), (HB5.out.setCell (by simp; omega) _).setCell (by simp; omega) _, .inr ⟨HZ0.out, by have h := HOV.out.1; rw [h, pow_sg]; exact .inl ⟨small_one _, rfl, by have h2 := HS.out; rw [HOV.out.2] at h2; exact h2⟩⟩⟩
         | true =>
           cases hod : (y0 % 2 == 1) with
           | false =>
             have hod2 : ¬ y0 % 2 = 1 := by simpa using hod
             go_wp2_with fail
             have hcp := HCP.out false
             refine hcp.mono ?_
             clear hcp
             rintro e w5 ⟨k, g, hk, hg, rfl, hL, hb5⟩
             obtain ⟨neg', p, ws', hv, hM, hS, hlk⟩ := made_sgn (B0 := w4.heap.size) false hk HS1.out.canon.1 hL hg
             rw [hv]
             have HX5 := hid (HX4.out.keep hb5)
             have HB5 := hid (HB4.out.trans (hb5.mono HB4.out.size))
             have HM := hid (hM w5 rfl)
             have HS := hid hS
             have HOD := hid hod2
             clear hv hM hS hlk hb5 hL hk s0 s1 s2 s3 r0 r1 f0 f1
             have r0 := HX5.out.r0
             have r1 := HX5.out.r1
             have f0 := HX5.out.f0
             have f1 := HX5.out.f1
             have hlt5 := HX5.out.lt
             go_wp2_with fail
             have zz := two_setW (x0 := .bool neg') (x1 := (.slice p k k)) r0 r1
             refine bodyPost_ret (v := .tuple #[.agg #[.bool neg', (.slice p k k)], .int .i64 0]) (by simp [results, Tryz.results71, go_sem, zz.1, zz.2]) rfl ?_
             exact ⟨neg', _, _, 0, rfl, (HM.out.set2 hlt _ _).low (by omega), (HB5.out.setCell (by simp; omega) _).setCell (by simp; omega) _, .inr ⟨HZ0.out, by have h := HOV.out.1; have hp : decide (z2.toNat % 2 = 1) = false := by {have := HLD.out.2.1; have := HOD.out; have := HZ0.out; simp; omega}; rw [h, pow_sg, hp]; exact .inl ⟨small_one _, rfl, by have h2 := HS.out; rw [HOV.out.2] at h2; exact h2⟩⟩⟩
           | true =>
             have hod2 : y0 % 2 = 1 := by simpa using hod
             go_wp2_with fail
             have hcp := HCP.out true
             refine hcp.mono ?_
             clear hcp
             rintro e w5 ⟨k, g, hk, hg, rfl, hL, hb5⟩
             obtain ⟨neg', p, ws', hv, hM, hS, hlk⟩ := made_sgn (B0 := w4.heap.size) true hk HS1.out.canon.1 hL hg
             rw [hv]
             have HX5 := hid (HX4.out.keep hb5)
             have HB5 := hid (HB4.out.trans (hb5.mono HB4.out.size))
             have HM := hid (hM w5 rfl)
             have HS := hid hS
             have HOD := hid hod2
             clear hv hM hS hlk hb5 hL hk s0 s1 s2 s3 r0 r1 f0 f1
             have r0 := HX5.out.r0
             have r1 := HX5.out.r1
             have f0 := HX5.out.f0
             have f1 := HX5.out.f1
             have hlt5 := HX5.out.lt
             go_wp2_with fail
             have zz := two_setW (x0 := .bool neg') (x1 := (.slice p k k)) r0 r1
             refine bodyPost_ret (v := .tuple #[.agg #[.bool neg', (.slice p k k)], .int .i64 0]) (by simp [results, Tryz.results71, go_sem, zz.1, zz.2]) rfl ?_
             exact ⟨neg', _, _, 0, rfl, (HM.out.set2 hlt _ _).low (by omega), (HB5.out.setCell (by simp; omega) _).setCell (by simp; omega) _, .inr ⟨HZ0.out, by have h := HOV.out.1; have hp : decide (z2.toNat % 2 = 1) = true := by {have := HLD.out.2.1; have := HOD.out; have := HZ0.out; simp; omega}; rw [h, pow_sg, hp]; exact .inl ⟨small_one _, rfl, by have h2 := HS.out; rw [HOV.out.2] at h2; exact h2⟩⟩⟩
       · have HT := hid (abs_two HS1.out hxp hone)
         by_cases hxl : xs.length = 1
         · obtain ⟨d, rfl⟩ : ∃ d, xs = [d] := by
             match xs, hxl with
             | [d], _ => exact ⟨d, rfl⟩
           have hd1 : (d == 1) = false := by rw [beq_eq_false_iff_ne]; exact fun e => hone ⟨rfl, by simpa using e⟩
           have hd2 : ¬ d = 1 := by simpa using hd1
           simp only [List.length_singleton, List.getD_cons_zero] at hx0' s1
           clear hone hx0 hxn hxp hxpz hxf hxl
           by_cases hyl : 1 < ys.length
           · have hylz : (1 : Int) < (ys.length : Int) := by omega
             have HNS := hid (show ¬ Small (z1 ^ z2.toNat) from big_pow HT.out (by have := HLD.out.2.2.2 hyl; omega))
             go_wp2_with fail
             have zz := two_setW (x0 := .bool false) (x1 := (.slice none 0 0)) r0 r1
             refine bodyPost_ret (v := .tuple #[.agg #[.bool false, (.slice none 0 0)], .int .i64 7]) (by simp [results, Tryz.results71, go_sem, zz.1, zz.2]) rfl ?_
             exact ⟨false, _, _, 7, rfl, Mine.nil _ _, (HB4.out.setCell (by simp; omega) _).setCell (by simp; omega) _, .inr ⟨HZ0.out, .inr ⟨HNS.out, rfl, rfl, rfl⟩⟩⟩
           · have hylz : ¬ (1 : Int) < (ys.length : Int) := by omega
             have HZY := hid (HLD.out.2.2.1 (by omega))
             by_cases hbig : 1794 ≤ y0
             · have HNS := hid (show ¬ Small (z1 ^ z2.toNat) from big_pow HT.out (by have := HZY.out; omega))
               go_wp2_with fail
               have zz := two_setW (x0 := .bool false) (x1 := (.slice none 0 0)) r0 r1
               refine bodyPost_ret (v := .tuple #[.agg #[.bool false, (.slice none 0 0)], .int .i64 7]) (by simp [results, Tryz.results71, go_sem, zz.1, zz.2]) rfl ?_
               exact ⟨false, _, _, 7, rfl, Mine.nil _ _, (HB4.out.setCell (by simp; omega) _).setCell (by simp; omega) _, .inr ⟨HZ0.out, .inr ⟨HNS.out, rfl, rfl, rfl⟩⟩⟩
             · obtain ⟨Y, rfl⟩ := Int.eq_ofNat_of_zero_le hyb.1
               have hz0 := HLD.out.1
               have HPW := hid (fun (wx : World) (hx : Below w.heap.size w wx) => show Calls Tryz.prog 109 #[.agg #[.bool n1, .slice (some ⟨b1, o1, none⟩) 1 c1], .int .u64 (Y : Int)] wx (ResPost wx wx.heap.size (z1 ^ Y)) from power_any n1 _ [d] z1 Y wx (HR1.out.keep hx) HS1.out hl1 (by have := HT.out; omega) ⟨by have := HZY.out; omega, by omega⟩)
               have HZT := hid (show z2.toNat = Y by have := HZY.out; omega)
               clear hz0
               go_wp2_with fail
               go_region_held3 (fun w' => w'.cell? ⟨w.heap.size, 0, none⟩ = some (.bool n1) ∧ w'.cell? ⟨w.heap.size, 1, none⟩ = some (.slice (some ⟨b1, o1, none⟩) 1 c1) ∧ w'.cell? ⟨w.heap.size + 1, 1, none⟩ = some (.slice (some ⟨b2, o2, none⟩) ys.length c2) ∧ w'.cell? ⟨b2, o2, none⟩ = some (.int .u64 (Y : Int)))
                 ((repeat' apply And.intro) <;> (first | with_reducible assumption | with_reducible exact drew_cellA (by assumption) | with_reducible exact cell_set2 (by omega) (by assumption) _ _ | with_reducible exact cell_set2 (by omega) (drew_cellA (by assumption)) _ _))
                 ((go_at_call 109; (with_reducible refine (HPW.out _ (by first | exact HB4.out | exact HB4.out.drew)).mono ?_); rintro e w6 ⟨neg, u, ws, er, rfl, hM, hb6, hcase⟩; obtain ⟨p, c, rfl⟩ := MU.form hM; have hq6 : Below w4.heap.size w4 w6 := ⟨hb6.os, hb6.tape, hb6.output, hb6.size, hb6.block⟩; have HM6 := hid (Mine.low hM (show w4.heap.size ≤ _ from Nat.le_refl _)); have HC6 := hid hcase; have hx6 := HX4.out.keep hq6; have k60 := hx6.x0; have k61 := hx6.x1; (try simp only [List.length_singleton] at k61); have k62 := hx6.y1; have k63 := bcl hq6 hc0; have m0 := hx6.r0; have m1 := hx6.r1; have mf0 := hx6.f0; have mf1 := hx6.f1; have HB6 := hid (HB4.out.trans (hq6.mono HB4.out.size)); have hlo2 : b2 < w4.heap.size := World.block_lt_of_cell? w4 ⟨b2, o2, none⟩ hc0; clear hM hcase hb6 hx6 hq6))
               go_wp2_with fail
               have zz := two_setW (x0 := .bool neg) (x1 := .slice p ws.length c) m0 m1
               refine bodyPost_ret (v := .tuple #[.agg #[.bool neg, .slice p ws.length c], .int .i64 er]) (by simp [results, Tryz.results71, go_sem, zz.1, zz.2]) rfl ?_
               exact ⟨neg, _, ws, er, rfl, (HM6.out.set2 hlt _ _).low (by omega), (HB6.out.setCell (by simp; omega) _).setCell (by simp; omega) _, .inr ⟨HZ0.out, by rw [HZT.out]; exact HC6.out⟩⟩
         · have hl1f : ((xs.length : Int) == 1) = false := by rw [beq_eq_false_iff_ne]; omega
           have hl1n : ¬ (xs.length : Int) = 1 := by omega
           by_cases hyl : 1 < ys.length
           · have hylz : (1 : Int) < (ys.length : Int) := by omega
             have HNS := hid (show ¬ Small (z1 ^ z2.toNat) from big_pow HT.out (by have := HLD.out.2.2.2 hyl; omega))
             go_wp2_with fail
             have zz := two_setW (x0 := .bool false) (x1 := (.slice none 0 0)) r0 r1
             refine bodyPost_ret (v := .tuple #[.agg #[.bool false, (.slice none 0 0)], .int .i64 7]) (by simp [results, Tryz.results71, go_sem, zz.1, zz.2]) rfl ?_
             exact ⟨false, _, _, 7, rfl, Mine.nil _ _, (HB4.out.setCell (by simp; omega) _).setCell (by simp; omega) _, .inr ⟨HZ0.out, .inr ⟨HNS.out, rfl, rfl, rfl⟩⟩⟩
           · have hylz : ¬ (1 : Int) < (ys.length : Int) := by omega
             have HZY := hid (HLD.out.2.2.1 (by omega))
             by_cases hbig : 1794 ≤ y0
             · have HNS := hid (show ¬ Small (z1 ^ z2.toNat) from big_pow HT.out (by have := HZY.out; omega))
               go_wp2_with fail
               have zz := two_setW (x0 := .bool false) (x1 := (.slice none 0 0)) r0 r1
               refine bodyPost_ret (v := .tuple #[.agg #[.bool false, (.slice none 0 0)], .int .i64 7]) (by simp [results, Tryz.results71, go_sem, zz.1, zz.2]) rfl ?_
               exact ⟨false, _, _, 7, rfl, Mine.nil _ _, (HB4.out.setCell (by simp; omega) _).setCell (by simp; omega) _, .inr ⟨HZ0.out, .inr ⟨HNS.out, rfl, rfl, rfl⟩⟩⟩
             · obtain ⟨Y, rfl⟩ := Int.eq_ofNat_of_zero_le hyb.1
               have hz0 := HLD.out.1
               have HPW := hid (fun (wx : World) (hx : Below w.heap.size w wx) => show Calls Tryz.prog 109 #[.agg #[.bool n1, .slice (some ⟨b1, o1, none⟩) xs.length c1], .int .u64 (Y : Int)] wx (ResPost wx wx.heap.size (z1 ^ Y)) from power_any n1 _ xs z1 Y wx (HR1.out.keep hx) HS1.out hl1 (by have := HT.out; omega) ⟨by have := HZY.out; omega, by omega⟩)
               have HZT := hid (show z2.toNat = Y by have := HZY.out; omega)
               clear hz0
               go_wp2_with fail
               go_region_held3 (fun w' => w'.cell? ⟨w.heap.size, 0, none⟩ = some (.bool n1) ∧ w'.cell? ⟨w.heap.size, 1, none⟩ = some (.slice (some ⟨b1, o1, none⟩) xs.length c1) ∧ w'.cell? ⟨w.heap.size + 1, 1, none⟩ = some (.slice (some ⟨b2, o2, none⟩) ys.length c2) ∧ w'.cell? ⟨b2, o2, none⟩ = some (.int .u64 (Y : Int)))
                 ((repeat' apply And.intro) <;> (first | with_reducible assumption | with_reducible exact drew_cellA (by assumption) | with_reducible exact cell_set2 (by omega) (by assumption) _ _ | with_reducible exact cell_set2 (by omega) (drew_cellA (by assumption)) _ _))
                 ((go_at_call 109; (with_reducible refine (HPW.out _ (by first | exact HB4.out | exact HB4.out.drew)).mono ?_); rintro e w6 ⟨neg, u, ws, er, rfl, hM, hb6, hcase⟩; obtain ⟨p, c, rfl⟩ := MU.form hM; have hq6 : Below w4.heap.size w4 w6 := ⟨hb6.os, hb6.tape, hb6.output, hb6.size, hb6.block⟩; have HM6 := hid (Mine.low hM (show w4.heap.size ≤ _ from Nat.le_refl _)); have HC6 := hid hcase; have hx6 := HX4.out.keep hq6; have k60 := hx6.x0; have k61 := hx6.x1; (try simp only [List.length_singleton] at k61); have k62 := hx6.y1; have k63 := bcl hq6 hc0; have m0 := hx6.r0; have m1 := hx6.r1; have mf0 := hx6.f0; have mf1 := hx6.f1; have HB6 := hid (HB4.out.trans (hq6.mono HB4.out.size)); have hlo2 : b2 < w4.heap.size := World.block_lt_of_cell? w4 ⟨b2, o2, none⟩ hc0; clear hM hcase hb6 hx6 hq6))
               go_wp2_with fail
               have zz := two_setW (x0 := .bool neg) (x1 := .slice p ws.length c) m0 m1
               refine bodyPost_ret (v := .tuple #[.agg #[.bool neg, .slice p ws.length c], .int .i64 er]) (by simp [results, Tryz.results71, go_sem, zz.1, zz.2]) rfl ?_
               exact ⟨neg, _, ws, er, rfl, (HM6.out.set2 hlt _ _).low (by omega), (HB6.out.setCell (by simp; omega) _).setCell (by simp; omega) _, .inr ⟨HZ0.out, by rw [HZT.out]; exact HC6.out⟩⟩
end
end
section
theorem Rd.drew {w : World} {v : Value} {ws : List Int} (h : Rd w v ws) : Rd w.drew v ws := h
theorem Rd.putN {w : World} {B : Nat} {v : Value} {ws : List Int} (hb : Box2 w B (.bool false) (.slice none 0 0)) (x y : Value) (h : Rd w v ws) : Rd ((w.setCell ⟨B, 0, none⟩ x).setCell ⟨B, 1, none⟩ y) v ws := h.put2 hb x y
structure PR (W wx : World) (b1 : Nat) (n1 : Bool) (p1 : Option Addr) (c1 : Nat) (ws : List Int) (er : Int) (C : Bool → List Int → Int → Prop) : Prop where
 below : Below W.heap.size W wx
 x1 : Box2 wx b1 (.bool n1) (.slice p1 ws.length c1)
 r1 : Rd wx (.slice p1 ws.length c1) ws
 case : C n1 ws er
def PAt (W wx : World) (C : Bool → List Int → Int → Prop) (e : Ending) (w' : World) : Prop :=
 ∃ n p c ws er, e = .returned (.tuple #[.agg #[.bool n, .slice p (List.length ws) c], .int .i64 er]) ∧ Rd w' (.slice p ws.length c) ws ∧ C n ws er ∧ Below W.heap.size W w' ∧ Below wx.heap.size wx w'
def BigAtE (W wx : World) (z : Int) (e : Ending) (w' : World) : Prop :=
 ∃ n p c ws, e = .returned (.agg #[.bool n, .slice p (List.length ws) c]) ∧ Rd w' (.slice p ws.length c) ws ∧ Sgn B18 n ws z ∧ Below W.heap.size W w' ∧ Below wx.heap.size wx w'
theorem wofn_at {W wx : World} {n : Int} (hn : I64 n) (hx : Below W.heap.size W wx) : Calls Tryz.prog 65 #[.int .i64 n] wx (BigAtE W wx n) := by
 refine (of_int n wx hn.lo hn.hi).mono ?_
 rintro e w' ⟨m, u, ws, rfl, hM, hS, hB⟩
 obtain ⟨p, c, rfl⟩ := MU.form hM
 have hlen : ws.length ≤ 30 := hS.small.2 hn.small
 exact ⟨m, p, c, ws, rfl, hM.rd (by omega), hS, hx.trans (hB.mono hx.size), hB⟩
theorem pow_at {W wx : World} {n1 : Bool} {u1 : Value} {xs : List Int} {z1 : Int} {n2 : Bool} {u2 : Value} {ys : List Int} {z2 : Int} (hr1 : Rd wx u1 xs) (hr2 : Rd wx u2 ys) (hs1 : Sgn B18 n1 xs z1) (hs2 : Sgn B18 n2 ys z2) (hl1 : xs.length ≤ 30) (hl2 : ys.length ≤ 30) (hz : 0 ≤ z2) (hx : Below W.heap.size W wx) :
   Calls Tryz.prog 71 #[.agg #[.bool n1, u1], .agg #[.bool n2, u2]] wx (PAt W wx (ResCase (z1 ^ Int.toNat z2))) := by
 refine (pow_good n1 u1 xs z1 n2 u2 ys z2 wx hr1 hr2 hs1 hs2 hl1 hl2).mono ?_
 rintro e w' ⟨n, u, ws, er, rfl, hM, hB, hc⟩
 obtain ⟨p, c, rfl⟩ := MU.form hM
 rcases hc with ⟨h, _⟩ | ⟨_, hc⟩
 · omega
 · exact ⟨n, p, c, ws, er, rfl, hM.rd (ResCase.len17 hc), hc, hx.trans (hB.mono hx.size), hB⟩
end
section
end
section
theorem refint_at {W wx : World} {n : Int} (hn : I64 n) (hx : Below W.heap.size W wx) : Calls Tryz.prog 16 #[.int .i64 n] wx (NumAt W wx n) := by
 refine (refint_any n hn wx).mono ?_
 rintro e w' ⟨m, u, ds, rfl, hb, hS, hB⟩
 obtain ⟨p, c, rfl, _, _, _⟩ := rb_form hb
 exact ⟨m, p, c, ds, rfl, hb, hS, hx.trans (hB.mono hx.size), hB⟩
theorem wof_at {W wx : World} {n : Int} (hn : I64 n) (hx : Below W.heap.size W wx) : Calls Tryz.prog 65 #[.int .i64 n] wx (BigAt W wx n) := by
 refine (of_int n wx hn.lo hn.hi).mono ?_
 rintro e w' ⟨m, u, ws, rfl, hM, hS, hB⟩
 obtain ⟨p, c, rfl⟩ := MU.form hM
 have hlen : ws.length ≤ 30 := hS.small.2 hn.small
 exact ⟨m, p, c, ws, rfl, hM.rd (by omega), hS, hx.trans (hB.mono hx.size), hB⟩
end
end Go.Proofs.YtlhfemgimieooaaGreatDoor
