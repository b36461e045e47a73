/- Layer 2: the reference's Int and Small: digits of an int, the int of digits. Layer 2: the reference's Small: the int of digits. Layer 2: whole.power: squaring its way up. Layer 2: whole.Pow. Layer 2: the law WholeExps, walked, at every input. Layer 2: whole.Int, and what it asks of the limbs. Layer 2: the law WholeForms, walked, at every input. -/
import Derived.Test.YtpebnofjcodikaaGreatDoorPGWf
import Derived.Test.YtpebnofjcodikaaGreatDoorPGWd
import Derived.Deep.CutBlock
import Derived.Test.YtpebnofjcodikaaGreatDoorPGWj
import Derived.Test.YtpebnofjcodikaaGreatDoorPGWg
import Derived.Deep.Cut
import Derived.Test.YtpebnofjcodikaaGreatDoorPGWc
namespace Go.Proofs.YtpebnofjcodikaaGreatDoor
section
section
open Go.ChangeShapes Go.WideShapes Go.ChangeAt Go.RowKit
set_option linter.unusedVariables false
set_option linter.unusedSimpArgs false
/-- An int's range. -/
structure I64 (z : Int) : Prop where
  lo : -9223372036854775808 ≤ z
  hi : z ≤ 9223372036854775807
theorem I64.small {n : Int} (h : I64 n) : Small n := by
  refine ⟨?_⟩
  have h1 := pow_mono' (b := 10) (by decide) (show 19 ≤ 540 by decide)
  rw [show (10 : Int) ^ 19 = 10000000000000000000 by decide] at h1
  have := h.lo; have := h.hi
  generalize (10 : Int) ^ 540 = P at h1 ⊢
  omega
structure IntState (a : Int) (ds : List Int) (u : Int) : Prop where
  dig : Dig 10 ds
  sum : val 10 ds + 10 ^ ds.length * u = a
  lo : 0 ≤ u
  last : u = 0 → 0 < ds.length → ds.getD (ds.length - 1) 0 ≠ 0
theorem IntState.start {a : Int} (h : 0 ≤ a) : IntState a [] a := ⟨Dig.nil (by decide), by simp [val], h, fun _ h => by simp at h⟩
theorem IntState.len {a u : Int} {ds : List Int} (h : IntState a ds u) (hu : 0 < u) (ha : a ≤ 18446744073709551615) : ds.length < 20 := by
  apply Classical.byContradiction
  intro hc
  have h1 := pow_mono' (b := 10) (by decide) (show 20 ≤ ds.length by omega)
  have h2 := val_nonneg (b := 10) (by decide) h.dig
  have h3 : (10 : Int) ^ ds.length * 1 ≤ 10 ^ ds.length * u := Int.mul_le_mul_of_nonneg_left (by omega) (Int.le_of_lt (pow_pos' (by decide) _))
  have h4 := h.sum
  rw [show (10 : Int) ^ 20 = 100000000000000000000 by decide] at h1
  omega
theorem getD_snoc_last (ds : List Int) (x : Int) : (ds ++ [x]).getD ((ds ++ [x]).length - 1) 0 = x := by
  simp [List.getD_eq_getElem?_getD]
theorem IntState.step {a u : Int} {ds : List Int} (h : IntState a ds u) (hu : 0 < u) : IntState a (ds ++ [u % 10]) (u / 10) := by
  refine ⟨h.dig.append (Dig.cons ⟨by omega, by omega⟩ (Dig.nil (by decide))), ?_, by omega, fun h0 _ => ?_⟩
  · rw [val_snoc, List.length_append, List.length_singleton, Int.pow_succ, ← h.sum]
    have e : (10 : Int) ^ ds.length * 10 * (u / 10) = 10 ^ ds.length * (10 * (u / 10)) := by rw [Int.mul_assoc]
    have e2 : (10 : Int) ^ ds.length * (u % 10) + 10 ^ ds.length * (10 * (u / 10)) = 10 ^ ds.length * u := by
      rw [← Int.mul_add]; congr 1; omega
    omega
  · rw [getD_snoc_last]; omega
theorem IntState.done {n a : Int} {ds : List Int} (h : IntState a ds 0) (ha : a = (n.natAbs : Int)) : Sgn 10 (decide (n < 0)) ds n := by
  have hs := h.sum
  rw [Int.mul_zero, Int.add_zero] at hs
  refine ⟨⟨h.dig, h.last rfl⟩, fun hn => ?_, ?_⟩
  · apply Classical.byContradiction
    intro hc
    obtain rfl := List.length_eq_zero_iff.1 (show ds.length = 0 by omega)
    simp [val] at hs
    simp at hn
    omega
  · unfold sg
    split <;> rename_i hh <;> simp at hh <;> omega
set_option maxRecDepth 100000 in
set_option maxHeartbeats 4000000 in
theorem refint_any (n : Int) (hn : I64 n) (w : World) : Calls Tryz.prog 13 #[.int .i64 n] w (NumPost w n) := by
  obtain ⟨i0, hi, hz0, hz1, hz2⟩ := info_parts infoU8
  have hlo := hn.lo
  have hhi := hn.hi
  obtain ⟨a, ha⟩ : ∃ a : Int, a = (n.natAbs : Int) := ⟨_, rfl⟩
  have ha0 : 0 ≤ a ∧ a ≤ 9223372036854775808 := by omega
  have HA := Lib.hid ha
  have hc : (n < 0 ∧ IntKind.u64.wrap n = n + 18446744073709551616 ∧ IntKind.u64.wrap (-(n + 18446744073709551616)) = a) ∨ (¬ n < 0 ∧ n = a) := by
    by_cases h : n < 0
    · exact .inl ⟨h, by rw [IntKind.wrap_u64]; omega, by rw [IntKind.wrap_u64]; omega⟩
    · exact .inr ⟨h, by omega⟩
  have HN := Lib.hid hn
  clear ha hn
  rcases hc with ⟨hneg, hw1, hw2⟩ | ⟨hneg, rfl⟩
  · have hdd : decide (n < 0) = true := by simpa using hneg
    go_enter Tryz.func13, Tryz.ntmps13
    go_wp2_with fail
    generalize hw2 : World.alloc w _ = w2
    have HB2 := Lib.hid (show Below w.heap.size w w2 by rw [← hw2]; exact (Below.refl _ _).alloc (Nat.le_refl _) _)
    have HX2 := Lib.hid (show Box2 w2 w.heap.size (.bool false) (.slice none 0 0) by rw [← hw2]; exact Box2.new _ _ _ _ rfl)
    clear hw2
    go_loopw [3, 4] (fun uv v wr => ∃ (u : Int) (os : List Int), uv = .int .u64 u ∧ IntState a os u ∧ u ≤ a ∧ OB wr w2.heap.size v os ∧ Below w2.heap.size w2 wr) (fun uv _ _ => (intOf uv).toNat)
    case atStart => exact ⟨_, [], rfl, IntState.start (by omega), Int.le_refl _, OW.nil _ _, Below.refl _ _⟩
    case round =>
      obtain ⟨u, os, rfl, hS, hua, hO, hB⟩ := hrel
      have HS := Lib.hid hS
      have HO := Lib.hid hO
      have HB := Lib.hid hB
      have HX := Lib.hid (HX2.out.keep hB)
      have hu0 := hS.lo
      clear hS hO hB
      by_cases hlt : 0 < u
      · have hol := HS.out.len hlt (by omega)
        go_wp2_with (at_builtin; refine wpList_append_own _ rfl _ _ 38 rfl w2.heap.size 5 i0 (.int .u8 0) 1 1 Tryz.underlying38 hi hz0 hz1 hz2 rfl (by decide) _ _ _ rfl (World.ownsRow.alloc HO.out _) ⟨wr.heap.size, 0, none⟩ 1 1 [.int .u8 (u % 10)] rfl rfl (one_newO _ _ _) (by simp [Value.oneCell']) (by unfold maxLen; omega) (by omega) (by have := HB.out.size; simp; omega) ?_; intro v' w4 hown' hgrow _)
        have HOn := Lib.hid (OW.snoc hown')
        have HBn := Lib.hid (HO.out.grown HB.out hgrow (Nat.le_refl _))
        have HSn := Lib.hid (HS.out.step hlt)
        clear hown' hgrow
        go_wp2
        go_roundw
        case rel => exact ⟨u / 10, os ++ [u % 10], rfl, HSn.out, by omega, HOn.out, HBn.out⟩
        case measure => simp [intOf]; omega
      · obtain rfl : u = 0 := by omega
        have HD := Lib.hid (HS.out.done HA.out)
        have hrb := HO.out.rb (by have := (HD.out.fits).2 (HN.out.small); omega)
        obtain ⟨p, cc, rfl, _, _, _⟩ := rb_form hrb
        have r0 := HX.out.c0
        have r1 := HX.out.c1
        have f0 := HX.out.f0
        have f1 := HX.out.f1
        have hlt2 := HX2.out.lt
        have HM := Lib.hid HO.out.mine
        clear hrb
        go_wp2_with fail
        have zz := two_setW (x0 := .bool true) (x1 := .slice p os.length cc) r0 r1
        have hd : decide (n < 0) = true := by simpa using hneg
        refine bodyPost_ret (v := .agg #[.bool true, .slice p os.length cc]) (by simp [results, Tryz.results13, go_sem, zz.1, zz.2]) rfl ⟨true, _, os, rfl, (HM.out.set2 hlt2 _ _).rb (by have := (HD.out.fits).2 (HN.out.small); omega), by have h := HD.out; rwa [hd] at h, ?_⟩
        exact ((HB2.out.trans (HB.out.mono HB2.out.size)).setCell (Nat.le_refl _) _).setCell (Nat.le_refl _) _
  · have hdd : decide (n < 0) = false := by simpa using hneg
    go_enter Tryz.func13, Tryz.ntmps13
    go_wp2_with fail
    generalize hw2 : World.alloc w _ = w2
    have HB2 := Lib.hid (show Below w.heap.size w w2 by rw [← hw2]; exact (Below.refl _ _).alloc (Nat.le_refl _) _)
    have HX2 := Lib.hid (show Box2 w2 w.heap.size (.bool false) (.slice none 0 0) by rw [← hw2]; exact Box2.new _ _ _ _ rfl)
    clear hw2
    go_loopw [3, 4] (fun uv v wr => ∃ (u : Int) (os : List Int), uv = .int .u64 u ∧ IntState n os u ∧ u ≤ n ∧ OB wr w2.heap.size v os ∧ Below w2.heap.size w2 wr) (fun uv _ _ => (intOf uv).toNat)
    case atStart => exact ⟨_, [], rfl, IntState.start (by omega), Int.le_refl _, OW.nil _ _, Below.refl _ _⟩
    case round =>
      obtain ⟨u, os, rfl, hS, hua, hO, hB⟩ := hrel
      have HS := Lib.hid hS
      have HO := Lib.hid hO
      have HB := Lib.hid hB
      have HX := Lib.hid (HX2.out.keep hB)
      have hu0 := hS.lo
      clear hS hO hB
      by_cases hlt : 0 < u
      · have hol := HS.out.len hlt (by omega)
        go_wp2_with (at_builtin; refine wpList_append_own _ rfl _ _ 38 rfl w2.heap.size 5 i0 (.int .u8 0) 1 1 Tryz.underlying38 hi hz0 hz1 hz2 rfl (by decide) _ _ _ rfl (World.ownsRow.alloc HO.out _) ⟨wr.heap.size, 0, none⟩ 1 1 [.int .u8 (u % 10)] rfl rfl (one_newO _ _ _) (by simp [Value.oneCell']) (by unfold maxLen; omega) (by omega) (by have := HB.out.size; simp; omega) ?_; intro v' w4 hown' hgrow _)
        have HOn := Lib.hid (OW.snoc hown')
        have HBn := Lib.hid (HO.out.grown HB.out hgrow (Nat.le_refl _))
        have HSn := Lib.hid (HS.out.step hlt)
        clear hown' hgrow
        go_wp2
        go_roundw
        case rel => exact ⟨u / 10, os ++ [u % 10], rfl, HSn.out, by omega, HOn.out, HBn.out⟩
        case measure => simp [intOf]; omega
      · obtain rfl : u = 0 := by omega
        have HD := Lib.hid (HS.out.done HA.out)
        have hrb := HO.out.rb (by have := (HD.out.fits).2 (HN.out.small); omega)
        obtain ⟨p, cc, rfl, _, _, _⟩ := rb_form hrb
        have r0 := HX.out.c0
        have r1 := HX.out.c1
        have f0 := HX.out.f0
        have f1 := HX.out.f1
        have hlt2 := HX2.out.lt
        have HM := Lib.hid HO.out.mine
        clear hrb
        go_wp2_with fail
        have zz := two_setW (x0 := .bool false) (x1 := .slice p os.length cc) r0 r1
        have hd : decide (n < 0) = false := by simpa using hneg
        refine bodyPost_ret (v := .agg #[.bool false, .slice p os.length cc]) (by simp [results, Tryz.results13, go_sem, zz.1, zz.2]) rfl ⟨false, _, os, rfl, (HM.out.set2 hlt2 _ _).rb (by have := (HD.out.fits).2 (HN.out.small); omega), by have h := HD.out; rwa [hd] at h, ?_⟩
        exact ((HB2.out.trans (HB.out.mono HB2.out.size)).setCell (Nat.le_refl _) _).setCell (Nat.le_refl _) _
end
section
open Go.ChangeShapes Go.WideShapes Go.ChangeAt Go.RowKit
set_option linter.unusedVariables false
set_option linter.unusedSimpArgs false
def SmallPost (W : World) (z : Int) (e : Ending) (w' : World) : Prop :=
  ∃ m ok, e = .returned (.tuple #[.int .i64 m, .bool ok]) ∧ ((I64 z ∧ m = z ∧ ok = true) ∨ (¬ I64 z ∧ ok = false)) ∧ Below W.heap.size W w'
theorem SmallPost.yes {W w' : World} {z m : Int} (h : I64 z) (e : m = z) (hb : Below W.heap.size W w') : SmallPost W z (.returned (.tuple #[.int .i64 m, .bool true])) w' := ⟨m, true, rfl, .inl ⟨h, e, rfl⟩, hb⟩
theorem SmallPost.no {W w' : World} {z m : Int} (h : ¬ I64 z) (hb : Below W.heap.size W w') : SmallPost W z (.returned (.tuple #[.int .i64 m, .bool false])) w' := ⟨m, false, rfl, .inr ⟨h, rfl⟩, hb⟩
end
end
section
section
open Go.ChangeShapes Go.WideShapes Go.ChangeAt Go.RowKit
set_option linter.unusedVariables false
set_option linter.unusedSimpArgs false
theorem Rd.put2 {w : World} {B : Nat} {a : Bool} {p : Option Addr} {n c : Nat} {v : Value} {ws : List Int} (h : Rd w v ws) (hb : Box2 w B (.bool a) (.slice p n c)) (x y : Value) : Rd ((w.setCell ⟨B, 0, none⟩ x).setCell ⟨B, 1, none⟩ y) v ws := by
  rcases h with h | ⟨b, off, cc, rfl, h1, h2, h3⟩
  · exact .inl h
  · refine .inr ⟨b, off, cc, rfl, h1, h2, fun i hi => ?_⟩
    have h4 := h3 i hi
    have e0 : (⟨B, 0, none⟩ : Addr) ≠ ⟨b, off + i, none⟩ := fun e => by rw [← e, hb.c0] at h4; simp at h4
    have e1 : (⟨B, 1, none⟩ : Addr) ≠ ⟨b, off + i, none⟩ := fun e => by rw [← e, hb.c1] at h4; simp at h4
    exact (World.cell?_setCell_other _ _ _ _ e1).trans ((World.cell?_setCell_other _ _ _ _ e0).trans h4)
theorem MU.put2 {w : World} {B B0 : Nat} {a : Bool} {p : Option Addr} {n c : Nat} {v : Value} {ws : List Int} (h : MU w B0 v ws) (hl : 0 < ws.length) (hb : Box2 w B (.bool a) (.slice p n c)) (x y : Value) : MU ((w.setCell ⟨B, 0, none⟩ x).setCell ⟨B, 1, none⟩ y) B0 v ws := by
  rcases h with h | ⟨g, c, cur, h0, h1, h2, h3, h4, h5⟩
  · exact .inl h
  · have hne : B ≠ g := by
      intro e
      subst e
      have hc := hb.c0
      simp [World.cell?, h4, h5 0 hl] at hc
    refine .inr ⟨g, c, cur, h0, h1, h2, h3, ?_, h5⟩
    rw [Below.heap_setCell _ _ _ _ (by simp; omega), Below.heap_setCell _ _ _ _ (by simp; omega)]
    exact h4
theorem Sgn.row {b : Int} (hb : 0 < b) {neg : Bool} {ws : List Int} {z : Int} (h : Sgn b neg ws z) (hz : z ≠ 0) : 0 < ws.length := by
  apply Classical.byContradiction
  intro hc
  exact hz ((h.empty hb).1 (by omega))
/-- The numbers in their boxes at a round's head. -/
structure PowSt (w wr : World) (bO : Nat) (nx : Bool) (px : Option Addr) (cx : Nat) (xs : List Int) (zx : Int) (no : Bool) (po : Option Addr) (co : Nat) (os : List Int) (zo : Int) : Prop where
  bx : Box2 wr w.heap.size (.bool nx) (.slice px xs.length cx)
  rx : Rd wr (.slice px xs.length cx) xs
  sx : Sgn B18 nx xs zx
  lx : xs.length ≤ 30
  bo : Box2 wr bO (.bool no) (.slice po os.length co)
  mo : MU wr w.heap.size (.slice po os.length co) os
  so : Sgn B18 no os zo
  lo : os.length ≤ 30
  res : Box2 wr (w.heap.size + 1) (.bool false) (.slice none 0 0)
  x0 : zx ≠ 0
  o0 : zo ≠ 0
  hO : w.heap.size + 1 < bO
  below : Below w.heap.size w wr
theorem PowSt.keep {w wr w' : World} {bO : Nat} {nx : Bool} {px : Option Addr} {cx : Nat} {xs : List Int} {zx : Int} {no : Bool} {po : Option Addr} {co : Nat} {os : List Int} {zo : Int} (h : PowSt w wr bO nx px cx xs zx no po co os zo) (hb : Below wr.heap.size wr w') : PowSt w w' bO nx px cx xs zx no po co os zo :=
  ⟨h.bx.keep hb, h.rx.keep hb, h.sx, h.lx, h.bo.keep hb, h.mo.keep hb, h.so, h.lo, h.res.keep hb, h.x0, h.o0, h.hO, h.below.trans (hb.mono h.below.size)⟩
end
section
open Go.ChangeShapes Go.WideShapes Go.ChangeAt Go.RowKit
set_option linter.unusedVariables false
set_option linter.unusedSimpArgs false
end
end
section
open Go.ChangeShapes Go.WideShapes Go.ChangeAt Go.RowKit
set_option linter.unusedVariables false
set_option linter.unusedSimpArgs false
theorem Rd.drew {w : World} {v : Value} {ws : List Int} (h : Rd w v ws) : Rd w.drew v ws := h
theorem Rd.putN {w : World} {B : Nat} {v : Value} {ws : List Int} (hb : Box2 w B (.bool false) (.slice none 0 0)) (x y : Value) (h : Rd w v ws) : Rd ((w.setCell ⟨B, 0, none⟩ x).setCell ⟨B, 1, none⟩ y) v ws := h.put2 hb x y
end
section
open Go.ChangeShapes Go.WideShapes Go.ChangeAt Go.RowKit
set_option linter.unusedVariables false
set_option linter.unusedSimpArgs false
def SizePost (W : World) (xs : List Int) (e : Ending) (w' : World) : Prop :=
  ∃ s ok, e = .returned (.tuple #[.int .u64 s, .bool ok]) ∧ 0 ≤ s ∧ s ≤ 18446744073709551615 ∧ (ok = true → s = val B18 xs) ∧ (ok = false → 10000000000000000000 ≤ val B18 xs) ∧ Below W.heap.size W w'
set_option maxRecDepth 100000 in
set_option maxHeartbeats 2000000 in
theorem sizeOf_any (u : Value) (xs : List Int) (w : World) (hr : Rd w u xs) (hc : Canon B18 xs) : Calls Tryz.prog 93 #[u] w (SizePost w xs) := by
  obtain ⟨p, c, rfl, hcc, hm, hp⟩ := rd_form hr
  have hd := hc.1
  have HC := Lib.hid hc
  clear hr hc
  match xs with
  | [] =>
    clear hp
    go_enter Tryz.func93, Tryz.ntmps93
    go_wp2
    go_ret2
    exact ⟨0, true, rfl, by omega, by omega, fun _ => rfl, (fun h => by cases h), Below.refl _ _⟩
  | [a] =>
    obtain ⟨b, off, rfl, hcell⟩ := hp (by simp)
    have h0 := hcell 0 (by simp)
    have hb := hd.head
    clear hcell hp
    rw [B18] at hb
    simp only [List.length_singleton, List.getD_cons_zero, Nat.add_zero] at h0 ⊢
    go_enter Tryz.func93, Tryz.ntmps93
    go_wp2
    go_ret2
    exact ⟨a, true, rfl, by omega, by omega, fun _ => (val_one _ _).symm, (fun h => by cases h), Below.refl _ _⟩
  | [a, a2] =>
    obtain ⟨b, off, rfl, hcell⟩ := hp (by simp)
    have h0 := hcell 0 (by simp)
    have h1 := hcell 1 (by simp)
    have hb := hd.head
    have hb2 := hd.tail.head
    have hl : ([a, a2] : List Int).length = 2 := rfl
    have hv : val B18 [a, a2] = a + 1000000000000000000 * a2 := by simp [val]
    clear hcell hp
    rw [B18] at hb hb2
    simp only [hl, List.getD_cons_zero, List.getD_cons_succ, Nat.add_zero] at h0 h1 ⊢
    have HV := Lib.hid hv
    clear hv hl HC hd
    by_cases h10 : a2 < 10
    · go_enter Tryz.func93, Tryz.ntmps93
      go_wp2
      go_region
      go_wp2
      go_ret2
      exact ⟨_, true, rfl, by omega, by omega, fun _ => by rw [HV.out]; omega, (fun h => by cases h), (Below.refl _ _).drew⟩
    · have hd10 : decide (a2 < 10) = false := by simpa using h10
      go_enter Tryz.func93, Tryz.ntmps93
      go_wp2
      go_region
      go_wp2
      go_ret2
      exact ⟨IntKind.u64.wrap (IntKind.u64.wrap (a2 * 1000000000000000000) + a), false, rfl, by rw [IntKind.wrap_u64]; omega, by rw [IntKind.wrap_u64]; omega, (fun h => by cases h), fun _ => by rw [HV.out]; omega, (Below.refl _ _).drew⟩
  | a :: a2 :: a3 :: r =>
    have hl : 3 ≤ (a :: a2 :: a3 :: r).length := by simp
    have hv := canon_lo (b := B18) (by decide) HC.out (by simp)
    generalize a :: a2 :: a3 :: r = ys at *
    have h2 := pow_mono' (b := B18) (by decide) (show 2 ≤ ys.length - 1 by omega)
    rw [show B18 ^ 2 = 1000000000000000000000000000000000000 by decide] at h2
    have HV := Lib.hid (show 10000000000000000000 ≤ val B18 ys from Int.le_trans (by decide) (Int.le_trans h2 hv))
    have n0 : ((ys.length : Int) == 0) = false := by rw [beq_eq_false_iff_ne]; omega
    have n1 : ((ys.length : Int) == 1) = false := by rw [beq_eq_false_iff_ne]; omega
    have n2 : ((ys.length : Int) == 2) = false := by rw [beq_eq_false_iff_ne]; omega
    clear hv h2 hp HC hd
    go_enter Tryz.func93, Tryz.ntmps93
    go_wp2
    go_ret2
    exact ⟨0, false, rfl, by omega, by omega, (fun h => by cases h), fun _ => HV.out, Below.refl _ _⟩
/-- What Int answers. -/
def IntPost (W : World) (z : Int) (e : Ending) (w' : World) : Prop :=
  ∃ m er : Int, e = .returned (.tuple #[.int .i64 m, .int .i64 er]) ∧ ((I64 z ∧ m = z ∧ er = 0) ∨ (¬ I64 z ∧ m = 0 ∧ er = 7)) ∧ Below W.heap.size W w'
theorem IntPost.yes {W w' : World} {z m : Int} (h : I64 z) (e : m = z) (hb : Below W.heap.size W w') : IntPost W z (.returned (.tuple #[.int .i64 m, .int .i64 0])) w' := ⟨m, 0, rfl, .inl ⟨h, e, rfl⟩, hb⟩
theorem IntPost.no {W w' : World} {z : Int} (h : ¬ I64 z) (hb : Below W.heap.size W w') : IntPost W z (.returned (.tuple #[.int .i64 0, .int .i64 7])) w' := ⟨0, 7, rfl, .inr ⟨h, rfl, rfl⟩, hb⟩
set_option maxRecDepth 100000 in
set_option maxHeartbeats 4000000 in
theorem wint_good (n1 : Bool) (u1 : Value) (xs : List Int) (z : Int) (w : World) (hr : Rd w u1 xs) (hs : Sgn B18 n1 xs z) (hl : xs.length ≤ 30) : Calls Tryz.prog 61 #[.agg #[.bool n1, u1]] w (IntPost w z) := by
  have HR := Lib.hid hr
  have HS := Lib.hid hs
  obtain ⟨p, c, rfl, _, _, _⟩ := rd_form hr
  clear hr hs
  go_enter Tryz.func61, Tryz.ntmps61
  go_wp2_with fail
  generalize hw1 : World.alloc w _ = w1
  have HB1 := Lib.hid (show Below w.heap.size w w1 by rw [← hw1]; exact (Below.refl _ _).alloc (Nat.le_refl _) _)
  have HX1 := Lib.hid (show Box2 w1 w.heap.size (.bool n1) (.slice p xs.length c) by rw [← hw1]; exact Box2.new _ _ _ _ rfl)
  clear hw1
  have q0 := HX1.out.c0
  have q1 := HX1.out.c1
  refine (good_yes _ _ xs z w1 (HR.out.keep HB1.out) HS.out hl).mono ?_
  rintro e w2 ⟨rfl, hb2⟩
  have HB2 := Lib.hid (HB1.out.trans (hb2.mono HB1.out.size))
  have HX2 := Lib.hid (HX1.out.keep hb2)
  clear q0 q1 hb2
  have q0 := HX2.out.c0
  have q1 := HX2.out.c1
  go_wp2_with fail
  refine (sizeOf_any _ xs w2 (HR.out.keep HB2.out) HS.out.canon).mono ?_
  rintro e w3 ⟨s, ok, rfl, hs0, hs1, hyes, hno, hb3⟩
  have HB3 := Lib.hid (HB2.out.trans (hb3.mono HB2.out.size))
  have HX3 := Lib.hid (HX2.out.keep hb3)
  clear q0 q1 hb3
  have q0 := HX3.out.c0
  have q1 := HX3.out.c1
  have hz := HS.out.eq
  cases ok with
  | false =>
    have HV := Lib.hid (hno rfl)
    have HZ := Lib.hid hz
    clear hyes hno hz
    go_wp2_with fail
    go_ret2
    refine IntPost.no (fun h => ?_) HB3.out
    have h1 := h.lo; have h2 := h.hi; have h3 := HV.out; have h4 := HZ.out
    unfold sg at h4
    split at h4 <;> omega
  | true =>
    have HZ := Lib.hid (show z = sg n1 s by rw [hyes rfl]; exact hz)
    clear hyes hno hz
    cases n1 with
    | false =>
      have hzs : z = s := HZ.out
      have HE := Lib.hid hzs
      clear hzs
      by_cases h1 : 9223372036854775808 ≤ s
      · by_cases h2 : 9223372036854775808 < s
        · go_wp2_with fail
          go_ret2
          exact IntPost.no (fun h => by have h3 := h.hi; have h4 := HE.out; omega) HB3.out
        · have h3 : (s == 9223372036854775808) = true := by simp; omega
          obtain rfl : s = 9223372036854775808 := by omega
          go_wp2_with fail
          go_ret2
          exact IntPost.no (fun h => by have h3 := h.hi; have h4 := HE.out; omega) HB3.out
      · have h2 : ¬ 9223372036854775808 < s := by omega
        have h3 : (s == 9223372036854775808) = false := by rw [beq_eq_false_iff_ne]; omega
        have h4 : ¬ s = 9223372036854775808 := by omega
        go_wp2_with fail
        go_ret2
        exact IntPost.yes ⟨by have := HE.out; omega, by have := HE.out; omega⟩ HE.out.symm HB3.out
    | true =>
      have hzs : z = -s := HZ.out
      have HE := Lib.hid hzs
      clear hzs
      by_cases h2 : 9223372036854775808 < s
      · go_wp2_with fail
        go_ret2
        exact IntPost.no (fun h => by have h3 := h.lo; have h4 := HE.out; omega) HB3.out
      · by_cases h4 : s = 9223372036854775808
        · subst h4
          go_wp2_with fail
          go_ret2
          exact IntPost.yes ⟨by have := HE.out; omega, by have := HE.out; omega⟩ (by rw [HE.out, IntKind.wrap_u64]; unfold wrap64; omega) HB3.out
        · have h3 : (s == 9223372036854775808) = false := by rw [beq_eq_false_iff_ne]; omega
          have h5 : IntKind.i64.wrap (IntKind.u64.wrap (-s)) = -s := by simp only [IntKind.wrap_i64, IntKind.wrap_u64]; omega
          go_wp2_with fail
          go_ret2
          exact IntPost.yes ⟨by have := HE.out; omega, by have := HE.out; omega⟩ HE.out.symm HB3.out
end
section
open Go.ChangeShapes Go.WideShapes Go.ChangeAt Go.RowKit
set_option linter.unusedVariables false
set_option linter.unusedSimpArgs false
theorem refint_at {W wx : World} {n : Int} (hn : I64 n) (hx : Below W.heap.size W wx) : Calls Tryz.prog 13 #[.int .i64 n] wx (NumAt W wx n) := by
  refine (refint_any n hn wx).mono ?_
  rintro e w' ⟨m, u, ds, rfl, hb, hS, hB⟩
  obtain ⟨p, c, rfl, _, _, _⟩ := rb_form hb
  exact ⟨m, p, c, ds, rfl, hb, hS, hx.trans (hB.mono hx.size), hB⟩
theorem wof_at {W wx : World} {n : Int} (hn : I64 n) (hx : Below W.heap.size W wx) : Calls Tryz.prog 52 #[.int .i64 n] wx (BigAt W wx n) := by
  refine (of_int n wx hn.lo hn.hi).mono ?_
  rintro e w' ⟨m, u, ws, rfl, hM, hS, hB⟩
  obtain ⟨p, c, rfl⟩ := MU.form hM
  have hlen : ws.length ≤ 30 := hS.small.2 hn.small
  exact ⟨m, p, c, ws, rfl, hM.rd (by omega), hS, hx.trans (hB.mono hx.size), hB⟩
end
end Go.Proofs.YtpebnofjcodikaaGreatDoor
