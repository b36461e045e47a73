/- Layer 2: the reference's Int and Small: digits of an int, the int of digits. Layer 2: the reference's Small: the int of digits. -/
import Derived.Test.YtnfemojgecljiaaGreatDoorPGWf
import Derived.Test.YtnfemojgecljiaaGreatDoorPGWd
import Derived.Deep.CutBlock
namespace Go.Proofs.YtnfemojgecljiaaGreatDoor
section
open Go.ChangeShapes Go.WideShapes Go.ChangeAt Go.RowKit
set_option linter.unusedVariables false
set_option linter.unusedSimpArgs false
/-- An int's range. -/
structure I64 (z : Int) : Prop where
  lo : -9223372036854775808 ≤ z
  hi : z ≤ 9223372036854775807
theorem I64.small {n : Int} (h : I64 n) : Small n := by
  refine ⟨?_⟩
  have h1 := pow_mono' (b := 10) (by decide) (show 19 ≤ 540 by decide)
  rw [show (10 : Int) ^ 19 = 10000000000000000000 by decide] at h1
  have := h.lo; have := h.hi
  generalize (10 : Int) ^ 540 = P at h1 ⊢
  omega
structure IntState (a : Int) (ds : List Int) (u : Int) : Prop where
  dig : Dig 10 ds
  sum : val 10 ds + 10 ^ ds.length * u = a
  lo : 0 ≤ u
  last : u = 0 → 0 < ds.length → ds.getD (ds.length - 1) 0 ≠ 0
theorem IntState.start {a : Int} (h : 0 ≤ a) : IntState a [] a := ⟨Dig.nil (by decide), by simp [val], h, fun _ h => by simp at h⟩
theorem IntState.len {a u : Int} {ds : List Int} (h : IntState a ds u) (hu : 0 < u) (ha : a ≤ 18446744073709551615) : ds.length < 20 := by
  apply Classical.byContradiction
  intro hc
  have h1 := pow_mono' (b := 10) (by decide) (show 20 ≤ ds.length by omega)
  have h2 := val_nonneg (b := 10) (by decide) h.dig
  have h3 : (10 : Int) ^ ds.length * 1 ≤ 10 ^ ds.length * u := Int.mul_le_mul_of_nonneg_left (by omega) (Int.le_of_lt (pow_pos' (by decide) _))
  have h4 := h.sum
  rw [show (10 : Int) ^ 20 = 100000000000000000000 by decide] at h1
  omega
theorem getD_snoc_last (ds : List Int) (x : Int) : (ds ++ [x]).getD ((ds ++ [x]).length - 1) 0 = x := by
  simp [List.getD_eq_getElem?_getD]
theorem IntState.step {a u : Int} {ds : List Int} (h : IntState a ds u) (hu : 0 < u) : IntState a (ds ++ [u % 10]) (u / 10) := by
  refine ⟨h.dig.append (Dig.cons ⟨by omega, by omega⟩ (Dig.nil (by decide))), ?_, by omega, fun h0 _ => ?_⟩
  · rw [val_snoc, List.length_append, List.length_singleton, Int.pow_succ, ← h.sum]
    have e : (10 : Int) ^ ds.length * 10 * (u / 10) = 10 ^ ds.length * (10 * (u / 10)) := by rw [Int.mul_assoc]
    have e2 : (10 : Int) ^ ds.length * (u % 10) + 10 ^ ds.length * (10 * (u / 10)) = 10 ^ ds.length * u := by
      rw [← Int.mul_add]; congr 1; omega
    omega
  · rw [getD_snoc_last]; omega
theorem IntState.done {n a : Int} {ds : List Int} (h : IntState a ds 0) (ha : a = (n.natAbs : Int)) : Sgn 10 (decide (n < 0)) ds n := by
  have hs := h.sum
  rw [Int.mul_zero, Int.add_zero] at hs
  refine ⟨⟨h.dig, h.last rfl⟩, fun hn => ?_, ?_⟩
  · apply Classical.byContradiction
    intro hc
    obtain rfl := List.length_eq_zero_iff.1 (show ds.length = 0 by omega)
    simp [val] at hs
    simp at hn
    omega
  · unfold sg
    split <;> rename_i hh <;> simp at hh <;> omega
set_option maxRecDepth 100000 in
set_option maxHeartbeats 4000000 in
theorem refint_any (n : Int) (hn : I64 n) (w : World) : Calls Tryz.prog 20 #[.int .i64 n] w (NumPost w n) := by
  obtain ⟨i0, hi, hz0, hz1, hz2⟩ := info_parts infoU8
  have hlo := hn.lo
  have hhi := hn.hi
  obtain ⟨a, ha⟩ : ∃ a : Int, a = (n.natAbs : Int) := ⟨_, rfl⟩
  have ha0 : 0 ≤ a ∧ a ≤ 9223372036854775808 := by omega
  have HA := Lib.hid ha
  have hc : (n < 0 ∧ IntKind.u64.wrap n = n + 18446744073709551616 ∧ IntKind.u64.wrap (-(n + 18446744073709551616)) = a) ∨ (¬ n < 0 ∧ n = a) := by
    by_cases h : n < 0
    · exact .inl ⟨h, by rw [IntKind.wrap_u64]; omega, by rw [IntKind.wrap_u64]; omega⟩
    · exact .inr ⟨h, by omega⟩
  have HN := Lib.hid hn
  clear ha hn
  rcases hc with ⟨hneg, hw1, hw2⟩ | ⟨hneg, rfl⟩
  · have hdd : decide (n < 0) = true := by simpa using hneg
    go_enter Tryz.func20, Tryz.ntmps20
    go_wp2_with fail
    generalize hw2 : World.alloc w _ = w2
    have HB2 := Lib.hid (show Below w.heap.size w w2 by rw [← hw2]; exact (Below.refl _ _).alloc (Nat.le_refl _) _)
    have HX2 := Lib.hid (show Box2 w2 w.heap.size (.bool false) (.slice none 0 0) by rw [← hw2]; exact Box2.new _ _ _ _ rfl)
    clear hw2
    go_loopw [3, 4] (fun uv v wr => ∃ (u : Int) (os : List Int), uv = .int .u64 u ∧ IntState a os u ∧ u ≤ a ∧ OB wr w2.heap.size v os ∧ Below w2.heap.size w2 wr) (fun uv _ _ => (intOf uv).toNat)
    case atStart => exact ⟨_, [], rfl, IntState.start (by omega), Int.le_refl _, OW.nil _ _, Below.refl _ _⟩
    case round =>
      obtain ⟨u, os, rfl, hS, hua, hO, hB⟩ := hrel
      have HS := Lib.hid hS
      have HO := Lib.hid hO
      have HB := Lib.hid hB
      have HX := Lib.hid (HX2.out.keep hB)
      have hu0 := hS.lo
      clear hS hO hB
      by_cases hlt : 0 < u
      · have hol := HS.out.len hlt (by omega)
        go_wp2_with (at_builtin; refine wpList_append_own _ rfl _ _ 43 rfl w2.heap.size 5 i0 (.int .u8 0) 1 1 Tryz.underlying43 hi hz0 hz1 hz2 rfl (by decide) _ _ _ rfl (World.ownsRow.alloc HO.out _) ⟨wr.heap.size, 0, none⟩ 1 1 [.int .u8 (u % 10)] rfl rfl (one_newO _ _ _) (by simp [Value.oneCell']) (by unfold maxLen; omega) (by omega) (by have := HB.out.size; simp; omega) ?_; intro v' w4 hown' hgrow _)
        have HOn := Lib.hid (OW.snoc hown')
        have HBn := Lib.hid (HO.out.grown HB.out hgrow (Nat.le_refl _))
        have HSn := Lib.hid (HS.out.step hlt)
        clear hown' hgrow
        go_wp2
        go_roundw
        case rel => exact ⟨u / 10, os ++ [u % 10], rfl, HSn.out, by omega, HOn.out, HBn.out⟩
        case measure => simp [intOf]; omega
      · obtain rfl : u = 0 := by omega
        have HD := Lib.hid (HS.out.done HA.out)
        have hrb := HO.out.rb (by have := (HD.out.fits).2 (HN.out.small); omega)
        obtain ⟨p, cc, rfl, _, _, _⟩ := rb_form hrb
        have r0 := HX.out.c0
        have r1 := HX.out.c1
        have f0 := HX.out.f0
        have f1 := HX.out.f1
        have hlt2 := HX2.out.lt
        have HM := Lib.hid HO.out.mine
        clear hrb
        go_wp2_with fail
        have zz := two_setW (x0 := .bool true) (x1 := .slice p os.length cc) r0 r1
        have hd : decide (n < 0) = true := by simpa using hneg
        refine bodyPost_ret (v := .agg #[.bool true, .slice p os.length cc]) (by simp [results, Tryz.results20, go_sem, zz.1, zz.2]) rfl ⟨true, _, os, rfl, (HM.out.set2 hlt2 _ _).rb (by have := (HD.out.fits).2 (HN.out.small); omega), by have h := HD.out; rwa [hd] at h, ?_⟩
        exact ((HB2.out.trans (HB.out.mono HB2.out.size)).setCell (Nat.le_refl _) _).setCell (Nat.le_refl _) _
  · have hdd : decide (n < 0) = false := by simpa using hneg
    go_enter Tryz.func20, Tryz.ntmps20
    go_wp2_with fail
    generalize hw2 : World.alloc w _ = w2
    have HB2 := Lib.hid (show Below w.heap.size w w2 by rw [← hw2]; exact (Below.refl _ _).alloc (Nat.le_refl _) _)
    have HX2 := Lib.hid (show Box2 w2 w.heap.size (.bool false) (.slice none 0 0) by rw [← hw2]; exact Box2.new _ _ _ _ rfl)
    clear hw2
    go_loopw [3, 4] (fun uv v wr => ∃ (u : Int) (os : List Int), uv = .int .u64 u ∧ IntState n os u ∧ u ≤ n ∧ OB wr w2.heap.size v os ∧ Below w2.heap.size w2 wr) (fun uv _ _ => (intOf uv).toNat)
    case atStart => exact ⟨_, [], rfl, IntState.start (by omega), Int.le_refl _, OW.nil _ _, Below.refl _ _⟩
    case round =>
      obtain ⟨u, os, rfl, hS, hua, hO, hB⟩ := hrel
      have HS := Lib.hid hS
      have HO := Lib.hid hO
      have HB := Lib.hid hB
      have HX := Lib.hid (HX2.out.keep hB)
      have hu0 := hS.lo
      clear hS hO hB
      by_cases hlt : 0 < u
      · have hol := HS.out.len hlt (by omega)
        go_wp2_with (at_builtin; refine wpList_append_own _ rfl _ _ 43 rfl w2.heap.size 5 i0 (.int .u8 0) 1 1 Tryz.underlying43 hi hz0 hz1 hz2 rfl (by decide) _ _ _ rfl (World.ownsRow.alloc HO.out _) ⟨wr.heap.size, 0, none⟩ 1 1 [.int .u8 (u % 10)] rfl rfl (one_newO _ _ _) (by simp [Value.oneCell']) (by unfold maxLen; omega) (by omega) (by have := HB.out.size; simp; omega) ?_; intro v' w4 hown' hgrow _)
        have HOn := Lib.hid (OW.snoc hown')
        have HBn := Lib.hid (HO.out.grown HB.out hgrow (Nat.le_refl _))
        have HSn := Lib.hid (HS.out.step hlt)
        clear hown' hgrow
        go_wp2
        go_roundw
        case rel => exact ⟨u / 10, os ++ [u % 10], rfl, HSn.out, by omega, HOn.out, HBn.out⟩
        case measure => simp [intOf]; omega
      · obtain rfl : u = 0 := by omega
        have HD := Lib.hid (HS.out.done HA.out)
        have hrb := HO.out.rb (by have := (HD.out.fits).2 (HN.out.small); omega)
        obtain ⟨p, cc, rfl, _, _, _⟩ := rb_form hrb
        have r0 := HX.out.c0
        have r1 := HX.out.c1
        have f0 := HX.out.f0
        have f1 := HX.out.f1
        have hlt2 := HX2.out.lt
        have HM := Lib.hid HO.out.mine
        clear hrb
        go_wp2_with fail
        have zz := two_setW (x0 := .bool false) (x1 := .slice p os.length cc) r0 r1
        have hd : decide (n < 0) = false := by simpa using hneg
        refine bodyPost_ret (v := .agg #[.bool false, .slice p os.length cc]) (by simp [results, Tryz.results20, go_sem, zz.1, zz.2]) rfl ⟨false, _, os, rfl, (HM.out.set2 hlt2 _ _).rb (by have := (HD.out.fits).2 (HN.out.small); omega), by have h := HD.out; rwa [hd] at h, ?_⟩
        exact ((HB2.out.trans (HB.out.mono HB2.out.size)).setCell (Nat.le_refl _) _).setCell (Nat.le_refl _) _
end
section
open Go.ChangeShapes Go.WideShapes Go.ChangeAt Go.RowKit
set_option linter.unusedVariables false
set_option linter.unusedSimpArgs false
def SmallPost (W : World) (z : Int) (e : Ending) (w' : World) : Prop :=
  ∃ m ok, e = .returned (.tuple #[.int .i64 m, .bool ok]) ∧ ((I64 z ∧ m = z ∧ ok = true) ∨ (¬ I64 z ∧ ok = false)) ∧ Below W.heap.size W w'
theorem SmallPost.yes {W w' : World} {z m : Int} (h : I64 z) (e : m = z) (hb : Below W.heap.size W w') : SmallPost W z (.returned (.tuple #[.int .i64 m, .bool true])) w' := ⟨m, true, rfl, .inl ⟨h, e, rfl⟩, hb⟩
theorem SmallPost.no {W w' : World} {z m : Int} (h : ¬ I64 z) (hb : Below W.heap.size W w') : SmallPost W z (.returned (.tuple #[.int .i64 m, .bool false])) w' := ⟨m, false, rfl, .inr ⟨h, rfl⟩, hb⟩
theorem drop_lt {ds : List Int} (hd : Dig 10 ds) (hl : ds.length ≤ 19) {j : Nat} (hj : j < ds.length) : 0 ≤ val 10 (ds.drop (j + 1)) ∧ val 10 (ds.drop (j + 1)) < 1000000000000000000 := by
  have hdd : Dig 10 (ds.drop (j + 1)) := fun i => by rw [getD_dropD]; exact hd _
  have h1 := val_lt (b := 10) (by decide) hdd
  have h2 := pow_mono' (b := 10) (by decide) (show (ds.drop (j + 1)).length ≤ 18 by rw [List.length_drop]; omega)
  rw [show (10 : Int) ^ 18 = 1000000000000000000 by decide] at h2
  exact ⟨val_nonneg (by decide) hdd, by omega⟩
theorem val_19 {ds : List Int} (hd : Dig 10 ds) (hl : ds.length ≤ 19) : 0 ≤ val 10 ds ∧ val 10 ds < 10000000000000000000 := by
  have h1 := val_lt (b := 10) (by decide) hd
  have h2 := pow_mono' (b := 10) (by decide) hl
  rw [show (10 : Int) ^ 19 = 10000000000000000000 by decide] at h2
  exact ⟨val_nonneg (by decide) hd, by omega⟩
end
end Go.Proofs.YtnfemojgecljiaaGreatDoor
