/- The chapter's example, which each statement of layer 20 asks first: it answers true. -/
import Derived.Test.YtilonacjmihglaaPFnew
import Derived.Deep.RegionHeld3
namespace Go.Proofs.Ytilonacjmihglaa
open Go Go.ChangeShapes Go.WideShapes Go.ChangeAt Go.RowKit
set_option linter.unusedVariables false
set_option linter.unusedSimpArgs false
def k20a : List Int := [0, 42949675027, 0, 2, 2, 1, 2, 1, 2, 14, 14, 0, 0, 0, 0, 0, 0, 0, 0, 0]
def k20b : List Int := [0, 42949675027, 0, 2, 2, 1, 2, 1, 2, 14, 21, 0, 0, 0, 0, 0, 0, 0, 0, 0]
theorem k20_1 : newL (List.replicate 20 0) 1 2 = k20a := by decide +kernel
theorem k20_2 : k20a.set ((4 / 4 : Int).toNat + 2 + (6 + 1 : Int).toNat) 21 = k20b := by decide +kernel
theorem k20_3 : clrL k20b (4 / 4 : Int).toNat [1] (frN (k20b.take 11) 4).toNat = k20a := by decide +kernel
theorem k20_4 : (slotB (k20a.take 11) 4 (frN (k20a.take 11) 4) 1 && goodW (k20a.take 11) 21) = true := by decide +kernel
theorem k20_5 : slotV (k20b.take 11) 4 6 (frN (k20b.take 11) 4) 1 = 21 ∧ slotE (k20b.take 11) 4 (frN (k20b.take 11) 4) 1 = 0 := by decide +kernel
theorem k20_6 : isF (k20b.take 11) 4 = true := by decide +kernel
theorem k20_7 : frN (k20a.take 11) 4 = 2 ∧ regE (k20a.take 11) 4 = 0 := by decide +kernel
set_option maxRecDepth 100000 in
set_option maxHeartbeats 2000000 in
theorem known20 (w : World) :
    Calls Try.prog 4 #[] w fun e w' => e = .returned (.bool true) ∧ Below w.heap.size w w' := by
  go_enter Try.func4, Try.ntmps4
  go_wp2_with fail
  refine (new_good 20 (by omega) _).mono ?_
  rintro e w1 ⟨g, rfl, hg, hrow, hb⟩
  have hgl := hrow.lt
  have hpm : PM (w1.alloc (Obj.cells #[Value.slice (some ⟨g, 0, none⟩) 20 20, Value.int .i64 1] 24)) w1.heap.size g 20 1 (List.replicate 20 0) := by
    refine ⟨⟨by simp, by simp, by simp, ⟨_, hrow.alloc _, fun i hi => ?_⟩, by simp, by simp, by omega⟩, fun i => ?_, by simp⟩
    · show Value.int .u64 0 = Value.int .u64 ((List.replicate 20 0).getD i 0)
      rw [List.getD_eq_getElem?_getD, List.getElem?_replicate]; split <;> rfl
    · rw [List.getD_eq_getElem?_getD, List.getElem?_replicate]; split <;> simp
  have hb0 : Below w.heap.size w (w1.alloc (Obj.cells #[Value.slice (some ⟨g, 0, none⟩) 20 20, Value.int .i64 1] 24)) := hb.alloc hb.size _
  have hX := hb.size
  have HX := Lib.hid hX
  have HG := Lib.hid hg
  have HGL := Lib.hid hgl
  clear hrow hb hX hg hgl
  go_wp2_with fail
  have HC := fnew_good hpm 2 (by omega) (by omega) (by simp) (by omega)
  refine HC.mono ?_
  clear HC
  rintro e w2 ⟨rfl, hpm2, hbt⟩
  have HB2 := Lib.hid (hb0.trans (hbt.below (X := w.heap.size) hb0.size HX.out HG.out))
  rw [k20_1] at hpm2
  have HP2 := Lib.hid (show PM w2 w1.heap.size g 20 11 k20a from hpm2)
  have HL0 := Lib.hid (show g < w1.heap.size from HGL.out)
  clear hpm hb0 hpm2 hbt
  go_wp2_with fail
  refine (setReg_any HP2.out 4 1 21 (by decide) (by omega) (by decide)).mono ?_
  rintro e w3 (⟨_, rfl, hpm3, hbt⟩ | ⟨h0, _⟩)
  rotate_left
  · rw [k20_4] at h0; cases h0
  rw [k20_2] at hpm3
  have HB3 := Lib.hid (HB2.out.trans (hbt.below (X := w.heap.size) HB2.out.size HG.out))
  have HP3 := Lib.hid hpm3
  have b0 := hpm3.ma.box0
  have b1 := hpm3.ma.box1
  have hln : k20b.length = 20 := rfl
  rw [hln] at b0
  clear hpm3 hbt HP2 HB2 hln
  go_wp2_with fail
  have HC := reg_any _ k20b 11 4 1 w3 HP3.out.rd HP3.out.fit HP3.out.t1 (by decide) (by omega)
  rw [k20_5.1, k20_5.2] at HC
  refine HC.mono ?_
  clear HC
  rintro e w4 ⟨rfl, hb4⟩
  have HP4 := Lib.hid (HP3.out.keep hb4)
  have HB4 := Lib.hid (HB3.out.trans (hb4.mono HB3.out.size))
  clear hb4 HP3 HB3 b0 b1
  go_wp2_with fail
  obtain ⟨w5, hw5⟩ : ∃ w5, w4.alloc (Obj.cells #[Value.int IntKind.u64 1] 29) = w5 := ⟨_, rfl⟩
  rw [hw5]
  have hb5 : Below w4.heap.size w4 w5 := by rw [← hw5]; exact (Below.refl _ _).alloc (Nat.le_refl _) _
  have y1 : w5.cell? ⟨w4.heap.size, 0, none⟩ = some (.int .u64 1) := by rw [← hw5]; simp
  have hs5 : w5.heap.size = w4.heap.size + 1 := by rw [← hw5]; simp
  have HP5 := Lib.hid (HP4.out.keep hb5)
  have HB5 := Lib.hid (HB4.out.trans (hb5.mono HB4.out.size))
  have hg4 : g < w4.heap.size := HP4.out.ltg
  have hlive : ∀ A, But1 g w5 A → Rw A (.slice (some ⟨w4.heap.size, 0, none⟩) 1 1) [1] := fun A hA =>
    ⟨.inr ⟨w4.heap.size, 0, 1, rfl, by simp [ints], by simp [ints], fun i hi => by
      simp only [ints, List.length_map, List.length_cons, List.length_nil] at hi
      obtain rfl : i = 0 := by omega
      exact hA.cell y1 (by omega)⟩, fun i => by
      match i with
      | 0 => simp
      | i + 1 => simp⟩
  clear hw5 hb5 HP4 HB4 hs5
  have HC := clear_any HP5.out 4 (by decide) _ [1] hlive
  refine HC.mono ?_
  clear HC hlive
  rintro e w6 (⟨h0, _⟩ | ⟨_, rfl, hpm6, hbt⟩)
  · rw [k20_6] at h0; cases h0
  rw [k20_3] at hpm6
  have HB6 := Lib.hid (HB5.out.trans (hbt.below (X := w.heap.size) HB5.out.size HG.out))
  have HP6 := Lib.hid hpm6
  have b0 := hpm6.ma.box0
  have b1 := hpm6.ma.box1
  have hln : k20a.length = 20 := rfl
  rw [hln] at b0
  clear hpm6 hbt HP5 HB5 y1 hln
  go_wp2_with fail
  have HC := regs_any _ k20a 11 4 w6 HP6.out.rd HP6.out.fit HP6.out.t1 (by decide)
  rw [k20_7.1, k20_7.2] at HC
  refine HC.mono ?_
  clear HC
  rintro e w7 ⟨rfl, hb7⟩
  have HP7 := Lib.hid (HP6.out.keep hb7)
  have HB7 := Lib.hid (HB6.out.trans (hb7.mono HB6.out.size))
  have b0 := HP7.out.ma.box0
  have b1 := HP7.out.ma.box1
  have hln : k20a.length = 20 := rfl
  rw [hln] at b0
  have r9 : w7.cell? ⟨g, 9, none⟩ = some (.int .u64 14) := HP7.out.ma.row.cell HP7.out.ma.le (i := 9) (by decide)
  have r10 : w7.cell? ⟨g, 10, none⟩ = some (.int .u64 14) := HP7.out.ma.row.cell HP7.out.ma.le (i := 10) (by decide)
  have r5 : w7.cell? ⟨g, 5, none⟩ = some (.int .u64 1) := HP7.out.ma.row.cell HP7.out.ma.le (i := 5) (by decide)
  clear hb7 HP6 HB6 hln
  go_wp2_with fail
  go_ret
  exact ⟨rfl, HB7.out⟩
end Go.Proofs.Ytilonacjmihglaa
