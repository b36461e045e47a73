/- Layer 2, the document's answer: screeref02.Good. Layer 2: the helpers of the laws: form, fits, is. Layer 2: the helper 'is' of the laws. -/
import Derived.Test.YticebchmafipiaaDoorWGood
import Derived.Test.YticebchmafipiaaDoorDig
import Derived.Test.YticebchmafipiaaDoorWKnown
import Derived.Test.YticebchmafipiaaDoorWRefCmp
import Derived.Test.YticebchmafipiaaDoorWRefTo
namespace Go.Proofs.YticebchmafipiaaDoor
section
open Go.ChangeShapes Go.WideShapes Go.ChangeAt Go.RowKit
set_option linter.unusedVariables false
set_option linter.unusedSimpArgs false
set_option maxRecDepth 100000 in
set_option maxHeartbeats 1000000 in
theorem refgood_any (neg : Bool) (u : Value) (ws : List Int) (w : World) (hr : Rd w u ws) (hf : Fit ws) :
    Calls Tryd.prog 9 #[.agg #[.bool neg, u]] w (BoolPost w (goodB neg ws)) := by
  obtain ⟨p, c, rfl, hc, hm, hp⟩ := rd_form hr
  have HB := Lib.hid (show Below w.heap.size w (w.alloc (.cells #[.bool neg, .slice p ws.length c] 24)) from (Below.refl _ _).alloc (Nat.le_refl _) _)
  by_cases h0 : ws.length = 0
  · have e0 : ws = [] := List.length_eq_zero_iff.1 h0
    have HG := Lib.hid (show (!neg) = goodB neg ws by rw [e0]; rfl)
    clear e0
    rw [h0] at HB ⊢
    clear hp hc hm hr h0
    go_enter Tryd.func9, Tryd.ntmps9
    go_wp2
    go_ret
    exact BoolPost.mk HG.out HB.out
  · obtain ⟨b, off, rfl, hcell⟩ := hp (by omega)
    have hl0 : (ws.length : Int) ≠ 0 := by omega
    have hl1 : ((ws.length : Int) == 0) = false := by simpa using hl0
    have hl : 1 ≤ ws.length := by omega
    clear h0 hp hl0
    by_cases h30 : ws.length ≤ 30
    · have h30z : ¬ (30 : Int) < (ws.length : Int) := by omega
      have hcl := fun i hi => alloc_cell (hcell i hi) (.cells #[.bool neg, .slice (some ⟨b, off, none⟩) ws.length c] 24)
      have HC := Lib.hid hcl
      clear hcell hcl
      go_enter Tryd.func9, Tryd.ntmps9
      go_wp2
      go_loop [4] (fun i => ∃ k : Nat, i = .int .i64 k ∧ k ≤ ws.length ∧ ∀ j, j < k → ws.getD j 0 < 1000000000000000000) (fun i => ws.length - (intOf i).toNat)
      case atStart => exact ⟨0, by go_num, by omega, fun j hj => by omega⟩
      case round =>
        obtain ⟨k, rfl, hk, hall⟩ := hrel
        have HA := Lib.hid hall
        clear hall
        by_cases hlt : k < ws.length
        · have hcx := HC.out k hlt
          by_cases hbig : ws.getD k 0 < 1000000000000000000
          · have HL := Lib.hid hbig
            generalize ws.getD k 0 = x at hcx hbig
            go_wp2
            go_round
            case rel => exact ⟨k + 1, by go_num, by omega, fun j hj => by
              by_cases e : j = k
              · subst e; exact HL.out
              · exact HA.out j (by omega)⟩
            case measure => simp [intOf]; omega
          · have HG := Lib.hid (goodB_not (neg := neg) hlt hbig)
            generalize ws.getD k 0 = x at hcx hbig
            go_wp2
            go_ret
            exact BoolPost.mk HG.out.symm HB.out
        · have hlast := HC.out (ws.length - 1) (by omega)
          by_cases hz : ws.getD (ws.length - 1) 0 = 0
          · have HG := Lib.hid (goodB_last (neg := neg) (by omega) hz)
            rw [hz] at hlast
            clear hz
            go_wp2
            go_ret
            exact BoolPost.mk HG.out.symm HB.out
          · have HG := Lib.hid (goodB_yes (neg := neg) (by omega) h30 hz (fun i hi => HA.out i (by omega)))
            have hz2 : (ws.getD (ws.length - 1) 0 != 0) = true := by simpa using hz
            clear hz
            generalize ws.getD (ws.length - 1) 0 = q at hlast hz2
            go_wp2
            go_ret
            exact BoolPost.mk HG.out.symm HB.out
    · have HG := Lib.hid (goodB_long (neg := neg) (show 30 < ws.length by omega))
      go_enter Tryd.func9, Tryd.ntmps9
      go_wp2
      go_ret
      exact BoolPost.mk HG.out.symm HB.out
end
section
open Go.ChangeShapes Go.WideShapes Go.ChangeAt Go.RowKit
set_option linter.unusedVariables false
set_option linter.unusedSimpArgs false
end
section
open Go.ChangeShapes Go.WideShapes Go.ChangeAt Go.RowKit
set_option linter.unusedVariables false
set_option linter.unusedSimpArgs false
theorem big_len {n m : Bool} {vs ds : List Int} {z : Int} (h : Sgn B18 n vs z) (g : Sgn 10 m ds z) (hl : ds.length ≤ 100000) : vs.length ≤ 100000 := by
  have h1 : (z.natAbs : Int) < 10 ^ ds.length := (g.len (by decide) ds.length).1 (Nat.le_refl _)
  have h2 : ∀ n : Nat, (10 : Int) ^ n ≤ B18 ^ n := by
    intro n
    induction n with
    | zero => simp
    | succ n ih =>
      have h3 : (0 : Int) ≤ 10 ^ n := Int.pow_nonneg (by decide)
      rw [Int.pow_succ, Int.pow_succ]
      exact Int.mul_le_mul ih (by decide) (by decide) (Int.le_trans h3 ih)
  exact Nat.le_trans ((h.len (by decide) ds.length).2 (Int.lt_of_lt_of_le h1 (h2 _))) hl
set_option maxRecDepth 100000 in
set_option maxHeartbeats 1000000 in
theorem is_bad (ux : Value) (nn : Bool) (un : Value) (f : Int) (w : World) (hr : Rd w ux []) (hf : f ≠ 0) :
    Calls Tryd.prog 8 #[.agg #[.bool false, ux], .int .i64 f, .agg #[.bool nn, un], .int .i64 f] w (BoolPost w true) := by
  have HR := Lib.hid hr
  have hfz : (f == 0) = false := by simpa using hf
  clear hr
  go_enter Tryd.func8, Tryd.ntmps8
  go_wp2_with fail
  generalize hw1 : World.alloc (World.alloc w _) _ = w1
  have HB1 := Lib.hid (show Below w.heap.size w w1 by rw [← hw1]; exact ((Below.refl _ _).alloc (Nat.le_refl _) _).alloc (by simp) _)
  clear hw1
  refine (same_any false false ux (.slice none 0 0) [] [] w1 (HR.out.keep HB1.out) (.inl ⟨_, rfl, rfl⟩)).mono ?_
  rintro e w2 ⟨rfl, hb2⟩
  go_wp2_with fail
  go_ret
  exact ⟨rfl, HB1.out.trans (hb2.mono HB1.out.size)⟩
set_option maxRecDepth 100000 in
set_option maxHeartbeats 2000000 in
theorem is_good (nx : Bool) (ux : Value) (xs : List Int) (nn : Bool) (un : Value) (ds : List Int) (z : Int) (w : World) (hrx : Rd w ux xs) (hsx : Sgn B18 nx xs z) (hrn : Rb w un ds) (hsn : Sgn 10 nn ds z) (hl : ds.length ≤ 100000) :
    Calls Tryd.prog 8 #[.agg #[.bool nx, ux], .int .i64 0, .agg #[.bool nn, un], .int .i64 0] w (BoolPost w true) := by
  have HX := Lib.hid hrx
  have HN := Lib.hid hrn
  have HSX := Lib.hid hsx
  have HSN := Lib.hid hsn
  clear hrx hrn hsx hsn
  go_enter Tryd.func8, Tryd.ntmps8
  go_wp2_with fail
  generalize hw1 : World.alloc (World.alloc w _) _ = w1
  have HB1 := Lib.hid (show Below w.heap.size w w1 by rw [← hw1]; exact ((Below.refl _ _).alloc (Nat.le_refl _) _).alloc (by simp) _)
  have HK1 := Lib.hid (show Box2 w1 w.heap.size (.bool nx) ux by rw [← hw1]; exact (Box2.new _ _ _ _ rfl).alloc _)
  have HK2 := Lib.hid (show Box2 w1 (w.heap.size + 1) (.bool nn) un by rw [← hw1]; exact Box2.new _ _ _ _ (by simp))
  clear hw1
  have k0 := HK1.out.c0
  have k1 := HK1.out.c1
  have k2 := HK2.out.c0
  have k3 := HK2.out.c1
  have d0 : w1.drew.cell? ⟨w.heap.size, 0, none⟩ = some (.bool nx) := k0
  have d1 : w1.drew.cell? ⟨w.heap.size, 1, none⟩ = some ux := k1
  have d2 : w1.drew.cell? ⟨w.heap.size + 1, 0, none⟩ = some (.bool nn) := k2
  have d3 : w1.drew.cell? ⟨w.heap.size + 1, 1, none⟩ = some un := k3
  have HTO := Lib.hid (fun (wx : World) (hx : Below w.heap.size w wx) => to_any nn un ds z wx (HN.out.keep hx) HSN.out hl)
  go_region_held3 (fun w' => w'.cell? ⟨w.heap.size, 0, none⟩ = some (.bool nx) ∧ w'.cell? ⟨w.heap.size, 1, none⟩ = some ux ∧ w'.cell? ⟨w.heap.size + 1, 0, none⟩ = some (.bool nn) ∧ w'.cell? ⟨w.heap.size + 1, 1, none⟩ = some un)
    ((repeat' apply And.intro) <;> (first | with_reducible assumption | (with_reducible exact cell_set2 (by omega) (by assumption) _ _) | (with_reducible exact cell_set4 (by omega) (by omega) (by assumption) _ _ _ _)))
    (first
     | (go_at_call 31; refine (HTO.out _ (by first | exact HB1.out | exact HB1.out.drew)).mono ?_; rintro e wa ⟨na, ua, vs, rfl, hMa, hSa, hba⟩; have hqa : Below w1.heap.size w1 wa := ⟨hba.os, hba.tape, hba.output, hba.size, hba.block⟩; have HBa := Lib.hid (HB1.out.trans (hqa.mono HB1.out.size)); have HRa := Lib.hid (hMa.rd (by have := big_len hSa HSN.out hl; omega)); have HSa := Lib.hid hSa; have a0 := below_cell hqa k0; have a1 := below_cell hqa k1; have a2 := below_cell hqa k2; have a3 := below_cell hqa k3; clear hMa hSa hba hqa)
     | (go_at_call 22; refine (same_any nx na ux ua xs vs _ (HX.out.keep HBa.out) HRa.out).mono ?_; rintro e wb ⟨rfl, hbb⟩; rw [HSX.out.same (by decide) HSa.out]; have HBb := Lib.hid (HBa.out.trans (hbb.mono HBa.out.size)); have b0 := below_cell hbb a0; have b1 := below_cell hbb a1; have b2 := below_cell hbb a2; have b3 := below_cell hbb a3; clear hbb))
  go_goals
  go_wp2_with fail
  go_ret
  exact ⟨rfl, HBb.out⟩
end
end Go.Proofs.YticebchmafipiaaDoor
