/- Layer 2: the reference's Small: the int of digits. -/
import Derived.Test.YtapeomcnjjfihaaDoorWRefInt
import Derived.Deep.CutBlock
namespace Go.Proofs.YtapeomcnjjfihaaDoor
open Go.ChangeShapes Go.WideShapes Go.ChangeAt Go.RowKit
set_option linter.unusedVariables false
set_option linter.unusedSimpArgs false
def SmallPost (W : World) (z : Int) (e : Ending) (w' : World) : Prop :=
  ∃ m ok, e = .returned (.tuple #[.int .i64 m, .bool ok]) ∧ ((I64 z ∧ m = z ∧ ok = true) ∨ (¬ I64 z ∧ ok = false)) ∧ Below W.heap.size W w'
theorem SmallPost.yes {W w' : World} {z m : Int} (h : I64 z) (e : m = z) (hb : Below W.heap.size W w') : SmallPost W z (.returned (.tuple #[.int .i64 m, .bool true])) w' := ⟨m, true, rfl, .inl ⟨h, e, rfl⟩, hb⟩
theorem SmallPost.no {W w' : World} {z m : Int} (h : ¬ I64 z) (hb : Below W.heap.size W w') : SmallPost W z (.returned (.tuple #[.int .i64 m, .bool false])) w' := ⟨m, false, rfl, .inr ⟨h, rfl⟩, hb⟩
theorem drop_lt {ds : List Int} (hd : Dig 10 ds) (hl : ds.length ≤ 19) {j : Nat} (hj : j < ds.length) : 0 ≤ val 10 (ds.drop (j + 1)) ∧ val 10 (ds.drop (j + 1)) < 1000000000000000000 := by
  have hdd : Dig 10 (ds.drop (j + 1)) := fun i => by rw [getD_dropD]; exact hd _
  have h1 := val_lt (b := 10) (by decide) hdd
  have h2 := pow_mono' (b := 10) (by decide) (show (ds.drop (j + 1)).length ≤ 18 by rw [List.length_drop]; omega)
  rw [show (10 : Int) ^ 18 = 1000000000000000000 by decide] at h2
  exact ⟨val_nonneg (by decide) hdd, by omega⟩
theorem val_19 {ds : List Int} (hd : Dig 10 ds) (hl : ds.length ≤ 19) : 0 ≤ val 10 ds ∧ val 10 ds < 10000000000000000000 := by
  have h1 := val_lt (b := 10) (by decide) hd
  have h2 := pow_mono' (b := 10) (by decide) hl
  rw [show (10 : Int) ^ 19 = 10000000000000000000 by decide] at h2
  exact ⟨val_nonneg (by decide) hd, by omega⟩
set_option maxRecDepth 100000 in
set_option maxHeartbeats 4000000 in
theorem refsmall_any (n1 : Bool) (u1 : Value) (ds : List Int) (z : Int) (w : World) (hr : Rb w u1 ds) (hs : Sgn 10 n1 ds z) : Calls Tryd.prog 21 #[.agg #[.bool n1, u1]] w (SmallPost w z) := by
  have HR := Lib.hid hr
  have HS := Lib.hid hs
  obtain ⟨p, c, rfl, hcc, hm, hp⟩ := rb_form hr
  have HP := Lib.hid hp
  clear hr hs hp
  by_cases hlen : 19 < ds.length
  · have hlz : (19 : Int) < (ds.length : Int) := by omega
    go_enter Tryd.func21, Tryd.ntmps21
    go_wp2_with fail
    go_ret2
    refine SmallPost.no (fun h => ?_) ((Below.refl _ _).alloc (Nat.le_refl _) _)
    have h1 := canon_lo (b := 10) (by decide) HS.out.canon (by omega)
    have h2 := pow_mono' (b := 10) (by decide) (show 19 ≤ ds.length - 1 by omega)
    rw [show (10 : Int) ^ 19 = 10000000000000000000 by decide] at h2
    have h3 := HS.out.abs (by decide)
    have h4 := h.lo; have h5 := h.hi
    generalize (10 : Int) ^ (ds.length - 1) = P at h1 h2
    omega
  · have hlz : ¬ (19 : Int) < (ds.length : Int) := by omega
    go_enter Tryd.func21, Tryd.ntmps21
    go_wp2_with fail
    generalize hw1 : World.alloc w _ = w1
    have HB1 := Lib.hid (show Below w.heap.size w w1 by rw [← hw1]; exact (Below.refl _ _).alloc (Nat.le_refl _) _)
    have HX1 := Lib.hid (show Box2 w1 w.heap.size (.bool n1) (.slice p ds.length c) by rw [← hw1]; exact Box2.new _ _ _ _ rfl)
    clear hw1
    have q0 := HX1.out.c0
    have q1 := HX1.out.c1
    go_upto_block 0 with (fail)
    go_wp2
    go_loop [4, 5] (fun uv s => ∃ k : Nat, k ≤ ds.length ∧ s = .int .i64 ((k : Int) - 1) ∧ uv = .int .u64 (val 10 (ds.drop k))) (fun _ s => (intOf s + 1).toNat)
    case atStart => exact ⟨ds.length, Nat.le_refl _, rfl, by simp [val]⟩
    case round =>
      obtain ⟨k, hk, rfl, rfl⟩ := hrel
      cases k with
      | zero =>
        have hv := val_19 HS.out.canon.1 (by omega)
        have hz := HS.out.eq
        simp only [List.drop_zero]
        generalize val 10 ds = s at hv hz
        have HZ := Lib.hid hz
        clear hz
        cases n1 with
        | false =>
          have hzs := HZ.out
          simp only [sg] at hzs
          have HE := Lib.hid (show z = s by simpa using hzs)
          clear hzs
          by_cases h1 : 9223372036854775807 < s
          · go_wp2_with fail
            go_ret2
            exact SmallPost.no (fun h => by have h3 := h.hi; have h4 := HE.out; omega) HB1.out
          · go_wp2_with fail
            go_ret2
            exact SmallPost.yes ⟨by have := HE.out; omega, by have := HE.out; omega⟩ HE.out.symm HB1.out
        | true =>
          have hzs := HZ.out
          simp only [sg] at hzs
          have HE := Lib.hid (show z = -s by simpa using hzs)
          clear hzs
          by_cases h1 : 9223372036854775808 < s
          · go_wp2_with fail
            go_ret2
            exact SmallPost.no (fun h => by have h3 := h.lo; have h4 := HE.out; omega) HB1.out
          · have h5 : IntKind.i64.wrap (IntKind.u64.wrap (-s)) = -s := by simp only [IntKind.wrap_i64, IntKind.wrap_u64]; omega
            have h6 : wrap64 (IntKind.u64.wrap (-s)) = -s := by rw [IntKind.wrap_u64]; unfold wrap64; omega
            go_wp2_with fail
            go_ret2
            exact SmallPost.yes ⟨by have := HE.out; omega, by have := HE.out; omega⟩ HE.out.symm HB1.out
      | succ j =>
        have hj : j < ds.length := by omega
        have hjz : (j : Int) < (ds.length : Int) := by omega
        have e : ((j + 1 : Nat) : Int) - 1 = (j : Int) := by omega
        have hv := drop_lt HS.out.canon.1 (by omega) hj
        obtain ⟨b, off, rfl, hcell⟩ := HP.out (by omega)
        have hc := below_cell HB1.out (hcell j hj)
        have hdj := HS.out.canon.1 j
        have HV := Lib.hid (val_drop (b := 10) hj)
        rw [e]
        generalize ds.getD j 0 = d at hc hdj HV
        generalize val 10 (ds.drop (j + 1)) = v at hv HV
        clear hcell e
        go_wp2_with fail
        go_round
        case rel => exact ⟨j, by omega, rfl, by rw [HV.out]; go_num⟩
        case measure => simp [intOf]
end Go.Proofs.YtapeomcnjjfihaaDoor
