/- Layer 2: whole.Int, and what it asks of the limbs. -/
import Derived.Test.YtnfemojgecljiaaGreatDoorPWRefInt
namespace Go.Proofs.YtnfemojgecljiaaGreatDoor
open Go.ChangeShapes Go.WideShapes Go.ChangeAt Go.RowKit
set_option linter.unusedVariables false
set_option linter.unusedSimpArgs false
def SizePost (W : World) (xs : List Int) (e : Ending) (w' : World) : Prop :=
  ∃ s ok, e = .returned (.tuple #[.int .u64 s, .bool ok]) ∧ 0 ≤ s ∧ s ≤ 18446744073709551615 ∧ (ok = true → s = val B18 xs) ∧ (ok = false → 10000000000000000000 ≤ val B18 xs) ∧ Below W.heap.size W w'
set_option maxRecDepth 100000 in
set_option maxHeartbeats 2000000 in
theorem sizeOf_any (u : Value) (xs : List Int) (w : World) (hr : Rd w u xs) (hc : Canon B18 xs) : Calls Tryz.prog 110 #[u] w (SizePost w xs) := by
  obtain ⟨p, c, rfl, hcc, hm, hp⟩ := rd_form hr
  have hd := hc.1
  have HC := Lib.hid hc
  clear hr hc
  match xs with
  | [] =>
    clear hp
    go_enter Tryz.func110, Tryz.ntmps110
    go_wp2
    go_ret2
    exact ⟨0, true, rfl, by omega, by omega, fun _ => rfl, (fun h => by cases h), Below.refl _ _⟩
  | [a] =>
    obtain ⟨b, off, rfl, hcell⟩ := hp (by simp)
    have h0 := hcell 0 (by simp)
    have hb := hd.head
    clear hcell hp
    rw [B18] at hb
    simp only [List.length_singleton, List.getD_cons_zero, Nat.add_zero] at h0 ⊢
    go_enter Tryz.func110, Tryz.ntmps110
    go_wp2
    go_ret2
    exact ⟨a, true, rfl, by omega, by omega, fun _ => (val_one _ _).symm, (fun h => by cases h), Below.refl _ _⟩
  | [a, a2] =>
    obtain ⟨b, off, rfl, hcell⟩ := hp (by simp)
    have h0 := hcell 0 (by simp)
    have h1 := hcell 1 (by simp)
    have hb := hd.head
    have hb2 := hd.tail.head
    have hl : ([a, a2] : List Int).length = 2 := rfl
    have hv : val B18 [a, a2] = a + 1000000000000000000 * a2 := by simp [val]
    clear hcell hp
    rw [B18] at hb hb2
    simp only [hl, List.getD_cons_zero, List.getD_cons_succ, Nat.add_zero] at h0 h1 ⊢
    have HV := Lib.hid hv
    clear hv hl HC hd
    by_cases h10 : a2 < 10
    · go_enter Tryz.func110, Tryz.ntmps110
      go_wp2
      go_region
      go_wp2
      go_ret2
      exact ⟨_, true, rfl, by omega, by omega, fun _ => by rw [HV.out]; omega, (fun h => by cases h), (Below.refl _ _).drew⟩
    · have hd10 : decide (a2 < 10) = false := by simpa using h10
      go_enter Tryz.func110, Tryz.ntmps110
      go_wp2
      go_region
      go_wp2
      go_ret2
      exact ⟨IntKind.u64.wrap (IntKind.u64.wrap (a2 * 1000000000000000000) + a), false, rfl, by rw [IntKind.wrap_u64]; omega, by rw [IntKind.wrap_u64]; omega, (fun h => by cases h), fun _ => by rw [HV.out]; omega, (Below.refl _ _).drew⟩
  | a :: a2 :: a3 :: r =>
    have hl : 3 ≤ (a :: a2 :: a3 :: r).length := by simp
    have hv := canon_lo (b := B18) (by decide) HC.out (by simp)
    generalize a :: a2 :: a3 :: r = ys at *
    have h2 := pow_mono' (b := B18) (by decide) (show 2 ≤ ys.length - 1 by omega)
    rw [show B18 ^ 2 = 1000000000000000000000000000000000000 by decide] at h2
    have HV := Lib.hid (show 10000000000000000000 ≤ val B18 ys from Int.le_trans (by decide) (Int.le_trans h2 hv))
    have n0 : ((ys.length : Int) == 0) = false := by rw [beq_eq_false_iff_ne]; omega
    have n1 : ((ys.length : Int) == 1) = false := by rw [beq_eq_false_iff_ne]; omega
    have n2 : ((ys.length : Int) == 2) = false := by rw [beq_eq_false_iff_ne]; omega
    clear hv h2 hp HC hd
    go_enter Tryz.func110, Tryz.ntmps110
    go_wp2
    go_ret2
    exact ⟨0, false, rfl, by omega, by omega, (fun h => by cases h), fun _ => HV.out, Below.refl _ _⟩
/-- What Int answers. -/
def IntPost (W : World) (z : Int) (e : Ending) (w' : World) : Prop :=
  ∃ m er : Int, e = .returned (.tuple #[.int .i64 m, .int .i64 er]) ∧ ((I64 z ∧ m = z ∧ er = 0) ∨ (¬ I64 z ∧ m = 0 ∧ er = 7)) ∧ Below W.heap.size W w'
theorem IntPost.yes {W w' : World} {z m : Int} (h : I64 z) (e : m = z) (hb : Below W.heap.size W w') : IntPost W z (.returned (.tuple #[.int .i64 m, .int .i64 0])) w' := ⟨m, 0, rfl, .inl ⟨h, e, rfl⟩, hb⟩
theorem IntPost.no {W w' : World} {z : Int} (h : ¬ I64 z) (hb : Below W.heap.size W w') : IntPost W z (.returned (.tuple #[.int .i64 0, .int .i64 7])) w' := ⟨0, 7, rfl, .inr ⟨h, rfl, rfl⟩, hb⟩
set_option maxRecDepth 100000 in
set_option maxHeartbeats 4000000 in
theorem wint_good (n1 : Bool) (u1 : Value) (xs : List Int) (z : Int) (w : World) (hr : Rd w u1 xs) (hs : Sgn B18 n1 xs z) (hl : xs.length ≤ 30) : Calls Tryz.prog 80 #[.agg #[.bool n1, u1]] w (IntPost w z) := by
  have HR := Lib.hid hr
  have HS := Lib.hid hs
  obtain ⟨p, c, rfl, _, _, _⟩ := rd_form hr
  clear hr hs
  go_enter Tryz.func80, Tryz.ntmps80
  go_wp2_with fail
  generalize hw1 : World.alloc w _ = w1
  have HB1 := Lib.hid (show Below w.heap.size w w1 by rw [← hw1]; exact (Below.refl _ _).alloc (Nat.le_refl _) _)
  have HX1 := Lib.hid (show Box2 w1 w.heap.size (.bool n1) (.slice p xs.length c) by rw [← hw1]; exact Box2.new _ _ _ _ rfl)
  clear hw1
  have q0 := HX1.out.c0
  have q1 := HX1.out.c1
  refine (good_yes _ _ xs z w1 (HR.out.keep HB1.out) HS.out hl).mono ?_
  rintro e w2 ⟨rfl, hb2⟩
  have HB2 := Lib.hid (HB1.out.trans (hb2.mono HB1.out.size))
  have HX2 := Lib.hid (HX1.out.keep hb2)
  clear q0 q1 hb2
  have q0 := HX2.out.c0
  have q1 := HX2.out.c1
  go_wp2_with fail
  refine (sizeOf_any _ xs w2 (HR.out.keep HB2.out) HS.out.canon).mono ?_
  rintro e w3 ⟨s, ok, rfl, hs0, hs1, hyes, hno, hb3⟩
  have HB3 := Lib.hid (HB2.out.trans (hb3.mono HB2.out.size))
  have HX3 := Lib.hid (HX2.out.keep hb3)
  clear q0 q1 hb3
  have q0 := HX3.out.c0
  have q1 := HX3.out.c1
  have hz := HS.out.eq
  cases ok with
  | false =>
    have HV := Lib.hid (hno rfl)
    have HZ := Lib.hid hz
    clear hyes hno hz
    go_wp2_with fail
    go_ret2
    refine IntPost.no (fun h => ?_) HB3.out
    have h1 := h.lo; have h2 := h.hi; have h3 := HV.out; have h4 := HZ.out
    unfold sg at h4
    split at h4 <;> omega
  | true =>
    have HZ := Lib.hid (show z = sg n1 s by rw [hyes rfl]; exact hz)
    clear hyes hno hz
    cases n1 with
    | false =>
      have hzs : z = s := HZ.out
      have HE := Lib.hid hzs
      clear hzs
      by_cases h1 : 9223372036854775808 ≤ s
      · by_cases h2 : 9223372036854775808 < s
        · go_wp2_with fail
          go_ret2
          exact IntPost.no (fun h => by have h3 := h.hi; have h4 := HE.out; omega) HB3.out
        · have h3 : (s == 9223372036854775808) = true := by simp; omega
          obtain rfl : s = 9223372036854775808 := by omega
          go_wp2_with fail
          go_ret2
          exact IntPost.no (fun h => by have h3 := h.hi; have h4 := HE.out; omega) HB3.out
      · have h2 : ¬ 9223372036854775808 < s := by omega
        have h3 : (s == 9223372036854775808) = false := by rw [beq_eq_false_iff_ne]; omega
        have h4 : ¬ s = 9223372036854775808 := by omega
        go_wp2_with fail
        go_ret2
        exact IntPost.yes ⟨by have := HE.out; omega, by have := HE.out; omega⟩ HE.out.symm HB3.out
    | true =>
      have hzs : z = -s := HZ.out
      have HE := Lib.hid hzs
      clear hzs
      by_cases h2 : 9223372036854775808 < s
      · go_wp2_with fail
        go_ret2
        exact IntPost.no (fun h => by have h3 := h.lo; have h4 := HE.out; omega) HB3.out
      · by_cases h4 : s = 9223372036854775808
        · subst h4
          go_wp2_with fail
          go_ret2
          exact IntPost.yes ⟨by have := HE.out; omega, by have := HE.out; omega⟩ (by rw [HE.out, IntKind.wrap_u64]; unfold wrap64; omega) HB3.out
        · have h3 : (s == 9223372036854775808) = false := by rw [beq_eq_false_iff_ne]; omega
          have h5 : IntKind.i64.wrap (IntKind.u64.wrap (-s)) = -s := by simp only [IntKind.wrap_i64, IntKind.wrap_u64]; omega
          go_wp2_with fail
          go_ret2
          exact IntPost.yes ⟨by have := HE.out; omega, by have := HE.out; omega⟩ HE.out.symm HB3.out
theorem wint_bad (n1 : Bool) (u1 : Value) (xs : List Int) (w : World) (hr : Rd w u1 xs) (hf : Fit xs) (hg : goodB n1 xs = false) : Calls Tryz.prog 80 #[.agg #[.bool n1, u1]] w (fun e w' => e = .returned (.tuple #[.int .i64 0, .int .i64 3]) ∧ Below w.heap.size w w') := by
  have HR := Lib.hid hr
  have HF := Lib.hid hf
  have HG := Lib.hid hg
  obtain ⟨p, c, rfl, _, _, _⟩ := rd_form hr
  clear hr hf hg
  go_enter Tryz.func80, Tryz.ntmps80
  go_wp2_with fail
  generalize hw1 : World.alloc w _ = w1
  have HB1 := Lib.hid (show Below w.heap.size w w1 by rw [← hw1]; exact (Below.refl _ _).alloc (Nat.le_refl _) _)
  have HX1 := Lib.hid (show Box2 w1 w.heap.size (.bool n1) (.slice p xs.length c) by rw [← hw1]; exact Box2.new _ _ _ _ rfl)
  clear hw1
  have q0 := HX1.out.c0
  have q1 := HX1.out.c1
  refine (good_no _ _ xs w1 (HR.out.keep HB1.out) HF.out HG.out).mono ?_
  rintro e w2 ⟨rfl, hb2⟩
  have HB2 := Lib.hid (HB1.out.trans (hb2.mono HB1.out.size))
  clear q0 q1 hb2
  go_wp2_with fail
  go_ret2
  exact ⟨rfl, HB2.out⟩
end Go.Proofs.YtnfemojgecljiaaGreatDoor
