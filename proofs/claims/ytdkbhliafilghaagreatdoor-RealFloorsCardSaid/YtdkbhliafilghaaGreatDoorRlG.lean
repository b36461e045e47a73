/- Layer 3: the document's sums and quotients; Div, Cmp. -/
import Derived.Test.YtdkbhliafilghaaGreatDoorRlF
namespace Go.Proofs.YtdkbhliafilghaaGreatDoor
open Go Go.ChangeShapes Go.WideShapes Go.RowKit
set_option linter.unusedVariables false
set_option linter.unusedSimpArgs false
set_option maxRecDepth 100000 in
theorem radd_any (a b : Nat) (w : World) : Calls Tryz.prog 29 #[.int .u64 (a : Int), .int .u64 (b : Int)] w fun e w' => e = .returned (.int .u64 (addB a b : Nat)) ∧ Below w.heap.size w w' := by
  obtain ⟨r, q, hrun, hp, hlt⟩ := run_fop (P := Tryz.prog) w .add 30 a b (by simp)
  have HP := Lib.hid (show patB r = addB a b by rw [hp]; rfl)
  have HB := Lib.hid (below_drewN (Below.refl w.heap.size w) q)
  have HL := Lib.hid hlt
  clear hp hlt
  go_enter Tryz.func29, Tryz.ntmps29
  go_wp2_with (first | (go_at_call 30; (with_reducible refine (rfloat_any _ _).mono ?_); rintro e w9 ⟨rfl, rfl⟩) | (go_at_call 31; (with_reducible refine (rpattern_any r HL.out _).mono ?_); rintro e w9 ⟨rfl, rfl⟩) | fail)
  go_ret
  exact ⟨by rw [← HP.out]; rfl, HB.out⟩
theorem nan_nan : nanB fNaN = true := by decide +kernel
theorem add_neg (a b : Nat) (hb : b < 18446744073709551616) : addB a (negV b) = subB a b := by
  rcases rneg_eq b hb with ⟨h, e⟩ | ⟨h, e⟩
  · rw [e]
    unfold addB subB
    rw [nan_add (.inr nan_nan), nan_sub (.inr h)]
  · rw [e]
    unfold addB subB
    rw [sub_add hb]
theorem negV_lt (b : Nat) (hb : b < 18446744073709551616) : negV b < 18446744073709551616 := patB_lt (flip_lt hb)
set_option maxRecDepth 100000 in
theorem rsub_any (a b : Nat) (hb : b < 18446744073709551616) (w : World) : Calls Tryz.prog 27 #[.int .u64 (a : Int), .int .u64 (b : Int)] w fun e w' => e = .returned (.int .u64 (subB a b : Nat)) ∧ Below w.heap.size w w' := by
  have HE := Lib.hid (add_neg a b hb)
  have HN := Lib.hid (rneg_any b hb w)
  have HA := Lib.hid (radd_any a (negV b) w)
  obtain ⟨z, hz⟩ : ∃ z, negV b = z := ⟨_, rfl⟩
  rw [hz] at HE HN HA
  clear hz
  go_enter Tryz.func27, Tryz.ntmps27
  go_wp2_with (first | (go_at_call 47; (with_reducible refine HN.out.mono ?_); rintro e w9 ⟨rfl, rfl⟩) | fail)
  refine HA.out.mono ?_
  rintro e w2 ⟨rfl, hb⟩
  have HB := Lib.hid hb
  go_wp2_with fail
  go_ret
  exact ⟨by rw [← HE.out]; rfl, HB.out⟩
def dvV (a b : Nat) : Nat := if zeroB b = true then 0 else divB a b
def dvE (b : Nat) : Int := if zeroB b = true then 6 else 0
set_option maxRecDepth 100000 in
theorem rdiv_any (a b : Nat) (hb : b < 18446744073709551616) (w : World) : Calls Tryz.prog 26 #[.int .u64 (a : Int), .int .u64 (b : Int)] w fun e w' => e = .returned (.tuple #[.int .u64 (dvV a b : Nat), .int .i64 (dvE b)]) ∧ Below w.heap.size w w' := by
  obtain ⟨r, q, hrun, hp, hlt⟩ := run_fop (P := Tryz.prog) w .quo 30 a b (by simp)
  have HP := Lib.hid (show patB r = divB a b by rw [hp]; rfl)
  have HB := Lib.hid (below_drewN (Below.refl w.heap.size w) q)
  have HB0 := Lib.hid (Below.refl w.heap.size w)
  have HV := Lib.hid (show dvV a b = (if zeroB b = true then 0 else divB a b) ∧ dvE b = (if zeroB b = true then 6 else 0) from ⟨rfl, rfl⟩)
  have HZ := Lib.hid (risZero_any b hb w)
  have HL := Lib.hid hlt
  clear hp hlt
  cases hzb : zeroB b with
  | true =>
    rw [hzb] at HZ HV
    go_enter Tryz.func26, Tryz.ntmps26
    go_wp2_with (first | (go_at_call 12; (with_reducible refine HZ.out.mono ?_); rintro e w9 ⟨rfl, rfl⟩) | fail)
    go_ret2
    exact ⟨by rw [HV.out.1, HV.out.2]; rfl, HB0.out⟩
  | false =>
    rw [hzb] at HZ HV
    go_enter Tryz.func26, Tryz.ntmps26
    go_wp2_with (first | (go_at_call 12; (with_reducible refine HZ.out.mono ?_); rintro e w9 ⟨rfl, rfl⟩) | (go_at_call 30; (with_reducible refine (rfloat_any _ _).mono ?_); rintro e w9 ⟨rfl, rfl⟩) | (go_at_call 31; (with_reducible refine (rpattern_any r HL.out _).mono ?_); rintro e w9 ⟨rfl, rfl⟩) | fail)
    go_ret2
    exact ⟨by rw [HV.out.1, HV.out.2]; simp [HP.out], HB.out⟩
def cmV (a b : Nat) : Int := if nanB a = true ∨ nanB b = true then 0 else cmpZ a b
def cmB (a b : Nat) : Bool := !(nanB a || nanB b)
end Go.Proofs.YtdkbhliafilghaaGreatDoor
