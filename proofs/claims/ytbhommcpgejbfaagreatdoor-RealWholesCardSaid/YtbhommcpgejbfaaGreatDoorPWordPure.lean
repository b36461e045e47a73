/- Plain numbers for the words of the memory (layer 1): what a word stands for, as functions on integers, and their laws. Nothing of the program is imported. -/
import Derived.WalkKit
import Derived.Laws.BitsLemmas
import Derived.Laws.BitsAllLaws
namespace Go.Proofs.YtbhommcpgejbfaaGreatDoor
open Go.RowKit
set_option linter.unusedSimpArgs false
set_option linter.unusedVariables false

def addrW (a : Int) : Int := if 1 ≤ a ∧ a < 1048576 then a * 4 else 0
def addrE (a : Int) : Int := if 1 ≤ a ∧ a < 1048576 then 0 else 1
def smallW (n : Int) : Int := if -999999999999999999 ≤ n ∧ n ≤ 999999999999999999 then (n * 4 + 1) % 18446744073709551616 else 0
def smallE (n : Int) : Int := if -999999999999999999 ≤ n ∧ n ≤ 999999999999999999 then 0 else 7
def constW (a : Int) : Int := if 0 ≤ a ∧ a ≤ 3 then a * 4 + 2 else 0
def constE (a : Int) : Int := if 0 ≤ a ∧ a ≤ 3 then 0 else 1
def numOf (w : Int) : Int := if 9223372036854775808 ≤ w then (w - 18446744073709551616) / 4 else w / 4
def kindOf (w : Int) : Int :=
  if w % 4 = 0 then (if 4 ≤ w ∧ w < 4194304 then 0 else 3)
  else if w % 4 = 1 then (if -999999999999999999 ≤ numOf w ∧ numOf w ≤ 999999999999999999 then 1 else 3)
  else if w % 4 = 2 then (if w < 18 then 2 else 3) else 3
def atV (w : Int) : Int := if kindOf w = 0 then w / 4 else 0
def atE (w : Int) : Int := if kindOf w = 0 then 0 else 9
def numV (w : Int) : Int := if kindOf w = 1 then numOf w else 0
def numE (w : Int) : Int := if kindOf w = 1 then 0 else 9
def whichV (w : Int) : Int := if kindOf w = 2 then w / 4 else 0
def whichE (w : Int) : Int := if kindOf w = 2 then 0 else 9

theorem ret_one {k : IntKind} {a b : Int} (h : a = b) : Ending.returned (.int k a) = .returned (.int k b) := by rw [h]
theorem ret_two {k l : IntKind} {a b c d : Int} (h : a = b) (g : c = d) : Ending.returned (.tuple #[.int k a, .int l c]) = .returned (.tuple #[.int k b, .int l d]) := by rw [h, g]
theorem wfi {a : Int} (w0 : (Lit.int .i64 a).wf = true) : -9223372036854775808 ≤ a ∧ a ≤ 9223372036854775807 := by simpa [Lit.wf, IntKind.min, IntKind.max, IntKind.signed, IntKind.bits] using w0
theorem wfu {a : Int} (w0 : (Lit.int .u64 a).wf = true) : 0 ≤ a ∧ a ≤ 18446744073709551615 := by simpa [Lit.wf, IntKind.min, IntKind.max, IntKind.signed, IntKind.bits] using w0
theorem u64w (x : Int) : IntKind.u64.wrap x = x % 18446744073709551616 := by simp [IntKind.wrap, IntKind.signed, IntKind.bits]
theorem i64w (x : Int) : wrap64 x = (x + 9223372036854775808) % 18446744073709551616 - 9223372036854775808 := by simp [wrap64]
theorem and3 (w : Int) (h : 0 ≤ w) (h' : w ≤ 18446744073709551615) : bits BinOp.and IntKind.u64 w 3 = w % 4 :=
  bits_mask .u64 64 (by decide) (fun n h₀ h₁ => by rw [u64w]; omega) 2 (by decide) w h (by omega)

theorem kind_lo (w : Int) : 0 ≤ kindOf w ∧ kindOf w ≤ 3 := by unfold kindOf; repeat' split
                                                              all_goals omega
theorem addr_lo (a : Int) : 0 ≤ addrW a ∧ addrW a ≤ 4194300 ∧ addrW a % 4 = 0 := by unfold addrW; split <;> omega
theorem addrE_lo (a : Int) : 0 ≤ addrE a ∧ addrE a ≤ 1 := by unfold addrE; split <;> omega
theorem smallE_lo (a : Int) : 0 ≤ smallE a ∧ smallE a ≤ 7 := by unfold smallE; split <;> omega
theorem constE_lo (a : Int) : 0 ≤ constE a ∧ constE a ≤ 1 := by unfold constE; split <;> omega
theorem atE_lo (a : Int) : 0 ≤ atE a ∧ atE a ≤ 9 := by unfold atE; split <;> omega
theorem numE_lo (a : Int) : 0 ≤ numE a ∧ numE a ≤ 9 := by unfold numE; split <;> omega
theorem whichE_lo (a : Int) : 0 ≤ whichE a ∧ whichE a ≤ 9 := by unfold whichE; split <;> omega
theorem smallW_lo (a : Int) : 0 ≤ smallW a ∧ smallW a ≤ 18446744073709551615 := by unfold smallW; split <;> omega
theorem constW_lo (a : Int) : 0 ≤ constW a ∧ constW a ≤ 14 := by unfold constW; split <;> omega

theorem wfu_mk {a : Int} (h : 0 ≤ a ∧ a ≤ 18446744073709551615) : (Lit.int .u64 a).wf = true := by simp [Lit.wf, IntKind.min, IntKind.max, IntKind.signed, IntKind.bits]; omega
theorem wfi_mk {a : Int} (h : -9223372036854775808 ≤ a ∧ a ≤ 9223372036854775807) : (Lit.int .i64 a).wf = true := by simp [Lit.wf, IntKind.min, IntKind.max, IntKind.signed, IntKind.bits]; omega

theorem kind_addr (n : Int) (h : 1 ≤ n ∧ n < 1048576) : kindOf (n * 4) = 0 := by
  unfold kindOf; rw [if_pos (by omega), if_pos (by omega)]
theorem kind_small (n : Int) (h : -999999999999999999 ≤ n ∧ n ≤ 999999999999999999) : kindOf ((n * 4 + 1) % 18446744073709551616) = 1 ∧ numOf ((n * 4 + 1) % 18446744073709551616) = n := by
  have e : numOf ((n * 4 + 1) % 18446744073709551616) = n := by unfold numOf; split <;> omega
  refine ⟨?_, e⟩
  unfold kindOf; rw [if_neg (by omega), if_pos (by omega), e, if_pos (by omega)]
theorem kind_const (n : Int) (h : 0 ≤ n ∧ n ≤ 3) : kindOf (n * 4 + 2) = 2 := by
  unfold kindOf; rw [if_neg (by omega), if_neg (by omega), if_pos (by omega), if_pos (by omega)]

theorem addr_cases (n : Int) : (addrE n = 0 ∧ atV (addrW n) = n ∧ atE (addrW n) = 0 ∧ numE (addrW n) = 9 ∧ whichE (addrW n) = 9) ∨ addrE n = 1 := by
  by_cases h : 1 ≤ n ∧ n < 1048576
  · have k := kind_addr n h
    left; unfold addrE addrW atV atE numE whichE; simp only [if_pos h, k]
    refine ⟨by trivial, ?_, by trivial, by trivial, by trivial⟩
    simp only [if_true]; omega
  · right; unfold addrE; rw [if_neg h]
theorem small_cases (n : Int) : (smallE n = 0 ∧ numV (smallW n) = n ∧ numE (smallW n) = 0 ∧ atE (smallW n) = 9 ∧ whichE (smallW n) = 9) ∨ smallE n = 7 := by
  by_cases h : -999999999999999999 ≤ n ∧ n ≤ 999999999999999999
  · have ⟨k, l⟩ := kind_small n h
    left; unfold smallE smallW numV atE numE whichE; simp only [if_pos h, k, l]
    exact ⟨by trivial, by trivial, by trivial, by trivial, by trivial⟩
  · right; unfold smallE; rw [if_neg h]
theorem const_cases (n : Int) : (constE n = 0 ∧ whichV (constW n) = n ∧ whichE (constW n) = 0 ∧ numE (constW n) = 9 ∧ atE (constW n) = 9) ∨ constE n = 1 := by
  by_cases h : 0 ≤ n ∧ n ≤ 3
  · have k := kind_const n h
    left; unfold constE constW whichV atE numE whichE; simp only [if_pos h, k]
    refine ⟨by trivial, ?_, by trivial, by trivial, by trivial⟩
    simp only [if_true]; omega
  · right; unfold constE; rw [if_neg h]

theorem one_addr (w : Int) (k : kindOf w = 0) : atE w = 0 ∧ addrE (atV w) = 0 ∧ addrW (atV w) = w ∧ 0 ≤ atV w ∧ atV w ≤ 1048576 := by
  have h : w % 4 = 0 ∧ 4 ≤ w ∧ w < 4194304 := by
    revert k; unfold kindOf
    repeat' split
    all_goals intro k
    all_goals omega
  have b : 1 ≤ w / 4 ∧ w / 4 < 1048576 := by omega
  unfold atE atV addrE addrW; simp only [k, if_true, if_pos b]
  refine ⟨by trivial, by trivial, ?_, ?_, ?_⟩ <;> omega
theorem one_num (w : Int) (hw : 0 ≤ w ∧ w ≤ 18446744073709551615) (k : kindOf w = 1) : numE w = 0 ∧ smallE (numV w) = 0 ∧ smallW (numV w) = w ∧ -999999999999999999 ≤ numV w ∧ numV w ≤ 999999999999999999 := by
  have h : w % 4 = 1 ∧ -999999999999999999 ≤ numOf w ∧ numOf w ≤ 999999999999999999 := by
    revert k; unfold kindOf
    repeat' split
    all_goals intro k
    all_goals omega
  unfold numE numV smallE smallW; simp only [k, if_true, if_pos h.2]
  refine ⟨trivial, trivial, ?_, h.2⟩
  unfold numOf; split <;> omega
theorem one_const (w : Int) (hw : 0 ≤ w) (k : kindOf w = 2) : whichE w = 0 ∧ constE (whichV w) = 0 ∧ constW (whichV w) = w ∧ 0 ≤ whichV w ∧ whichV w ≤ 3 := by
  have h : w % 4 = 2 ∧ w < 18 := by
    revert k; unfold kindOf
    repeat' split
    all_goals intro k
    all_goals omega
  have b : 0 ≤ w / 4 ∧ w / 4 ≤ 3 := by omega
  unfold whichE whichV constE constW; simp only [k, if_true, if_pos b]
  refine ⟨by trivial, by trivial, ?_, ?_, ?_⟩ <;> omega
theorem one_none (w : Int) (k : kindOf w = 3) : atE w = 9 ∧ numE w = 9 ∧ whichE w = 9 := by
  unfold atE numE whichE; simp only [k]; exact ⟨by trivial, by trivial, by trivial⟩
theorem rises_small (n : Int) : (smallE n = 0 ∧ smallE (n + 1) = 0 ∧ IntKind.u64.wrap (smallW (n + 1) - smallW n) = 4) ∨ smallE n = 7 ∨ smallE n = 0 ∧ smallE (n + 1) = 7 := by
  by_cases h : -999999999999999999 ≤ n ∧ n ≤ 999999999999999999
  · by_cases g : -999999999999999999 ≤ n + 1 ∧ n + 1 ≤ 999999999999999999
    · left; unfold smallE smallW; rw [if_pos h, if_pos g, if_pos h, if_pos g, u64w]; refine ⟨rfl, rfl, ?_⟩; omega
    · right; right; unfold smallE; rw [if_neg g, if_pos h]; exact ⟨rfl, rfl⟩
  · right; left; unfold smallE; rw [if_neg h]
theorem rises_addr (n : Int) : (addrE n = 0 ∧ addrE (n + 1) = 0 ∧ IntKind.u64.wrap (addrW (n + 1) - addrW n) = 4) ∨ addrE n = 1 ∨ addrE n = 0 ∧ addrE (n + 1) = 1 := by
  by_cases h : 1 ≤ n ∧ n < 1048576
  · by_cases g : 1 ≤ n + 1 ∧ n + 1 < 1048576
    · left; unfold addrE addrW; rw [if_pos h, if_pos g, if_pos h, if_pos g, u64w]; refine ⟨rfl, rfl, ?_⟩; omega
    · right; right; unfold addrE; rw [if_neg g, if_pos h]; exact ⟨rfl, rfl⟩
  · right; left; unfold addrE; rw [if_neg h]
end Go.Proofs.YtbhommcpgejbfaaGreatDoor
