/- Layer 8: the table's rows, as plain data; what they say is what the flags say. -/
import Derived.Test.YtnniohimbmnapaaDoorFPure
namespace Go.Proofs.YtnniohimbmnapaaDoor
open Go
set_option linter.unusedVariables false
set_option linter.unusedSimpArgs false
structure RowD where
  kn : Bool
  d : Bool
  a : Bool
  b : Bool
  t : Bool
  l : Int
  k : Int
  lo : Int
  hi : Int
def rowZ : RowD := ⟨false, false, false, false, false, -1, 0, 0, 0⟩
def rowT : List RowD := [⟨true, false, false, false, false, -1, 0, 0, 0⟩, ⟨true, false, false, false, false, -1, 1, 0, 0⟩, ⟨true, true, false, false, false, -1, 10, 0, 2⟩, ⟨true, true, false, false, false, -1, 2, 0, 0⟩, ⟨true, true, true, false, false, -1, 0, 0, 0⟩, ⟨true, true, false, false, false, -1, 0, 0, 0⟩, ⟨true, true, false, false, false, -1, 3, 0, 0⟩, ⟨true, false, true, false, false, -1, 3, 0, 0⟩, ⟨true, false, false, false, false, -1, 3, 0, 0⟩, ⟨true, true, false, false, false, -1, 0, 0, 0⟩, ⟨true, true, true, false, false, -1, 0, 0, 0⟩, ⟨true, false, true, true, false, -1, 0, 0, 0⟩, ⟨true, false, true, false, false, -1, 0, 0, 0⟩, ⟨true, true, false, false, false, -1, 4, 0, 0⟩, ⟨true, true, true, true, false, -1, 10, 1, 7⟩, ⟨true, true, true, false, false, -1, 10, 1, 2⟩, ⟨true, true, true, true, false, -1, 10, 1, 10⟩, ⟨true, true, true, false, false, -1, 0, 0, 0⟩, ⟨true, false, false, false, true, -1, 0, 0, 0⟩, ⟨true, false, true, false, true, -1, 0, 0, 0⟩, ⟨true, false, true, false, true, -1, 0, 0, 0⟩, ⟨true, true, true, false, false, -2, 0, 0, 0⟩, ⟨true, true, true, false, false, -1, 3, 0, 0⟩, ⟨true, false, true, true, false, -1, 3, 0, 0⟩, ⟨true, true, true, true, false, -1, 0, 0, 0⟩, ⟨true, false, true, true, false, 1, 0, 0, 0⟩, ⟨true, false, true, true, false, -1, 0, 0, 0⟩, ⟨true, true, true, false, false, 2, 0, 0, 0⟩, ⟨true, true, false, false, false, -2, 0, 0, 0⟩, ⟨true, true, false, false, false, -2, 0, 0, 0⟩, ⟨true, true, false, false, false, -2, 0, 0, 0⟩, ⟨true, true, false, false, false, -3, 0, 0, 0⟩, ⟨true, false, true, true, false, -1, 0, 0, 0⟩, ⟨true, false, true, true, false, -1, 0, 0, 0⟩, ⟨true, false, true, false, false, -1, 3, 0, 0⟩, ⟨true, false, true, false, false, -2, 0, 0, 0⟩, ⟨true, true, false, false, false, -4, 5, 0, 0⟩, ⟨true, true, false, false, false, -2, 3, 0, 0⟩, ⟨true, true, true, false, false, -1, 0, 0, 0⟩, ⟨true, true, true, false, true, -1, 0, 0, 0⟩, ⟨true, true, true, false, false, -1, 0, 0, 0⟩, ⟨true, false, true, false, false, -1, 0, 0, 0⟩, ⟨true, false, true, false, false, -1, 0, 0, 0⟩, ⟨true, true, true, true, false, -1, 0, 0, 0⟩, ⟨true, true, false, false, false, -1, 10, 0, 34⟩]
def rowAt (op : Int) : RowD := if 0 ≤ op ∧ op < 45 then rowT.getD op.toNat rowZ else rowZ
theorem row_tab : ∀ n : Nat, n < 45 → doesB n 2 = (rowT.getD n rowZ).a ∧ doesB n 4 = (rowT.getD n rowZ).b ∧ doesB n 8 = ((rowT.getD n rowZ).l != -1 && (n : Int) != 35) ∧ doesB n 1 = (rowT.getD n rowZ).d ∧ doesB n 16 = ((n : Int) == 35) ∧
    doesB n 128 = ((n : Int) == 18 || (n : Int) == 41 || (n : Int) == 42) ∧ doesB n 32 = ((n : Int) == 18 || (n : Int) == 19 || (n : Int) == 20 || (n : Int) == 39) ∧ doesB n 256 = ((n : Int) == 0 || (n : Int) == 1 || (n : Int) == 2 || (n : Int) == 5 || (n : Int) == 18) ∧ (rowT.getD n rowZ).kn = true := by
  decide +kernel
structure RowOk (op : Int) : Prop where
  a : (rowAt op).a = doesB op 2
  b : (rowAt op).b = doesB op 4
  l : ((rowAt op).l != -1 && op != 35) = doesB op 8
  d : (rowAt op).d = doesB op 1
  u : (op == 35) = doesB op 16
  n : (op == 18 || op == 41 || op == 42) = doesB op 128
  t : (op == 18 || op == 19 || op == 20 || op == 39) = doesB op 32
  f : (op == 0 || op == 1 || op == 2 || op == 5 || op == 18) = doesB op 256
  k : (rowAt op).kn = knownB op
theorem rowOk (op : Int) : RowOk op := by
  by_cases h : 0 ≤ op ∧ op < 45
  · obtain ⟨n, rfl⟩ := Int.eq_ofNat_of_zero_le h.1
    obtain ⟨h1, h2, h3, h4, h5, h6, h7, h8, h9⟩ := row_tab n (by omega)
    have hr : rowAt (n : Int) = rowT.getD n rowZ := by unfold rowAt; rw [if_pos h, Int.toNat_natCast]
    exact ⟨by rw [hr, h1], by rw [hr, h2], by rw [hr, h3], by rw [hr, h4], h5.symm, h6.symm, h7.symm, h8.symm, by rw [hr, h9, knownB_yes h]⟩
  · have hr : rowAt op = rowZ := by unfold rowAt; rw [if_neg h]
    have hn : ∀ k : Int, 0 ≤ k → k < 45 → (op == k) = false := fun k h0 h1 => by rw [beq_eq_false_iff_ne]; intro e; exact h ⟨by omega, by omega⟩
    refine ⟨by rw [hr, doesB_no h]; rfl, by rw [hr, doesB_no h]; rfl, by rw [hr, doesB_no h]; rfl, by rw [hr, doesB_no h]; rfl, ?_, ?_, ?_, ?_, by rw [hr, knownB_no h]; rfl⟩
    all_goals rw [doesB_no h]; simp [hn]
end Go.Proofs.YtnniohimbmnapaaDoor
