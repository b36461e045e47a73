/- Layers 8 and 10: what an instruction reads, writes and goes on at, functions: as plain data. -/
import Derived.Laws.BitsAllLaws
namespace Go.Proofs.YtebnbgnoldocaaaGreatDoor
open Go
set_option linter.unusedVariables false
set_option linter.unusedSimpArgs false
structure InsD where
  op : Int
  d : Int
  a : Int
  b : Int
  t : Int
  k : Int
  l : List Int
structure RegD where
  lo : Int
  hi : Int
  to : Int
  d : Int
structure FuncD where
  params : Int
  regs : Int
  ins : List InsD
  regions : List RegD
def insZ : InsD := ⟨0, 0, 0, 0, 0, 0, []⟩
def regZ : RegD := ⟨0, 0, 0, 0⟩
def usesL : List Int := [256, 320, 321, 65, 3, 257, 65, 66, 64, 1, 3, 6, 2, 65, 71, 67, 71, 3, 416, 34, 34, 11, 67, 70, 7, 14, 6, 11, 9, 9, 9, 9, 6, 6, 66, 18, 73, 73, 3, 35, 3, 130, 130, 7, 65]
def knownB (op : Int) : Bool := decide (0 ≤ op) && decide (op < 45)
def doesB (op fl : Int) : Bool := knownB op && (bits .and .i64 (usesL.getD op.toNat 0) fl != 0)
def readsD (i : InsD) : List Int := ((if doesB i.op 2 then [i.a] else []) ++ (if doesB i.op 4 then [i.b] else [])) ++ (if doesB i.op 8 then i.l else [])
def writesD (i : InsD) : List Int := (if doesB i.op 1 then [i.d] else []) ++ (if doesB i.op 16 then i.l else [])
def nextI (x : Int) : Int := if x < 9223372036854775807 then x + 1 else x
def goesD (i : InsD) (x : Int) : List Int := (if doesB i.op 128 then [] else [nextI x]) ++ (if doesB i.op 32 then [i.t] else [])
def allocB (op : Int) : Bool := knownB op && !doesB op 256
theorem knownB_no {op : Int} (h : ¬ (0 ≤ op ∧ op < 45)) : knownB op = false := by
  unfold knownB
  by_cases h0 : 0 ≤ op
  · have : ¬ op < 45 := fun h1 => h ⟨h0, h1⟩
    simp [this]
  · simp [h0]
theorem knownB_yes {op : Int} (h : 0 ≤ op ∧ op < 45) : knownB op = true := by simp [knownB, h.1, h.2]
theorem doesB_no {op fl : Int} (h : ¬ (0 ≤ op ∧ op < 45)) : doesB op fl = false := by simp [doesB, knownB_no h]
theorem doesB_yes {op fl : Int} (h : 0 ≤ op ∧ op < 45) : doesB op fl = (bits .and .i64 (usesL.getD op.toNat 0) fl != 0) := by simp [doesB, knownB_yes h]
end Go.Proofs.YtebnbgnoldocaaaGreatDoor
