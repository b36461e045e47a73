/- Layer 15: equality, order, truth and hashes agree: the law. -/
import Derived.Test.YtnfemojgecljiaaGreatDoorPGLPa
import Derived.Test.YtnfemojgecljiaaGreatDoorPGLPb
namespace Go.Proofs.YtnfemojgecljiaaGreatDoor
open Go Go.ChangeShapes Go.WideShapes Go.ChangeAt Go.RowKit
set_option linter.unusedVariables false
set_option linter.unusedSimpArgs false
theorem law_pagree (kA : Int) (yA nA : Bool) (uA : Value) (sA : List Int) (bA : Nat) (xA : ByteArray) (pAi : Option Addr) (mA cAi : Nat) (kB : Int) (yB nB : Bool) (uB : Value) (sB : List Int) (bB : Nat) (xB : ByteArray) (pBi : Option Addr) (mB cBi : Nat) (w : World) (hrA : Rd w uA sA) (hrB : Rd w uB sB) (hfA : Fit sA) (hfB : Fit sB) (hbA : bA < 18446744073709551616) (hbB : bB < 18446744073709551616) (hmA0 : (mA : Int) ≤ 9223372036854775807) (hmB0 : (mB : Int) ≤ 9223372036854775807) (hxA : (xA.size : Int) ≤ 9223372036854775807) (hxB : (xB.size : Int) ≤ 9223372036854775807) :
    Calls Tryz.prog 4 #[.agg #[.int .i64 kA, .bool yA, .bool nA, uA, .int .u64 (bA : Int), .string xA, .slice pAi mA cAi], .agg #[.int .i64 kB, .bool yB, .bool nB, uB, .int .u64 (bB : Int), .string xB, .slice pBi mB cBi]] w fun e w' => e = .returned (.bool true) ∧ Below w.heap.size w w' := by
  by_cases h3 : kA = 3
  · cases h1 : eqP (goodP kA yA nA sA bA xA mA) (goodP kB yB nB sB bB xB mB) (numP kA) (numP kB) (nuC kA kB bA bB (zP kA yA nA sA) (zP kB yB nB sB)) (nuB kA kB bA bB) kA kB xA xB
    · cases h2 : saP (goodP kA yA nA sA bA xA mA) (goodP kB yB nB sB bB xB mB) (kA != kB) (kA == 3) ((bA : Int) == (bB : Int)) (nanB bA) (nanB bB) (yA == yB) (xA.toList == xB.toList) (cmpI (sg nA (val B18 sA)) (sg nB (val B18 sB)))
      · cases h4 : goodP kA yA nA sA bA xA mA
        · apply pa_f2 <;> assumption
        · apply pa_f1 <;> assumption
      · have hgg : goodP kA yA nA sA bA xA mA = true ∧ goodP kB yB nB sB bB xB mB = true := by
          cases hg : ((goodP kA yA nA sA bA xA mA) && (goodP kB yB nB sB bB xB mB))
          · exfalso
            rw [sa_bad _ _ _ _ _ _ _ _ _ _ hg] at h2
            cases h2
          · simpa using hg
        have h4 := hgg.1
        have h5 : nanB bA = true := by
          cases hn : nanB bA
          · exfalso
            have hs := h2
            rw [hgg.1, hgg.2] at hs
            have h := sa_agree hfA hfB hgg.1 hgg.2 hs (by rw [hn]; simp)
            have he := h1
            rw [hgg.1, hgg.2, h] at he
            cases he
          · rfl
        apply pa_f4 <;> assumption
    · apply pa_t1 <;> assumption
  · cases h1 : eqP (goodP kA yA nA sA bA xA mA) (goodP kB yB nB sB bB xB mB) (numP kA) (numP kB) (nuC kA kB bA bB (zP kA yA nA sA) (zP kB yB nB sB)) (nuB kA kB bA bB) kA kB xA xB
    · cases h2 : saP (goodP kA yA nA sA bA xA mA) (goodP kB yB nB sB bB xB mB) (kA != kB) (kA == 3) ((bA : Int) == (bB : Int)) (nanB bA) (nanB bB) (yA == yB) (xA.toList == xB.toList) (cmpI (sg nA (val B18 sA)) (sg nB (val B18 sB)))
      · apply pa_f3 <;> assumption
      · have hgg : goodP kA yA nA sA bA xA mA = true ∧ goodP kB yB nB sB bB xB mB = true := by
          cases hg : ((goodP kA yA nA sA bA xA mA) && (goodP kB yB nB sB bB xB mB))
          · exfalso
            rw [sa_bad _ _ _ _ _ _ _ _ _ _ hg] at h2
            cases h2
          · simpa using hg
        exfalso
        have hs := h2
        rw [hgg.1, hgg.2] at hs
        have h := sa_agree hfA hfB hgg.1 hgg.2 hs (by simp [h3])
        have he := h1
        rw [hgg.1, hgg.2, h] at he
        cases he
    · apply pa_t2 <;> assumption
end Go.Proofs.YtnfemojgecljiaaGreatDoor
