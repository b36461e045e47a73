/- Layer 2: whole.Add. -/
import Derived.Test.YthcijdlkaoppnaaGreatDoorPWAddBad
import Derived.Deep.RegionHeld3
namespace Go.Proofs.YthcijdlkaoppnaaGreatDoor
open Go.ChangeShapes Go.WideShapes Go.ChangeAt Go.RowKit
set_option linter.unusedVariables false
set_option linter.unusedSimpArgs false
theorem len_le {xs ys : List Int} (hx : Canon B18 xs) (hy : Canon B18 ys) (h : val B18 xs ≤ val B18 ys) : xs.length ≤ ys.length := by
  apply Classical.byContradiction
  intro hc
  have := len_lt (b := B18) (by decide) hy hx (by omega)
  omega
end Go.Proofs.YthcijdlkaoppnaaGreatDoor
