/- Layer 2: the law WholeForms, walked, at every input. -/
import Derived.Test.YtnfemojgecljiaaGreatDoorPLawNum2
import Derived.Test.YtnfemojgecljiaaGreatDoorPWInt
import Derived.Test.YtnfemojgecljiaaGreatDoorPWRefInt
import Derived.Test.YtnfemojgecljiaaGreatDoorPGWe
namespace Go.Proofs.YtnfemojgecljiaaGreatDoor
open Go.ChangeShapes Go.WideShapes Go.ChangeAt Go.RowKit
set_option linter.unusedVariables false
set_option linter.unusedSimpArgs false
theorem refint_at {W wx : World} {n : Int} (hn : I64 n) (hx : Below W.heap.size W wx) : Calls Tryz.prog 20 #[.int .i64 n] wx (NumAt W wx n) := by
  refine (refint_any n hn wx).mono ?_
  rintro e w' ⟨m, u, ds, rfl, hb, hS, hB⟩
  obtain ⟨p, c, rfl, _, _, _⟩ := rb_form hb
  exact ⟨m, p, c, ds, rfl, hb, hS, hx.trans (hB.mono hx.size), hB⟩
theorem wof_at {W wx : World} {n : Int} (hn : I64 n) (hx : Below W.heap.size W wx) : Calls Tryz.prog 64 #[.int .i64 n] wx (BigAt W wx n) := by
  refine (of_int n wx hn.lo hn.hi).mono ?_
  rintro e w' ⟨m, u, ws, rfl, hM, hS, hB⟩
  obtain ⟨p, c, rfl⟩ := MU.form hM
  have hlen : ws.length ≤ 30 := hS.small.2 hn.small
  exact ⟨m, p, c, ws, rfl, hM.rd (by omega), hS, hx.trans (hB.mono hx.size), hB⟩
end Go.Proofs.YtnfemojgecljiaaGreatDoor
