/- Layer 2: the law WholeForms, walked, at every input. -/
import Derived.Test.YtpflbnddjclndaaGreatDoorPLawNum2
import Derived.Test.YtpflbnddjclndaaGreatDoorPWInt
import Derived.Test.YtpflbnddjclndaaGreatDoorPWRefInt
import Derived.Test.YtpflbnddjclndaaGreatDoorPGWe
namespace Go.Proofs.YtpflbnddjclndaaGreatDoor
open Go.ChangeShapes Go.WideShapes Go.ChangeAt Go.RowKit
set_option linter.unusedVariables false
set_option linter.unusedSimpArgs false
theorem wof_at {W wx : World} {n : Int} (hn : I64 n) (hx : Below W.heap.size W wx) : Calls Tryz.prog 22 #[.int .i64 n] wx (BigAt W wx n) := by
  refine (of_int n wx hn.lo hn.hi).mono ?_
  rintro e w' ⟨m, u, ws, rfl, hM, hS, hB⟩
  obtain ⟨p, c, rfl⟩ := MU.form hM
  have hlen : ws.length ≤ 30 := hS.small.2 hn.small
  exact ⟨m, p, c, ws, rfl, hM.rd (by omega), hS, hx.trans (hB.mono hx.size), hB⟩
end Go.Proofs.YtpflbnddjclndaaGreatDoor
