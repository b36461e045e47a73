/- strconv's shortest digits of 1.0, run. -/
import Derived.Test.YtlhfemgimieooaaGreatDoorPGRlF
import Derived.Test.YtlhfemgimieooaaGreatDoorShelfR
import Derived.Lib.AppendIntMem
import Derived.Lib.ItoaLen
import Derived.Test.YtlhfemgimieooaaGreatDoorPGWg
import Derived.Test.YtlhfemgimieooaaGreatDoorPGWa
import Derived.RegionTactic
import Derived.ChangeAlike
import Derived.Deep.RegionHeld3
import Derived.Lib.ConvBytes
set_option linter.unusedVariables false
set_option linter.unusedSimpArgs false
namespace Go.Proofs.YtlhfemgimieooaaGreatDoor
section
open Go Go.ChangeShapes Go.WideShapes Go.RowKit
end
section
open Go Go.ChangeShapes Go.WideShapes Go.RowKit Go.Sort Go.Lib
def No (w : World) (B : Nat) : Prop := ∀ j, j < 16 → w.cell? ⟨B, j, none⟩ = some (.int .u8 0) ∧ w.frozen? ⟨B, j, none⟩ = false
end
section
open Go Go.ChangeShapes Go.WideShapes Go.RowKit
end
section
open Go Go.ChangeShapes Go.WideShapes Go.RowKit
def P10R (w : World) : Prop := Lib.TabIs Tryz.prog w "internal/strconv.uint64pow10" .u64 Lib.pow10Tab
@[go_sem] theorem run_sbits (b : Nat) (w : World) : (callFunc 225 #[.float .f64 b]).run Tryz.prog w = .ok (.value (.int .u64 (b : Int))) w := by
 rw [run_callFunc_extern Tryz.func225 (by kernel_rfl) (by kernel_rfl) (by kernel_rfl) (e := Extern.MathFloatBits.float64bits) (by kernel_rfl)]
 rfl
theorem P10R.keep {w w' : World} (h : P10R w) (hb : Below w.heap.size w w') : P10R w' := by
 unfold P10R Lib.TabIs World.var? at *
 cases hg : Tryz.prog.globalNamed "internal/strconv.uint64pow10" with
 | none => simp [hg] at h
 | some g =>
   simp only [hg, Option.bind_some] at h ⊢
   have hlt : g < w.heap.size := by
     by_cases hx : g < w.heap.size
     · exact hx
     · rw [Array.getElem?_eq_none (by omega)] at h
       cases h
   rw [hb.block g hlt]
   exact h
end
section
open Go Go.ChangeShapes Go.WideShapes Go.RowKit
theorem below_bytesWorld (w : World) (e : TypeId) (s : ByteArray) : Below w.heap.size w (Lib.bytesWorld w e s) := by
 refine ⟨?_, ?_, ?_, by rw [Lib.bytesWorld_size]; omega, fun k hk => Lib.bytesWorld_at_old w e s k hk⟩ <;> simp [Lib.bytesWorld, World.freeze, World.alloc, World.drew, -World.alloc_eq, -World.drew_eq]
end
end Go.Proofs.YtlhfemgimieooaaGreatDoor
