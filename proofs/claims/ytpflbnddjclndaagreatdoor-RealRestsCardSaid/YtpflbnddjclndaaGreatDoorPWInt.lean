/- Layer 2: whole.Int, and what it asks of the limbs. -/
import Derived.Test.YtpflbnddjclndaaGreatDoorPWRefInt
namespace Go.Proofs.YtpflbnddjclndaaGreatDoor
open Go.ChangeShapes Go.WideShapes Go.ChangeAt Go.RowKit
set_option linter.unusedVariables false
set_option linter.unusedSimpArgs false
def SizePost (W : World) (xs : List Int) (e : Ending) (w' : World) : Prop :=
  ∃ s ok, e = .returned (.tuple #[.int .u64 s, .bool ok]) ∧ 0 ≤ s ∧ s ≤ 18446744073709551615 ∧ (ok = true → s = val B18 xs) ∧ (ok = false → 10000000000000000000 ≤ val B18 xs) ∧ Below W.heap.size W w'
/-- What Int answers. -/
def IntPost (W : World) (z : Int) (e : Ending) (w' : World) : Prop :=
  ∃ m er : Int, e = .returned (.tuple #[.int .i64 m, .int .i64 er]) ∧ ((I64 z ∧ m = z ∧ er = 0) ∨ (¬ I64 z ∧ m = 0 ∧ er = 7)) ∧ Below W.heap.size W w'
theorem IntPost.yes {W w' : World} {z m : Int} (h : I64 z) (e : m = z) (hb : Below W.heap.size W w') : IntPost W z (.returned (.tuple #[.int .i64 m, .int .i64 0])) w' := ⟨m, 0, rfl, .inl ⟨h, e, rfl⟩, hb⟩
theorem IntPost.no {W w' : World} {z : Int} (h : ¬ I64 z) (hb : Below W.heap.size W w') : IntPost W z (.returned (.tuple #[.int .i64 0, .int .i64 7])) w' := ⟨0, 7, rfl, .inr ⟨h, rfl, rfl⟩, hb⟩
end Go.Proofs.YtpflbnddjclndaaGreatDoor
