/- Layer 2: whole.fit: a result, if it isn't too great. -/
import Derived.Test.YthcijdlkaoppnaaGreatDoorPWBig
namespace Go.Proofs.YthcijdlkaoppnaaGreatDoor
open Go.ChangeShapes Go.WideShapes Go.ChangeAt Go.RowKit
set_option linter.unusedVariables false
set_option linter.unusedSimpArgs false
def ResPost (W : World) (B0 : Nat) (z : Int) (e : Ending) (w' : World) : Prop :=
  ∃ neg u ws er, e = .returned (.tuple #[.agg #[.bool neg, u], .int .i64 er]) ∧ MU w' B0 u ws ∧ Below W.heap.size W w' ∧
    ((Small z ∧ er = 0 ∧ Sgn B18 neg ws z) ∨ (¬ Small z ∧ er = 7 ∧ neg = false ∧ ws = []))
theorem MU.form {w : World} {B : Nat} {u : Value} {ws : List Int} (h : MU w B u ws) : ∃ p c, u = .slice p ws.length c := by
  rcases h with ⟨rfl, rfl⟩ | ⟨g, c, cur, h0, _⟩
  · exact ⟨_, _, rfl⟩
  · exact ⟨_, _, h0⟩
theorem alloc_frozen {W : World} {a : Addr} (h : a.block < W.heap.size) (hf : W.frozen? a = false) (o : Obj) : (W.alloc o).frozen? a = false :=
  (((Below.refl W.heap.size W).alloc (Nat.le_refl _) o).frozen (p := a) h).trans hf
end Go.Proofs.YthcijdlkaoppnaaGreatDoor
