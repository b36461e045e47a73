/- Layer 2, the document's answer: Plus. -/
import Derived.Test.YtpflbnddjclndaaGreatDoorPGWf
namespace Go.Proofs.YtpflbnddjclndaaGreatDoor
open Go.ChangeShapes Go.WideShapes Go.ChangeAt Go.RowKit
set_option linter.unusedVariables false
set_option linter.unusedSimpArgs false
theorem Mine.form {k : IntKind} {T : TypeId} {w : World} {B : Nat} {u : Value} {ws : List Int} (h : Mine k T w B u ws) : ∃ p c, u = .slice p ws.length c := by
  rcases h with ⟨rfl, rfl⟩ | ⟨g, c, cur, h0, _⟩
  · exact ⟨_, _, rfl⟩
  · exact ⟨_, _, h0⟩
/-- A sign and the digits of a sum or a difference. -/
theorem Sgn.made {b : Int} (hb : 0 < b) {n : Bool} {os : List Int} {a z : Int} (hc : Canon b os) (hv : val b os = a) (hp : n = true → 0 < a) (hz : sg n a = z) : Sgn b n os z := by
  refine ⟨hc, fun e => ?_, by rw [hv, hz]⟩
  have h1 := hp e
  cases os with
  | nil => simp [val] at hv; omega
  | cons d r => simp
theorem Sgn.pos {b : Int} (hb : 0 < b) {n : Bool} {ws : List Int} {z : Int} (h : Sgn b n ws z) (e : n = true) : 0 < val b ws := h.canon.pos hb (h.sign e)
theorem len_le10 {xs ys : List Int} (hx : Canon 10 xs) (hy : Canon 10 ys) (h : val 10 xs ≤ val 10 ys) : xs.length ≤ ys.length := by
  apply Classical.byContradiction
  intro hc
  have := len_lt (b := 10) (by decide) hy hx (by omega)
  omega
end Go.Proofs.YtpflbnddjclndaaGreatDoor
