/- Layer 2: what known() asks of DivMod: -7 over 2. -/
import Derived.Test.YticebchmafipiaaDoorWDivFull
import Derived.Test.YticebchmafipiaaDoorWDivSizes1
namespace Go.Proofs.YticebchmafipiaaDoor
open Go.ChangeShapes Go.WideShapes Go.ChangeAt Go.RowKit
set_option linter.unusedVariables false
set_option linter.unusedSimpArgs false
theorem dig_d {d : Int} (h : 0 ≤ d ∧ d < B18) : Dig B18 [d] := by
  intro i
  cases i with
  | zero => simpa using h
  | succ i => simp [B18]
theorem canon_d {d : Int} (h : 0 < d ∧ d < B18) : Canon B18 [d] := ⟨dig_d ⟨by omega, h.2⟩, fun _ => by simp; omega⟩
theorem sgn7 : Sgn B18 true [7] (-7) := ⟨canon_d ⟨by decide, by decide⟩, fun _ => by simp, by simp [sg, val]⟩
theorem sgn2 : Sgn B18 false [2] 2 := ⟨canon_d ⟨by decide, by decide⟩, fun h => (by cases h), by simp [sg, val]⟩
theorem div_known (n1 : Bool) (u1 : Value) (xs : List Int) (n2 : Bool) (u2 : Value) (ys : List Int) (w : World) (hr1 : Rd w u1 xs) (hr2 : Rd w u2 ys) (hs1 : Sgn B18 n1 xs (-7)) (hs2 : Sgn B18 n2 ys 2) :
    Calls Tryd.prog 17 #[.agg #[.bool n1, u1], .agg #[.bool n2, u2]] w (fun e w' => ∃ nq uq qs nr ur rs, e = .returned (.tuple #[.agg #[.bool nq, uq], .agg #[.bool nr, ur], .int .i64 0]) ∧ MU w' w.heap.size uq qs ∧ MU w' w.heap.size ur rs ∧ Sgn B18 nq qs (-4) ∧ Sgn B18 nr rs 1 ∧ Below w.heap.size w w') := by
  obtain ⟨rfl, rfl⟩ := hs1.uniq (by decide) sgn7
  obtain ⟨rfl, rfl⟩ := hs2.uniq (by decide) sgn2
  refine (div_walk true u1 [7] (-7) false u2 [2] 2 w hr1 hr2 hs1 hs2 (by simp) (by simp) (by simp) (fun wx hb => divSizes_one u1 u2 [7] 2 wx (hr1.keep hb) (hr2.keep hb) (dig_d ⟨by decide, by decide⟩) (by simp) ⟨by decide, by decide⟩ (by simp [val, cmpI]) (canon_d ⟨by decide, by decide⟩) (canon_d ⟨by decide, by decide⟩) ?_)).mono ?_
  · intro wy hi lo h0 h1 h2 h3 h4
    obtain rfl := h4 (by simp)
    exact div64_small lo 2 ⟨h2, h3⟩ ⟨by decide, by decide⟩ wy
  · rintro e w' ⟨nq, uq, qs, zq, nr, ur, rs, zr, rfl, hq, hr, hsq, hsr, he, hb, hw⟩
    obtain rfl : zr = 1 := by omega
    obtain rfl : zq = -4 := by omega
    exact ⟨nq, uq, qs, nr, ur, rs, rfl, hq, hr, hsq, hsr, hw⟩
end Go.Proofs.YticebchmafipiaaDoor
