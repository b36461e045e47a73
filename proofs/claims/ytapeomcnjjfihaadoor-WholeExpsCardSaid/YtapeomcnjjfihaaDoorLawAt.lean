/- Layer 2: answers over a world that stays fixed; what a result that may be too great says. -/
import Derived.Test.YtapeomcnjjfihaaDoorWLawHelp
import Derived.Test.YtapeomcnjjfihaaDoorWFit
namespace Go.Proofs.YtapeomcnjjfihaaDoor
open Go.ChangeShapes Go.WideShapes Go.ChangeAt Go.RowKit
set_option linter.unusedVariables false
set_option linter.unusedSimpArgs false
/-- What a result that may be too great says: the number, or that there is none. -/
def ResCase (z : Int) (neg : Bool) (ws : List Int) (er : Int) : Prop := (Small z ∧ er = 0 ∧ Sgn B18 neg ws z) ∨ (¬ Small z ∧ er = 7 ∧ neg = false ∧ ws = [])
/-- A call's answer, over a world that stays fixed. -/
def At (W : World) (v : Value) (e : Ending) (w' : World) : Prop := e = .returned v ∧ Below W.heap.size W w'
theorem drew_cellA {W : World} {a : Addr} {v : Value} (h : W.cell? a = some v) : W.drew.cell? a = some v := h
theorem ResCase.uniq {z : Int} {n1 n2 : Bool} {xs ys : List Int} {e1 e2 : Int} (h : ResCase z n1 xs e1) (g : ResCase z n2 ys e2) : n1 = n2 ∧ xs = ys ∧ e1 = e2 := by
  rcases h with ⟨a, rfl, c⟩ | ⟨a, rfl, rfl, rfl⟩ <;> rcases g with ⟨a', rfl, c'⟩ | ⟨a', rfl, rfl, rfl⟩
  · exact ⟨(c.uniq (by decide) c').1, (c.uniq (by decide) c').2, rfl⟩
  · exact absurd a a'
  · exact absurd a' a
  · exact ⟨rfl, rfl, rfl⟩
theorem ResCase.len17 {z : Int} {neg : Bool} {ws : List Int} {er : Int} (h : ResCase z neg ws er) : ws.length ≤ 17592186043904 := by
  rcases h with ⟨h1, _, h3⟩ | ⟨_, _, _, rfl⟩
  · have := h3.small.2 h1; omega
  · simp
theorem ResCase.sgn {z : Int} {neg : Bool} {ws : List Int} {er : Int} (h : ResCase z neg ws er) : Sgn B18 neg ws (sg neg (val B18 ws)) ∧ ws.length ≤ 30 := by
  rcases h with ⟨h1, _, h3⟩ | ⟨_, _, rfl, rfl⟩
  · exact ⟨by have := h3.eq; rwa [this] at h3, h3.small.2 h1⟩
  · exact ⟨Sgn.zero (by decide), by simp⟩
theorem ResCase.er {z : Int} {neg : Bool} {ws : List Int} {er : Int} (h : ResCase z neg ws er) : er = 0 ∨ er = 7 := by
  rcases h with ⟨_, h, _⟩ | ⟨_, h, _⟩
  · exact .inl h
  · exact .inr h
theorem ResCase.ok {z : Int} {neg : Bool} {ws : List Int} (h : ResCase z neg ws 0) : Sgn B18 neg ws z := by
  rcases h with ⟨_, _, h⟩ | ⟨_, h, _⟩
  · exact h
  · cases h
theorem ResCase.er0 {z : Int} {neg : Bool} {ws : List Int} {er : Int} (h : ResCase z neg ws er) (hs : Small z) : er = 0 := by
  rcases h with ⟨_, h, _⟩ | ⟨h, _⟩
  · exact h
  · exact absurd hs h
theorem ResCase.er7 {z : Int} {neg : Bool} {ws : List Int} {er : Int} (h : ResCase z neg ws er) (hs : ¬ Small z) : er = 7 := by
  rcases h with ⟨h, _⟩ | ⟨_, h, _⟩
  · exact absurd h hs
  · exact h
theorem back_same {z2 : Int} {n n1 : Bool} {ws xs : List Int} {er : Int} (h : ResCase (sg n1 (val B18 xs) + z2 - z2) n ws er) (s : Sgn B18 n1 xs (sg n1 (val B18 xs))) (hl : xs.length ≤ 30) : n1 = n ∧ xs = ws ∧ 0 = er := by
  rw [Int.add_sub_cancel] at h
  exact ResCase.uniq (.inl ⟨s.small.1 hl, rfl, s⟩) h
theorem same_self (n : Bool) (u1 u2 : Value) (ws : List Int) (w : World) (h1 : Rd w u1 ws) (h2 : Rd w u2 ws) :
    Calls Tryd.prog 16 #[.agg #[.bool n, u1], .agg #[.bool n, u2]] w (BoolPost w true) := by
  have h := same_any n n u1 u2 ws ws w h1 h2
  rwa [show sameB n ws n ws = true by simp [sameB]] at h
theorem same_yes (n1 n2 : Bool) (u1 u2 : Value) (xs ys : List Int) (z : Int) (w : World) (h1 : Rd w u1 xs) (h2 : Rd w u2 ys) (s1 : Sgn B18 n1 xs z) (s2 : Sgn B18 n2 ys z) :
    Calls Tryd.prog 16 #[.agg #[.bool n1, u1], .agg #[.bool n2, u2]] w (BoolPost w true) := by
  have h := same_any n1 n2 u1 u2 xs ys w h1 h2
  rwa [s1.same (by decide) s2] at h
theorem refgood_at {W wx : World} {n1 : Bool} {u1 : Value} {xs : List Int} {b : Bool} (hr : Rd W u1 xs) (hf : Fit xs) (hg : goodB n1 xs = b) (hx : Below W.heap.size W wx) :
    Calls Tryd.prog 15 #[.agg #[.bool n1, u1]] wx (At W (.bool b)) := by
  refine (refgood_any n1 u1 xs wx (hr.keep hx) hf).mono ?_
  rintro e w' ⟨rfl, hb⟩
  rw [hg]
  exact ⟨rfl, hx.trans (hb.mono hx.size)⟩
theorem good_at {W wx : World} {n1 : Bool} {u1 : Value} {xs : List Int} {b : Bool} (hr : Rd W u1 xs) (hf : Fit xs) (hg : goodB n1 xs = b) (hx : Below W.heap.size W wx) :
    Calls Tryd.prog 14 #[.agg #[.bool n1, u1]] wx (At W (.bool b)) := by
  refine (good_any n1 u1 xs wx (hr.keep hx) hf).mono ?_
  rintro e w' ⟨rfl, hb⟩
  rw [hg]
  exact ⟨rfl, hx.trans (hb.mono hx.size)⟩
theorem form_at {W wx : World} {n1 : Bool} {u1 : Value} {xs : List Int} {n2 : Bool} {u2 : Value} {ys : List Int} (hr1 : Rd W u1 xs) (hr2 : Rd W u2 ys) (hf1 : Fit xs) (hf2 : Fit ys) (hg1 : goodB n1 xs = true) (hg2 : goodB n2 ys = true) (hx : Below W.heap.size W wx) :
    Calls Tryd.prog 28 #[.agg #[.bool n1, u1], .agg #[.bool n2, u2]] wx (At W (.int .i64 0)) := by
  refine (form_law n1 u1 xs n2 u2 ys wx (hr1.keep hx) (hr2.keep hx) hf1 hf2).mono ?_
  rintro e w' ⟨rfl, hb⟩
  rw [hg1, hg2]
  exact ⟨rfl, hx.trans (hb.mono hx.size)⟩
theorem form_at1 {W wx : World} {n1 : Bool} {u1 : Value} {xs : List Int} {n2 : Bool} {u2 : Value} {ys : List Int} (hr1 : Rd W u1 xs) (hr2 : Rd W u2 ys) (hf1 : Fit xs) (hf2 : Fit ys) (hg1 : goodB n1 xs = false) (hx : Below W.heap.size W wx) :
    Calls Tryd.prog 28 #[.agg #[.bool n1, u1], .agg #[.bool n2, u2]] wx (At W (.int .i64 3)) := by
  refine (form_law n1 u1 xs n2 u2 ys wx (hr1.keep hx) (hr2.keep hx) hf1 hf2).mono ?_
  rintro e w' ⟨rfl, hb⟩
  rw [hg1]
  exact ⟨rfl, hx.trans (hb.mono hx.size)⟩
theorem form_at2 {W wx : World} {n1 : Bool} {u1 : Value} {xs : List Int} {n2 : Bool} {u2 : Value} {ys : List Int} (hr1 : Rd W u1 xs) (hr2 : Rd W u2 ys) (hf1 : Fit xs) (hf2 : Fit ys) (hg1 : goodB n1 xs = true) (hg2 : goodB n2 ys = false) (hx : Below W.heap.size W wx) :
    Calls Tryd.prog 28 #[.agg #[.bool n1, u1], .agg #[.bool n2, u2]] wx (At W (.int .i64 3)) := by
  refine (form_law n1 u1 xs n2 u2 ys wx (hr1.keep hx) (hr2.keep hx) hf1 hf2).mono ?_
  rintro e w' ⟨rfl, hb⟩
  rw [hg1, hg2]
  exact ⟨rfl, hx.trans (hb.mono hx.size)⟩
end Go.Proofs.YtapeomcnjjfihaaDoor
