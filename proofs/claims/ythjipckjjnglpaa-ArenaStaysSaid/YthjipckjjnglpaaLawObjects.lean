/- The law of ArenaObjects, walked: it answers true and changes nothing that was there. -/
import Derived.Test.YthjipckjjnglpaaRefAllNo
import Derived.Test.YthjipckjjnglpaaObjects
import Derived.Test.YthjipckjjnglpaaSameInts
import Derived.Test.YthjipckjjnglpaaKnown13
import Derived.Deep.RegionHeld3
namespace Go.Proofs.Ythjipckjjnglpaa
open Go.ChangeShapes Go.WideShapes Go.ChangeAt Go.RowKit
set_option linter.unusedVariables false
set_option linter.unusedSimpArgs false
theorem ri_own {w : World} {B : Nat} {u : Value} {l : List Nat} (h : w.ownsRow B 3 1 u l.length (natVals l)) (hm : l.length ≤ 9223372036854775807) : Ri w u l := by
  have h0 := h
  rcases h.2 with ⟨rfl, h2⟩ | ⟨g, cap, cur, rfl, hg, r1, r2, r3, r4, r5⟩
  · exact .inl ⟨rfl, List.length_eq_zero_iff.1 h2⟩
  · refine .inr ⟨g, cap, rfl, hm, fun i x hx => ?_⟩
    have hi : i < l.length := by
      rw [List.getElem?_eq_some_iff] at hx
      exact hx.1
    rw [h0.cellAt i (by omega)]
    simp [natVals, hx]
theorem scanF_len (ws : List Int) : ∀ (f k : Nat) (l : List Nat), scanF ws f k = some l → l.length ≤ f := by
  intro f
  induction f with
  | zero =>
    intro k l h
    simp only [scanF] at h
    split at h
    · cases h
    · simp only [Option.some.injEq] at h; subst h; simp
  | succ f ih =>
    intro k l h
    simp only [scanF] at h
    split at h
    · split at h
      · rw [Option.map_eq_some_iff] at h
        obtain ⟨r, hr, rfl⟩ := h
        have := ih _ _ hr
        simp; omega
      · cases h
    · simp only [Option.some.injEq] at h; subst h; simp
theorem objList_len (ws : List Int) (top : Int) : (objList ws top).length ≤ 9223372036854775807 := by
  unfold objList
  split
  · rename_i hm
    cases hs : scan (ws.take top.toNat) 1 with
    | none => simp
    | some l =>
      have h1 := scanF_len _ _ _ _ hs
      unfold memOk sizesOk at hm
      simp only [Bool.and_eq_true, decide_eq_true_eq] at hm
      rw [List.length_take] at h1
      simp only [Option.getD_some]
      omega
  · simp
theorem Ri.form {w : World} {v : Value} {l : List Nat} (h : Ri w v l) : ∃ p c, v = .slice p l.length c := by
  rcases h with ⟨rfl, rfl⟩ | ⟨g, c, rfl, _⟩
  · exact ⟨none, 0, rfl⟩
  · exact ⟨_, c, rfl⟩
set_option maxRecDepth 100000 in
set_option maxHeartbeats 1000000 in
theorem lawObjects (v : Value) (ws : List Int) (top : Int) (w : World) (hr : Rd w v ws) (hf : Fit ws) (ht : -9223372036854775808 ≤ top ∧ top ≤ 9223372036854775807) :
    Calls Try.prog 5 #[.agg #[v, .int .i64 top]] w fun e w' => e = .returned (.bool true) ∧ Below w.heap.size w w' := by
  have hv1 : ∃ p n c, v = .slice p n c := by
    rcases hr with ⟨p0, rfl, rfl⟩ | ⟨b, off, c, rfl, hl, hc, hcell⟩
    · exact ⟨p0, 0, 0, rfl⟩
    · exact ⟨_, _, _, rfl⟩
  obtain ⟨vp, vn, vc, rfl⟩ := hv1
  have HR := Lib.hid hr
  clear hr
  go_enter Try.func5, Try.ntmps5
  go_wp2_with fail
  refine (refall_any _ ws top _ (HR.out.alloc _) hf ht).mono ?_
  rintro e w1 ⟨hb1, u1, rfl, ho1⟩
  have hB1 : Below w.heap.size w w1 := ((Below.refl _ _).alloc (Nat.le_refl _) _).trans (hb1.mono (by simp))
  have hx0 := below_cell hb1 (a := ⟨w.heap.size, 0, none⟩) (v := .slice vp vn vc) (by simp)
  have hx1 := below_cell hb1 (a := ⟨w.heap.size, 1, none⟩) (v := .int .i64 top) (by simp)
  have R1 := Lib.hid (ri_own ho1 (objList_len ws top))
  clear hb1 ho1
  go_wp2_with fail
  refine (objects _ ws top _ (HR.out.keep hB1) hf ht).mono ?_
  rintro e w2 ⟨hb2, u2, rfl, ho2⟩
  have hB2 := hB1.trans (hb2.mono hB1.size)
  have R2 := Lib.hid (ri_own ho2 (objList_len ws top))
  have R1' := Lib.hid (R1.out.keep hb2)
  clear hb2 ho2 R1
  go_wp2_with fail
  refine (known _).mono ?_
  rintro e w3 ⟨rfl, hb3⟩
  have hB3 := hB2.trans (hb3.mono hB2.size)
  have Q2 := Lib.hid (R2.out.keep hb3)
  have Q1 := Lib.hid (R1'.out.keep hb3)
  clear hb3 R2 R1'
  obtain ⟨p1, c1, rfl⟩ := Q1.out.form
  obtain ⟨p2, c2, rfl⟩ := Q2.out.form
  have HM : memOk ws top = false → (objList ws top).length = 0 := fun h => by unfold objList; rw [h]; rfl
  cases hm : memOk ws top
  · have h0 := HM hm
    have Z1 := Q1.out
    have Z2 := Q2.out
    rw [h0] at Z1 Z2 ⊢
    have H1 := Lib.hid Z1
    have H2 := Lib.hid Z2
    clear HM Q1 Q2 Z1 Z2 h0
    go_wp2_with fail
    refine (sameints _ _ _ _ H2.out H1.out).mono ?_
    rintro e w4 ⟨rfl, q, rfl⟩
    go_wp2_with fail
    go_ret
    exact ⟨rfl, below_drewN hB3 q⟩
  · clear HM
    go_wp2_with fail
    refine (sameints _ _ _ _ Q2.out Q1.out).mono ?_
    rintro e w4 ⟨rfl, q, rfl⟩
    go_wp2_with fail
    go_ret
    exact ⟨rfl, below_drewN hB3 q⟩
end Go.Proofs.Ythjipckjjnglpaa
