/- The law of MroOrders, walked: it answers true and changes nothing that was there. -/
import Derived.Test.YtfddcmapjnkhhaaMLawKnown
namespace Go.Proofs.Ytfddcmapjnkhhaa
open Go.ChangeShapes Go.WideShapes Go.RowKit
set_option linter.unusedVariables false
set_option linter.unusedSimpArgs false
theorem ordL_len (bs : List (List Int)) (c : Int) : (ordL bs c).length ≤ 200 := by
  by_cases h : ordE bs c = 0
  · unfold ordE at h
    split at h
    · cases h
    · split at h
      · cases h
      · split at h
        · cases h
        · rename_i h1 h2 h3
          have hf : FitP bs := fitB_iff.1 (by cases hb : fitB bs with | true => rfl | false => exact absurd hb h3)
          cases ho : ord bs c with
          | none => rw [ho] at h; cases h
          | some l =>
            have := ord_len hf (by omega) ho
            rw [ordL_ok (by rw [ordE0 h1 h2 (fitB_iff.2 hf) ho]) ho]
            omega
  · rw [ordL_bad h]; simp
set_option maxRecDepth 100000 in
set_option maxHeartbeats 2000000 in
theorem law_orders (u : Value) (bs : List (List Int)) (c n : Int) (w : World) (h : Rm w u bs) (hml : ∀ i, (bs.getD i []).length ≤ 17592186043904) (hwc : (Lit.int .i64 c).wf = true) (hwn : (Lit.int .i64 n).wf = true) :
    Calls Try.prog 3 #[u, .int .i64 c, .int .i64 n] w fun e w' => e = .returned (.bool true) ∧ Below w.heap.size w w' := by
  have HR := Lib.hid h
  have HML := Lib.hid hml
  clear h hml
  go_enter Try.func3, Try.ntmps3
  go_wp2_with fail
  refine (knownM _).mono ?_
  rintro e w1 ⟨rfl, hb1⟩
  have HB1 := Lib.hid hb1
  clear hb1
  go_wp2_with fail
  refine (mroorder_any _ bs c _ (HR.out.keep HB1.out) HML.out).mono ?_
  rintro e w2 ⟨u2, rfl, hu2, hb2⟩
  have HU2 := Lib.hid (show Ri w2 u2 (ordL bs c) from Mine.ri (OW.mine hu2) (Nat.le_trans (ordL_len bs c) (by omega)))
  have HB2 := Lib.hid (HB1.out.trans (hb2.mono HB1.out.size))
  clear hu2 hb2
  obtain ⟨p2, c2, rfl, _, _, _⟩ := ri_form HU2.out
  go_wp2_with fail
  refine (reforder_any _ bs c _ (HR.out.keep HB2.out) HML.out).mono ?_
  rintro e w3 ⟨u3, rfl, hu3, hb3⟩
  have HU3 := Lib.hid hu3
  have HB3 := Lib.hid (HB2.out.trans (hb3.mono HB2.out.size))
  have HU2b := Lib.hid (HU2.out.keep hb3)
  clear hu3 hb3
  obtain ⟨p3, c3, rfl, _, _, _⟩ := ri_form HU3.out
  go_wp2_with fail
  refine (sameints _ _ _ _ HU2b.out HU3.out).mono ?_
  rintro e w4 ⟨rfl, hb4⟩
  have HB4 := Lib.hid (HB3.out.trans (hb4.mono HB3.out.size))
  have HU2c := Lib.hid (HU2b.out.keep hb4)
  clear hb4
  go_wp2_with fail
  refine (below_any _ _ n _ HU2c.out).mono ?_
  rintro e w5 ⟨rfl, rfl⟩
  go_wp2_with fail
  refine (has_any _ _ 0 n _ HU2c.out (by omega)).mono ?_
  rintro e w5 ⟨rfl, rfl⟩
  go_wp2_with fail
  go_ret
  exact ⟨rfl, HB4.out⟩
end Go.Proofs.Ytfddcmapjnkhhaa
