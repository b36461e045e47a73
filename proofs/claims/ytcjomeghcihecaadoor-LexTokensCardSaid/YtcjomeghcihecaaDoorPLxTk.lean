/- Layer 4: the law LexTokens. -/
import Derived.Test.YtcjomeghcihecaaDoorPLxRA
namespace Go.Proofs.YtcjomeghcihecaaDoor
open Go Go.ChangeShapes Go.WideShapes Go.ChangeAt Go.RowKit Go.PlainAid Go.Maps
set_option linter.unusedVariables false
set_option linter.unusedSimpArgs false
set_option maxRecDepth 100000 in
set_option maxHeartbeats 8000000 in
theorem law_tokens (v1 : Value) (l : Bs) (w : World) (hr : R8 w v1 l) (hl : l.length ≤ 140737488351232) (htab : Lib.TabIs Tryd.prog w "strings.asciiSpace" .u8 Lib.asciiSpaceTab) :
    Calls Tryd.prog 3 #[v1] w fun e w' => e = .returned (.bool true) ∧ Below w.heap.size w w' := by
  have HR := Lib.hid hr
  have HTAB := Lib.hid htab
  obtain ⟨p, c, rfl⟩ := r8_form hr
  clear hr htab
  go_enter Tryd.func3, Tryd.ntmps3
  go_wp2_with fail
  refine (lex_any _ l w HR.out HTAB.out).mono ?_
  intro e w1 hlp1
  have HB1 := Lib.hid hlp1.below
  obtain ⟨va, la, ea, rfl⟩ := lexP_form hlp1
  have HP1 := Lib.hid hlp1
  clear hlp1
  go_wp2_with fail
  refine (lexr_any _ l w1 (HR.out.keep HB1.out)).mono ?_
  intro e w2 hlp2
  have HB12 := Lib.hid hlp2.below
  have HB2 := Lib.hid (HB1.out.trans (hlp2.below.mono HB1.out.size))
  obtain ⟨vb, lb, eb, rfl⟩ := lexP_form hlp2
  have HP2 := Lib.hid hlp2
  clear hlp2
  have HKN := Lib.hid (known04 w2 (tabS_keep HTAB.out HB2.out))
  have hts : ∃ ts : List Tk, ts.length ≤ 80001 ∧ Rt w1 va ts ∧ Rt w2 vb ts ∧ la = lb ∧ ea = eb := by
    have h1 := HP1.out
    have h2 := HP2.out
    cases hlx : lexD l with
    | error q =>
      rw [hlx] at h1 h2
      obtain ⟨h1, _⟩ := h1
      obtain ⟨h2, _⟩ := h2
      simp only [Ending.returned.injEq, Value.tuple.injEq, Array.mk.injEq, List.cons.injEq, Value.int.injEq, true_and, and_true] at h1 h2
      obtain ⟨rfl, rfl, rfl⟩ := h1
      obtain ⟨rfl, rfl, rfl⟩ := h2
      exact ⟨[], by simp, .inl ⟨none, rfl, rfl⟩, .inl ⟨none, rfl, rfl⟩, rfl, rfl⟩
    | ok ts =>
      rw [hlx] at h1 h2
      obtain ⟨v, h1, o1, _⟩ := h1
      obtain ⟨v', h2, o2, _⟩ := h2
      simp only [Ending.returned.injEq, Value.tuple.injEq, Array.mk.injEq, List.cons.injEq, Value.int.injEq, true_and, and_true] at h1 h2
      obtain ⟨rfl, rfl, rfl⟩ := h1
      obtain ⟨rfl, rfl, rfl⟩ := h2
      exact ⟨ts, lexD_len hlx, Rt.of o1, Rt.of o2, rfl, rfl⟩
  obtain ⟨ts, htl, hr1, hr2, rfl, rfl⟩ := hts
  have HR1 := Lib.hid (hr1.keep HB12.out)
  have HR2 := Lib.hid hr2
  have HSA := Lib.hid (fun (wx : World) (hx : Below w2.heap.size w2 wx) => same_any va vb ts wx (HR1.out.keep hx) (HR2.out.keep hx) (by omega))
  clear hr1 hr2 HP1 HP2
  go_wp2_with fail
  refine HKN.out.mono ?_
  rintro e w3 ⟨rfl, hb3⟩
  have HB3 := Lib.hid (HB2.out.trans (hb3.mono HB2.out.size))
  have HSA3 := Lib.hid (HSA.out w3 hb3)
  clear hb3 HSA HKN
  go_wp2_with fail
  refine HSA3.out.mono ?_
  rintro e w4 ⟨rfl, hb4⟩
  have HB4 := Lib.hid (HB3.out.trans (hb4.mono HB3.out.size))
  clear hb4
  go_wp2_with fail
  go_ret
  exact ⟨rfl, HB4.out⟩
end Go.Proofs.YtcjomeghcihecaaDoor
