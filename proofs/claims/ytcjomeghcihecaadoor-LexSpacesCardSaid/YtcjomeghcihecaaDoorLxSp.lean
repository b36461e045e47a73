/- Layer 4: the law LexSpaces. -/
import Derived.Test.YtcjomeghcihecaaDoorLxWr
import Derived.Test.YtcjomeghcihecaaDoorLxAk
namespace Go.Proofs.YtcjomeghcihecaaDoor
open Go Go.ChangeShapes Go.WideShapes Go.ChangeAt Go.RowKit Go.PlainAid Go.Maps
set_option linter.unusedVariables false
set_option linter.unusedSimpArgs false
set_option maxRecDepth 100000 in
set_option maxHeartbeats 8000000 in
theorem law_spaces (v1 : Value) (l : Bs) (w : World) (hr : R8 w v1 l) (hl : l.length ≤ 140737488351232) (htab : Lib.TabIs Tryd.prog w "strings.asciiSpace" .u8 Lib.asciiSpaceTab) :
    Calls Tryd.prog 7 #[v1] w fun e w' => e = .returned (.bool true) ∧ Below w.heap.size w w' := by
  have HR := Lib.hid hr
  have HTAB := Lib.hid htab
  obtain ⟨p, c, rfl⟩ := r8_form hr
  clear hr htab
  go_enter Tryd.func7, Tryd.ntmps7
  go_wp2_with fail
  refine (known04 w HTAB.out).mono ?_
  rintro e w1 ⟨rfl, hb1⟩
  have HB1 := Lib.hid hb1
  clear hb1
  go_wp2_with fail
  refine (lex_any _ l w1 (HR.out.keep HB1.out) (tabS_keep HTAB.out HB1.out)).mono ?_
  intro e w3 hlp
  obtain ⟨v5, la, ea, rfl⟩ := lexP_form hlp
  have HB3 := Lib.hid (HB1.out.trans (hlp.below.mono HB1.out.size))
  have HLP := Lib.hid hlp
  clear hlp
  cases hlx : lexD l with
  | error q =>
    rw [hlx] at HLP
    obtain ⟨h1, _⟩ := HLP.out
    simp only [Ending.returned.injEq, Value.tuple.injEq, Array.mk.injEq, List.cons.injEq, Value.int.injEq, true_and, and_true] at h1
    obtain ⟨rfl, rfl, rfl⟩ := h1
    have hx : q.2 = 20 ∨ q.2 = 21 ∨ q.2 = 24 := err3 hlx
    obtain ⟨qe, hqe⟩ : ∃ x, q.2 = x := ⟨_, rfl⟩
    rw [hqe] at hx ⊢
    clear HLP hlx hqe
    rcases hx with rfl | rfl | rfl
    all_goals
      go_wp2_with fail
      go_ret
      exact ⟨rfl, HB3.out⟩
  | ok ts =>
    rw [hlx] at HLP
    obtain ⟨v, h1, hown, _⟩ := HLP.out
    simp only [Ending.returned.injEq, Value.tuple.injEq, Array.mk.injEq, List.cons.injEq, Value.int.injEq, true_and, and_true] at h1
    obtain ⟨rfl, rfl, rfl⟩ := h1
    have hle := own_le hown
    have HRt := Lib.hid (Rt.of hown)
    have HLX := Lib.hid hlx
    obtain ⟨p5, k5, rfl⟩ := owns_form hown
    have HWR := Lib.hid (written_any _ l ts w3 HRt.out hlx)
    clear HLP hlx hown
    go_wp2_with fail
    refine HWR.out.mono ?_
    intro e w4 hwr
    obtain ⟨v6, ok, rfl, hb4, p6, m6, k6, rfl, htx⟩ := hwr
    have HB4 := Lib.hid (HB3.out.trans (hb4.mono HB3.out.size))
    have HB34 := Lib.hid hb4
    have HTX := Lib.hid htx
    clear hb4 htx HWR
    cases ok with
    | false =>
      go_wp2_with fail
      go_ret
      exact ⟨rfl, HB4.out⟩
    | true =>
      obtain ⟨text, hw, rfl, ho⟩ := HTX.out rfl
      have HW := Lib.hid hw
      have HO := Lib.hid ho
      have htl := own_le ho
      unfold maxLen at htl
      clear hw ho HTX
      by_cases hbig : 20000 < text.length
      · have hz : (text.length : Int) > 20000 := by omega
        go_wp2_with fail
        go_ret
        exact ⟨rfl, HB4.out⟩
      · have hz : ¬ (text.length : Int) > 20000 := by omega
        obtain ⟨us, hus, hal⟩ := lexD_spaces HLX.out HW.out (by omega)
        have HL := Lib.hid (lex_any _ text w4 (HO.out.r8 (by omega)) (tabS_keep HTAB.out HB4.out))
        rw [hus] at HL
        have HAL0 := Lib.hid hal
        clear hus hal
        go_wp2_with fail
        refine HL.out.mono ?_
        rintro e w5 ⟨v7, rfl, hown, hb5⟩
        have HB5 := Lib.hid (HB4.out.trans (hb5.mono HB4.out.size))
        have HB35 := Lib.hid (HB34.out.trans (hb5.mono HB34.out.size))
        have HAL := Lib.hid (alike_any _ _ ts us w5 (HRt.out.keep HB35.out) (Rt.of hown) HAL0.out (by unfold maxLen at hle; omega))
        obtain ⟨p7, k7, rfl⟩ := owns_form hown
        clear hown hb5 HL
        go_wp2_with fail
        refine HAL.out.mono ?_
        rintro e w6 ⟨rfl, hb6⟩
        have HB6 := Lib.hid (HB5.out.trans (hb6.mono HB5.out.size))
        clear hb6
        go_wp2_with fail
        go_ret
        exact ⟨rfl, HB6.out⟩
end Go.Proofs.YtcjomeghcihecaaDoor
