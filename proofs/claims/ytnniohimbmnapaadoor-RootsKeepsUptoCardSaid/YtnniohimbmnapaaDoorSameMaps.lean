/- Layer 10: the document's SameMaps, where both read alike. -/
import Derived.Test.YtnniohimbmnapaaDoorFBits
import Derived.Deep.QuietTactic
import Derived.BigQuiet
import Derived.WalkSmall
namespace Go.Proofs.YtnniohimbmnapaaDoor
open Go Go.ChangeShapes Go.WideShapes Go.RowKit
set_option linter.unusedVariables false
set_option linter.unusedSimpArgs false
set_option maxRecDepth 100000 in
set_option maxHeartbeats 8000000 in
theorem same_maps2 (a b : Value) (L : List (List Nat)) (w : World) (ha : Rr w a L) (hb : Rr w b L) :
    Calls Tryd.prog 24 #[a, b] w fun e w' => e = .returned (.bool true) ∧ Below w.heap.size w w' := by
  have HA := Lib.hid ha
  have HB := Lib.hid hb
  obtain ⟨pa, ca, rfl, hl, _⟩ := ha
  obtain ⟨pb, cb, rfl, _, _⟩ := hb
  go_enter Tryd.func24, Tryd.ntmps24
  go_wp2_with fail
  go_loopw [5] (fun s5 wx => ∃ k : Nat, s5 = .int .i64 k ∧ k ≤ L.length ∧ Below w.heap.size w wx) (fun s5 _ => L.length - (intOf s5).toNat)
  case atStart => exact ⟨0, rfl, Nat.zero_le _, Below.refl _ _⟩
  case round =>
    obtain ⟨k, rfl, hk, hb⟩ := hrel
    have HBW := Lib.hid hb
    by_cases hlt : k < L.length
    · obtain ⟨pa', ca', hea, _, hA⟩ := HA.out.keep hb
      obtain ⟨pb', cb', heb, _, hB⟩ := HB.out.keep hb
      simp only [Value.slice.injEq] at hea heb
      obtain ⟨rfl, _, rfl⟩ := hea
      obtain ⟨rfl, _, rfl⟩ := heb
      obtain ⟨bA, oA, uA, rfl, cA, rA⟩ := hA k hlt
      obtain ⟨bB, oB, uB, rfl, cB, rB⟩ := hB k hlt
      obtain ⟨row, hrow⟩ : ∃ row, L.getD k [] = row := ⟨_, rfl⟩
      rw [hrow] at rA rB
      obtain ⟨pA, eA, rfl, _, hrl, _⟩ := rw_form rA
      obtain ⟨pB, eB, rfl, _, _, _⟩ := rw_form rB
      have HRA := Lib.hid rA
      have HRB := Lib.hid rB
      have HCA := Lib.hid cA
      have HCB := Lib.hid cB
      have ne1 : ((row.length : Int) != (row.length : Int)) = false := by simp
      have hkz : (k : Int) < (L.length : Int) := by omega
      clear hA hB hb rA rB hrow
      go_wp2_with fail
      go_quiet (fail)
      go_wp2_with fail
      obtain ⟨wA, rfl⟩ : ∃ wA : World, wA = wr := ⟨_, rfl⟩
      clear cA cB
      go_loopw [6] (fun s6 wx => ∃ j : Nat, s6 = .int .i64 j ∧ j ≤ row.length ∧ Below wA.heap.size wA wx) (fun s6 _ => row.length - (intOf s6).toNat)
      case atStart => exact ⟨0, rfl, Nat.zero_le _, by exact below_drewN (Below.refl _ _) _⟩
      case round =>
        obtain ⟨j, rfl, hj, hb2⟩ := hrel
        have HB2 := Lib.hid hb2
        have cA := below_cell hb2 HCA.out
        have cB := below_cell hb2 HCB.out
        by_cases hjl : j < row.length
        · obtain ⟨_, _, h1, _, _, h2⟩ := rw_form (HRA.out.keep hb2)
          simp only [Value.slice.injEq] at h1
          obtain ⟨rfl, _, rfl⟩ := h1
          obtain ⟨_, _, h1, _, _, h3⟩ := rw_form (HRB.out.keep hb2)
          simp only [Value.slice.injEq] at h1
          obtain ⟨rfl, _, rfl⟩ := h1
          obtain ⟨xA, yA, rfl, dA⟩ := h2 j hjl
          obtain ⟨xB, yB, rfl, dB⟩ := h3 j hjl
          obtain ⟨q, hq⟩ : ∃ q, row.getD j 0 = q := ⟨_, rfl⟩
          rw [hq] at dA dB
          have ne2 : ((q : Int) != (q : Int)) = false := by simp
          have hjz : (j : Int) < (row.length : Int) := by omega
          clear h2 h3 hb2 hq
          go_wp2_with fail
          go_quiet (fail)
          go_wp2_with fail
          go_roundw
          case rel => exact ⟨j + 1, by go_num, by omega, by exact below_drewN HB2.out _⟩
          case measure => simp [intOf]; omega
        · have hjz : ¬ (j : Int) < (row.length : Int) := by omega
          clear hb2
          go_wp2_with fail
          go_roundw
          case rel => exact ⟨k + 1, by go_num, by omega, HBW.out.trans (HB2.out.mono HBW.out.size)⟩
          case measure => simp [intOf]; omega
    · have hkz : ¬ (k : Int) < (L.length : Int) := by omega
      clear hb
      go_wp2_with fail
      go_ret
      exact ⟨rfl, HBW.out⟩
end Go.Proofs.YtnniohimbmnapaaDoor
