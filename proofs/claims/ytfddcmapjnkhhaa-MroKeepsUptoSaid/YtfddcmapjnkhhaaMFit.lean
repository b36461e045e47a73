/- Layer 19: the program's fit. -/
import Derived.Test.YtfddcmapjnkhhaaMRefOrder
namespace Go.Proofs.Ytfddcmapjnkhhaa
open Go.ChangeShapes Go.WideShapes Go.RowKit
set_option linter.unusedVariables false
set_option linter.unusedSimpArgs false
def seenF (l : List Int) (x : Int) : Option Value := if x ∈ l then some (.int .i64 1) else none
theorem seenF_yes {l : List Int} {x : Int} (h : x ∈ l) : seenF l x = some (.int .i64 1) := if_pos h
theorem seenF_no {l : List Int} {x : Int} (h : x ∉ l) : seenF l x = none := if_neg h
theorem take_next {l : List Int} {j : Nat} (hj : j < l.length) : l.take (j + 1) = l.take j ++ [l.getD j 0] := by
  rw [List.take_add_one, List.getElem?_eq_getElem hj]; simp [List.getD_eq_getElem?_getD, hj]
theorem take_mem {l : List Int} {j : Nat} {x : Int} (h : x ∈ l.take j) : ∃ q, q < j ∧ q < l.length ∧ l.getD q 0 = x := by
  obtain ⟨q, hq, rfl⟩ := List.mem_iff_getElem.1 h
  rw [List.length_take] at hq
  exact ⟨q, by omega, by omega, by rw [List.getElem_take]; simp [List.getD_eq_getElem?_getD, show q < l.length by omega]⟩
theorem take_nodup {l : List Int} {j : Nat} (hj : j < l.length) (h : (l.take j).Nodup) (hx : l.getD j 0 ∉ l.take j) : (l.take (j + 1)).Nodup := by
  rw [take_next hj]
  exact List.nodup_append.2 ⟨h, by simp, fun a ha b hb => by simp only [List.mem_singleton] at hb; subst hb; intro e; exact hx (e ▸ ha)⟩
theorem not_nodup2 {l : List Int} {j : Nat} (hj : j < l.length) (hx : l.getD j 0 ∈ l.take j) : ¬ l.Nodup := by
  intro h
  have h2 : (l.take (j + 1)).Nodup := h.sublist (List.take_sublist _ _)
  rw [take_next hj] at h2
  exact (List.nodup_append.1 h2).2.2 _ hx _ (by simp) rfl
set_option maxRecDepth 100000 in
set_option maxHeartbeats 4000000 in
theorem mrofit_any (u : Value) (bs : List (List Int)) (w : World) (h : Rm w u bs) (hm : bs.length ≤ 1000) (hml : ∀ i, (bs.getD i []).length ≤ 17592186043904) :
    Calls Try.prog 14 #[u] w fun e w' => e = .returned (.bool (fitB bs)) ∧ Below w.heap.size w w' := by
  obtain ⟨p, c, rfl, hc, _, hp⟩ := rm_form h
  have HP := Lib.hid hp
  have hmm := @run_makeMap Try.prog
  have hz : ∀ wx, (zeroValue 3).run Try.prog wx = .ok (.int .i64 0) wx := fun wx => by kernel_rfl
  have HG := fun (b n : Nat) (f : Int → Option Value) (wx : World) (h : MapF Try.prog 3 wx b n f) (x : Int) (hx : wfI x) => MapF.get (t := 43) Try.underlying3 Try.underlying43 h (hz wx) hx
  have HU := fun (b n : Nat) (f : Int → Option Value) (wx : World) (h : MapF Try.prog 3 wx b n f) (hn : n < maxLen) (x : Int) (hx : wfI x) (v : Value) => MapF.put (t := 43) Try.underlying3 Try.underlying43 h hn hx v
  have HGh := Lib.hid HG
  have HUh := Lib.hid HU
  clear hp h HG HU hz
  go_enter Try.func14, Try.ntmps14
  go_wp2
  go_loopw [10] (fun s wx => ∃ i : Nat, s = .int .i64 i ∧ i ≤ bs.length ∧ (∀ j, j < i → FitAt j (bs.getD j [])) ∧ Below w.heap.size w wx) (fun s _ => bs.length - (intOf s).toNat)
  case atStart => exact ⟨0, rfl, Nat.zero_le _, fun j h => by omega, Below.refl _ _⟩
  case round =>
    obtain ⟨i, rfl, hil, hf, hB⟩ := hrel
    have HF := Lib.hid hf
    have HB := Lib.hid hB
    clear hf hB
    by_cases hlt : i < bs.length
    · obtain ⟨b, off, rfl, hcell⟩ := HP.out (by omega)
      obtain ⟨v, hci, hr⟩ := hcell i hlt
      have HR := Lib.hid hr
      have hci := below_cell HB.out hci
      obtain ⟨l, hl⟩ : ∃ l, bs.getD i [] = l := ⟨_, rfl⟩
      rw [hl] at hr HR
      have HL := Lib.hid hl
      obtain ⟨p2, c2, rfl, hc2, hm2, hp2⟩ := ri_form hr
      have HP2 := Lib.hid hp2
      have hlz : (i : Int) < (bs.length : Int) := by omega
      clear hcell hr hl hp2
      have HM0 := Lib.hid (MapF.made (P := Try.prog) (k := 3) wr)
      have hgB : w.heap.size ≤ wr.heap.size := HB.out.size
      have HB0 := Lib.hid (HB.out.alloc HB.out.size (Obj.map #[] 0) : Below w.heap.size w (wr.alloc (.map #[] 0)))
      obtain ⟨g, hg⟩ : ∃ g, wr.heap.size = g := ⟨_, rfl⟩
      go_wp2_with fail
      rw [hg] at HM0 hgB
      clear hg
      go_loopw [18] (fun s wx => ∃ j : Nat, s = .int .i64 j ∧ j ≤ l.length ∧ (∀ q, q < j → 0 ≤ l.getD q 0 ∧ l.getD q 0 < (i : Int)) ∧ (l.take j).Nodup ∧ MapF Try.prog 3 wx g j (seenF (l.take j)) ∧ Below w.heap.size w wx) (fun s _ => l.length - (intOf s).toNat)
      case atStart => exact ⟨0, rfl, Nat.zero_le _, fun q h => by omega, by simp, HM0.out.congr fun x _ => seenF_no (by simp), HB0.out⟩
      case round =>
        clear HM0 HB0 hci
        obtain ⟨j, rfl, hjl, hq, hnd, hM, hB2⟩ := hrel
        have HQ := Lib.hid hq
        have HND := Lib.hid hnd
        have HM := Lib.hid hM
        have HB2 := Lib.hid hB2
        clear hq hnd hM hB2
        by_cases hjt : j < l.length
        · obtain ⟨b2, off2, rfl, hcell2⟩ := HP2.out (by omega)
          have hcj := below_cell HB2.out (hcell2 j hjt)
          have hjz : (j : Int) < (l.length : Int) := by omega
          obtain ⟨x, hx⟩ : ∃ x, l.getD j 0 = x := ⟨_, rfl⟩
          rw [hx] at hcj
          have HX := Lib.hid hx
          clear hcell2 hx
          by_cases h0 : x < 0
          · have HY := Lib.hid (fit_not (bs := bs) hlt (fun hf => by rw [HL.out] at hf; have := (fitAt_at hf hjt).1; rw [HX.out] at this; omega))
            go_wp2
            go_ret
            exact ⟨ret_b HY.out.symm, HB2.out⟩
          · by_cases h1 : (i : Int) ≤ x
            · have HY := Lib.hid (fit_not (bs := bs) hlt (fun hf => by rw [HL.out] at hf; have := (fitAt_at hf hjt).2; rw [HX.out] at this; omega))
              go_wp2
              go_ret
              exact ⟨ret_b HY.out.symm, HB2.out⟩
            · have hwf : wfI x := wfI_of ⟨by omega, by omega⟩
              have hget := HGh.out _ _ _ _ HM.out x hwf
              obtain ⟨w3, hput, hM3, hT3⟩ := HUh.out _ _ _ _ HM.out (by unfold maxLen; omega) x hwf (.int .i64 1)
              have HM3 := Lib.hid hM3
              have HB3 := Lib.hid (show Below w.heap.size w w3 from HB2.out.trans (hT3.below hgB))
              clear hM3 hT3
              by_cases hin : x ∈ l.take j
              · have HY := Lib.hid (fit_not (bs := bs) hlt (fun hf => by rw [HL.out] at hf; exact not_nodup2 hjt (by rw [HX.out]; exact hin) hf.2))
                rw [seenF_yes hin] at hget
                simp only [Option.getD_some] at hget
                clear hin
                go_wp2
                go_ret
                exact ⟨ret_b HY.out.symm, HB2.out⟩
              · rw [seenF_no hin] at hget
                simp only [Option.getD_none] at hget
                have HI := Lib.hid hin
                clear hin
                go_wp2
                go_roundw
                case rel => exact ⟨j + 1, by go_num, by omega, fun q hq => by
                  by_cases e : q = j
                  · subst e; rw [HX.out]; exact ⟨by omega, by omega⟩
                  · exact HQ.out q (by omega), take_nodup hjt HND.out (by rw [HX.out]; exact HI.out), HM3.out.congr (fun y _ => by
                      rw [take_next hjt, HX.out]
                      by_cases e : y = x
                      · subst e; rw [if_pos rfl]; exact seenF_yes (by simp)
                      · rw [if_neg e]; simp [seenF, e]), HB3.out⟩
                case measure => simp [intOf]; omega
        · have hjz : ¬ (j : Int) < (l.length : Int) := by omega
          have HFA := Lib.hid (show FitAt i l from ⟨fun b hb => by
            obtain ⟨q, hq, rfl⟩ := List.mem_iff_getElem.1 hb
            have := HQ.out q (by omega)
            rw [List.getD_eq_getElem?_getD, List.getElem?_eq_getElem hq] at this
            exact this, by have := HND.out; rwa [List.take_of_length_le (by omega)] at this⟩)
          go_wp2
          go_roundw
          case rel => exact ⟨i + 1, by go_num, by omega, fun q hq => by
            by_cases e : q = i
            · subst e; rw [HL.out]; exact HFA.out
            · exact HF.out q (by omega), HB2.out⟩
          case measure => simp [intOf]; omega
    · have hlz : ¬ (i : Int) < (bs.length : Int) := by omega
      have HY := Lib.hid (fitB_yes (bs := bs) fun j hj => HF.out j (by omega))
      go_wp2
      go_ret
      exact ⟨ret_b HY.out.symm, HB.out⟩
end Go.Proofs.Ytfddcmapjnkhhaa
