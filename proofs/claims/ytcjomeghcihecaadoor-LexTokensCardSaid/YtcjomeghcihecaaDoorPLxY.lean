/- Layer 4: the table of words. -/
import Derived.Test.YtcjomeghcihecaaDoorPLxW
import Derived.Maps.Views
namespace Go.Proofs.YtcjomeghcihecaaDoor
open Go Go.ChangeShapes Go.WideShapes Go.ChangeAt Go.RowKit Go.PlainAid Go.Maps
set_option linter.unusedVariables false
set_option linter.unusedSimpArgs false
def langB : Bs := [97, 110, 100, 32, 97, 115, 32, 97, 115, 115, 101, 114, 116, 32, 98, 114, 101, 97, 107, 32, 99, 108, 97, 115, 115, 32, 99, 111, 110, 116, 105, 110, 117, 101, 32, 100, 101, 102, 32, 100, 101, 108, 32, 101, 108, 105, 102, 32, 101, 108, 115, 101, 32, 101, 120, 99, 101, 112, 116, 32, 102, 105, 110, 97, 108, 108, 121, 32, 102, 111, 114, 32, 103, 108, 111, 98, 97, 108, 32, 105, 102, 32, 105, 110, 32, 105, 115, 32, 108, 97, 109, 98, 100, 97, 32, 110, 111, 110, 108, 111, 99, 97, 108, 32, 110, 111, 116, 32, 111, 114, 32, 112, 97, 115, 115, 32, 114, 97, 105, 115, 101, 32, 114, 101, 116, 117, 114, 110, 32, 116, 114, 121, 32, 119, 104, 105, 108, 101, 32, 119, 105, 116, 104, 32, 121, 105, 101, 108, 100, 32, 84, 114, 117, 101, 32, 70, 97, 108, 115, 101, 32, 78, 111, 110, 101]
def marksB : Bs := [47, 47, 61, 32, 42, 42, 61, 32, 47, 47, 32, 42, 42, 32, 61, 61, 32, 33, 61, 32, 60, 61, 32, 62, 61, 32, 43, 61, 32, 45, 61, 32, 42, 61, 32, 47, 61, 32, 37, 61, 32, 43, 32, 45, 32, 42, 32, 47, 32, 37, 32, 61, 32, 60, 32, 62, 32, 40, 32, 41, 32, 91, 32, 93, 32, 123, 32, 125, 32, 44, 32, 58, 32, 46]
theorem lang_fields : Lib.fields langB = wordsB := by decide +kernel
theorem marks_fields : Lib.fields marksB = symsB := by decide +kernel
theorem lang_ascii : ∀ b ∈ langB, b.toNat < 128 := by decide +kernel
theorem marks_ascii : ∀ b ∈ marksB, b.toNat < 128 := by decide +kernel
theorem words_len : wordsB.length = 31 := by decide
theorem fields_at {l : Bs} (hl : l.length < 1000) (ha : ∀ b ∈ l, b.toNat < 128) (w : World) (htab : Lib.TabIs Tryd.prog w "strings.asciiSpace" .u8 Lib.asciiSpaceTab) :
    Calls Tryd.prog 19 #[.string (bsOf l)] w fun e w' => e = .returned (.slice (some ⟨w.heap.size, 0, none⟩) (Lib.fields l).length (Lib.fields l).length) ∧ w' = w.alloc (.cells ((Lib.fields l).map fun l => Value.string ⟨l.toArray⟩).toArray 9) :=
  Tryd.strings_Fields (bsOf l) w (by rw [Lib.size_eq]; show l.length < _; omega) (fun j b hb => ha b (List.mem_of_getElem? hb)) htab
theorem tabS_keep {w w' : World} (h : Lib.TabIs Tryd.prog w "strings.asciiSpace" .u8 Lib.asciiSpaceTab) (hb : Below w.heap.size w w') : Lib.TabIs Tryd.prog w' "strings.asciiSpace" .u8 Lib.asciiSpaceTab := by
  unfold Lib.TabIs World.var? at *
  cases hg : Tryd.prog.globalNamed "strings.asciiSpace" with
  | none => simp [hg] at h
  | some g =>
    simp only [hg, Option.bind_some] at h ⊢
    cases hgb : w.heap[g]? with
    | none => simp [hgb] at h
    | some o =>
      rw [hb.block g (Array.getElem?_eq_some_iff.1 hgb).1]
      exact h
def tabD : Nat → DataW Unit
  | 0 => .map []
  | k + 1 => (tabD k).put (.string (wordsB.getD k [])) (.lit (.int .i64 (k + 1 : Nat)))
theorem isMap_put {D : DataW Unit} (h : IsMap D) (k : Lit) (d : DataW Unit) : IsMap (D.put k d) := by
  obtain ⟨es, rfl⟩ := h
  exact ⟨_, rfl⟩
theorem tabD_map : ∀ k, IsMap (tabD k)
  | 0 => ⟨[], rfl⟩
  | k + 1 => isMap_put (tabD_map k) _ _
theorem tabD_at (l : Bs) : ∀ k, ∃ c : Int, (tabD k).atKey (.string l) (.lit (.int .i64 0)) = .lit (.int .i64 c) ∧ 0 ≤ c ∧ (0 < c ↔ ∃ j, j < k ∧ wordsB.getD j [] = l)
  | 0 => ⟨0, rfl, Int.le_refl _, by simp⟩
  | k + 1 => by
    obtain ⟨c, h1, h0, h2⟩ := tabD_at l k
    by_cases e : wordsB.getD k [] = l
    · refine ⟨(k + 1 : Nat), ?_, by omega, ⟨fun _ => ⟨k, by omega, e⟩, fun _ => by omega⟩⟩
      show ((tabD k).put (.string (wordsB.getD k [])) _).atKey _ _ = _
      rw [e]
      exact atKey_put_same (tabD_map k) (by trivial) _ _
    · refine ⟨c, ?_, h0, h2.trans ⟨fun ⟨j, hj, hl⟩ => ⟨j, by omega, hl⟩, fun ⟨j, hj, hl⟩ => ?_⟩⟩
      · show ((tabD k).put (.string (wordsB.getD k [])) _).atKey _ _ = _
        rw [atKey_put_other (by intro h; injection h with h; exact e h.symm), h1]
      · by_cases hjk : j = k
        · subst hjk; exact absurd hl e
        · exact ⟨j, by omega, hl⟩
theorem tabD_ok : TabD (tabD 31) := by
  intro l
  obtain ⟨c, h1, _, h2⟩ := tabD_at l 31
  refine ⟨c, h1, h2.trans ?_⟩
  rw [List.contains_iff_mem, List.mem_iff_getElem]
  constructor
  · rintro ⟨j, hj, rfl⟩
    have hj' : j < wordsB.length := by rw [words_len]; exact hj
    exact ⟨j, hj', by rw [List.getD_eq_getElem?_getD, List.getElem?_eq_getElem hj']; rfl⟩
  · rintro ⟨j, hj, rfl⟩
    exact ⟨j, by rw [← words_len]; exact hj, by rw [List.getD_eq_getElem?_getD, List.getElem?_eq_getElem hj]; rfl⟩
theorem word_small : ∀ s ∈ wordsB, s.length ≤ 8 := by decide
set_option maxRecDepth 100000 in
set_option maxHeartbeats 1600000 in
theorem wordTable_any (w : World) (htab : Lib.TabIs Tryd.prog w "strings.asciiSpace" .u8 Lib.asciiSpaceTab) :
    Calls Tryd.prog 18 #[] w fun e w' => ∃ mb, e = .returned (.map (some mb)) ∧ w.heap.size ≤ mb ∧ w'.ownsMap Tryd.prog 9 (plainElem Tryd.prog 3) mb 31 (tabD 31) ∧ Below w.heap.size w w' := by
  have hmm := @run_makeMap Tryd.prog
  have HT := Lib.hid (tabS_keep htab ((Below.refl _ _).alloc (Nat.le_refl _) (.map #[] 0)))
  clear htab
  go_enter Tryd.func18, Tryd.ntmps18
  go_wp2_with fail
  refine (fields_at (l := langB) (by decide) lang_ascii _ HT.out).mono ?_
  rw [lang_fields, words_len]
  rintro e w1 ⟨rfl, rfl⟩
  obtain ⟨W, hW⟩ : ∃ W, (w.alloc (.map #[] 0)).alloc (.cells (wordsB.map fun l => Value.string ⟨l.toArray⟩).toArray 9) = W := ⟨_, rfl⟩
  have hB0 : Below w.heap.size w W := by rw [← hW]; exact ((Below.refl _ _).alloc (Nat.le_refl _) _).alloc (by simp) _
  have hrow : W.heap[w.heap.size + 1]? = some (.cells (wordsB.map fun l => Value.string ⟨l.toArray⟩).toArray 9) := by
    rw [← hW]
    have := heap_alloc_new (w.alloc (.map #[] 0)) (.cells (wordsB.map fun l => Value.string ⟨l.toArray⟩).toArray 9)
    simpa using this
  have hown0 : W.ownsMap Tryd.prog 9 (plainElem (H := Unit) Tryd.prog 3) w.heap.size 0 (.map []) := by
    rw [← hW]
    exact (World.ownsMap_made w Tryd.prog 9 (plainElem Tryd.prog 3)).alloc _
  have hsz2 : (w.alloc (.map #[] 0)).heap.size = w.heap.size + 1 := by simp
  rw [hW, hsz2]
  have HW := Lib.hid hrow
  have HB0 := Lib.hid hB0
  clear hW hsz2 hrow hB0
  go_wp2_with fail
  go_loopw [7] (fun j7 wr => ∃ j : Nat, j7 = .int .i64 j ∧ j ≤ 31 ∧ wr.ownsMap Tryd.prog 9 (plainElem (H := Unit) Tryd.prog 3) w.heap.size j (tabD j) ∧ W.grownBy wr (some w.heap.size)) (fun j7 _ => 31 - (intOf j7).toNat)
  case atStart => exact ⟨0, rfl, by omega, hown0, World.grownBy.refl _ _⟩
  case round =>
    obtain ⟨j, rfl, hj, hown, hg⟩ := hrel
    have HG := Lib.hid hg
    by_cases hlt : j < 31
    · have hlz : (j : Int) < 31 := by omega
      have hj' : j < wordsB.length := by rw [words_len]; exact hlt
      have hcell : wr.cell? ⟨w.heap.size + 1, j, none⟩ = some (.string (bsOf (wordsB.getD j []))) := by
        rw [World.cell?, (hg.block (w.heap.size + 1) (Array.getElem?_eq_some_iff.1 HW.out).1 (by simp)).trans HW.out]
        simp only
        rw [List.getElem?_toArray, List.getElem?_map, List.getElem?_eq_getElem hj', List.getD_eq_getElem?_getD, List.getElem?_eq_getElem hj']
        rfl
      have hls : (bsOf (wordsB.getD j [])).size ≤ 8 := by
        rw [Lib.size_eq]
        show (wordsB.getD j []).length ≤ 8
        rw [List.getD_eq_getElem?_getD, List.getElem?_eq_getElem hj']
        exact word_small _ (List.getElem_mem hj')
      have hstep : tabD (j + 1) = (tabD j).put (.string (wordsB.getD j [])) (.lit (.int .i64 ((j : Int) + 1))) := by
        show (tabD j).put _ (.lit (.int .i64 ((j + 1 : Nat) : Int))) = _
        rw [show ((j + 1 : Nat) : Int) = (j : Int) + 1 by omega]
      have w1 : IntKind.i64.wrap ((j : Int) + 1) = (j : Int) + 1 := i64_in (by omega) (by omega)
      have hkey : keyOf Tryd.prog 9 (.string (bsOf (wordsB.getD j []))) = some (.string (wordsB.getD j [])) := Go.WideMaps.keyOf_string_mk Tryd.underlying9 (by unfold maxLen; omega)
      obtain ⟨t, ht⟩ : ∃ t, wordsB.getD j [] = t := ⟨_, rfl⟩
      rw [ht] at hcell hstep hkey
      have HST := Lib.hid hstep
      have HKEY := Lib.hid hkey
      have HOWN := Lib.hid hown
      clear hg hown hstep hkey ht hls hj'
      go_wp2_with (first
        | (at_mapUpdate; refine wpList_mapUpdate_own _ rfl _ _ _ 41 rfl 9 3 keyS Tryd.underlying41 _ w.heap.size j _ rfl HOWN.out (by unfold maxLen; omega) _ _ _ rfl rfl HKEY.out _ [] (plainElem_int Tryd.underlying3 (WalkArith.wf_i64 (by omega))) ?_; intro w5 hown5 hg5; have HO5 := Lib.hid hown5; have HG5 := Lib.hid hg5; clear hown5 hg5)
        | fail)
      exact ⟨⟨j + 1, by go_num, by omega, by rw [HST.out]; exact HO5.out, HG.out.trans HG5.out⟩, by simp [intOf]; omega⟩
    · obtain rfl : j = 31 := by omega
      have hlz : ¬ ((31 : Nat) : Int) < 31 := by omega
      have HO := Lib.hid (show Below w.heap.size w wr from ⟨hg.os.trans HB0.out.os, hg.tape.trans HB0.out.tape, hg.output.trans HB0.out.output, Nat.le_trans HB0.out.size hg.size, fun b hb => (hg.block b (Nat.lt_of_lt_of_le hb HB0.out.size) (by simp; omega)).trans (HB0.out.block b hb)⟩)
      have HOWN := Lib.hid hown
      clear hg hown
      go_wp2_with fail
      refine bodyPost_ret (v := .map (some w.heap.size)) (by simp [results, Tryd.results18, go_sem]) rfl ⟨w.heap.size, rfl, Nat.le_refl _, HOWN.out, HO.out⟩
end Go.Proofs.YtcjomeghcihecaaDoor
