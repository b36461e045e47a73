/- Layer 19, the document's answer: merge. -/
import Derived.Test.YtfddcmapjnkhhaaMRef1
import Derived.Test.YtfddcmapjnkhhaaMRows
import Derived.Deep.LoopGhost
namespace Go.Proofs.Ytfddcmapjnkhhaa
open Go.ChangeShapes Go.WideShapes Go.RowKit
set_option linter.unusedVariables false
set_option linter.unusedSimpArgs false
theorem infoInt : (Try.prog.info? 3).map (fun i => (i.zero, i.size, i.bytes)) = some (some (.int .i64 0), 1, 8) := by kernel_rfl
theorem sliceI : Try.prog.underlying 24 = some (.slice (Try.prog.elem 24)) := by kernel_rfl
theorem sizeI : ∀ wx, (sizeOf (Try.prog.elem 24)).run Try.prog wx = .ok 1 wx := fun wx => by kernel_rfl
abbrev TI : TypeId := 24
abbrev OI (w : World) (B : Nat) (v : Value) (ds : List Int) : Prop := OW .i64 3 w B v ds
/-- The first i lists with n taken off. -/
def mixed (ls : List (List Int)) (n : Int) (i : Nat) : List (List Int) := (ls.take i).map (strip n) ++ ls.drop i
theorem mixed_zero (ls : List (List Int)) (n : Int) : mixed ls n 0 = ls := by simp [mixed]
theorem mixed_len (ls : List (List Int)) (n : Int) (i : Nat) : (mixed ls n i).length = ls.length := by
  simp only [mixed, List.length_append, List.length_map, List.length_take, List.length_drop]; omega
theorem mixed_full {ls : List (List Int)} {n : Int} {i : Nat} (h : ls.length ≤ i) : mixed ls n i = stepM ls n := by
  simp [mixed, stepM, List.take_of_length_le h, List.drop_eq_nil_of_le h]
theorem mixed_at {ls : List (List Int)} {n : Int} {i : Nat} (h : i < ls.length) : (mixed ls n i).getD i [] = ls.getD i [] := by
  simp only [mixed, List.getD_eq_getElem?_getD]
  rw [List.getElem?_append_right (by simp; omega)]
  simp [Nat.min_eq_left (Nat.le_of_lt h)]
theorem mixed_set {ls : List (List Int)} {n : Int} {i : Nat} (h : i < ls.length) : (mixed ls n i).set i (strip n (ls.getD i [])) = mixed ls n (i + 1) := by
  have e : ls.drop i = ls.getD i [] :: ls.drop (i + 1) := by
    rw [List.drop_eq_getElem_cons h]; simp [List.getD_eq_getElem?_getD, h]
  have e2 : ls.take (i + 1) = ls.take i ++ [ls.getD i []] := by
    rw [List.take_succ_eq_append_getElem h]; simp [List.getD_eq_getElem?_getD, h]
  unfold mixed
  rw [e, e2, List.map_append, List.set_append_right _ _ (by simp; omega)]
  simp [Nat.min_eq_left (Nat.le_of_lt h)]
theorem mixed_same {ls : List (List Int)} {n : Int} {i : Nat} (h : i < ls.length) (hs : strip n (ls.getD i []) = ls.getD i []) : mixed ls n (i + 1) = mixed ls n i := by
  rw [← mixed_set h, hs, ← mixed_at (n := n) h]
  refine List.ext_getElem? fun j => ?_
  rw [List.getElem?_set]
  split
  · subst_vars
    rw [if_pos (by rw [mixed_len]; exact h), List.getD_eq_getElem?_getD, List.getElem?_eq_getElem (by rw [mixed_len]; exact h)]
    rfl
  · rfl
theorem strip_yes {l : List Int} {x : Int} (hl : 0 < l.length) (hx : l.getD 0 0 = x) : strip x l = l.tail := by
  cases l with
  | nil => simp at hl
  | cons y r => simp at hx; subst hx; simp [strip]
theorem strip_no {l : List Int} {x n : Int} (hl : 0 < l.length) (hx : l.getD 0 0 = x) (hn : x ≠ n) : strip n l = l := by
  cases l with
  | nil => simp at hl
  | cons y r => simp at hx; subst hx; simp [strip, hn]
theorem allNil_no {ls : List (List Int)} {i : Nat} (hi : i < ls.length) (h : ls.getD i [] ≠ []) : allNil ls = false := by
  unfold allNil
  rw [Bool.eq_false_iff]
  intro hc
  rw [List.all_eq_true] at hc
  have hm : ls.getD i [] ∈ ls := by simp [List.getD_eq_getElem?_getD, hi]
  have := hc _ hm
  exact h (by simpa using this)
theorem allNil_yes {ls : List (List Int)} (h : ∀ i, i < ls.length → ls.getD i [] = []) : allNil ls = true := by
  unfold allNil
  rw [List.all_eq_true]
  intro l hl
  obtain ⟨i, hi⟩ := List.getElem?_of_mem hl
  have := h i (List.getElem?_eq_some_iff.1 hi).1
  simp [List.getD_eq_getElem?_getD, hi] at this
  simp [this]
def NonNeg (ls : List (List Int)) : Prop := ∀ l ∈ ls, ∀ x ∈ l, 0 ≤ x
theorem NonNeg.step {ls : List (List Int)} (h : NonNeg ls) (n : Int) : NonNeg (stepM ls n) := by
  intro l hl x hx
  obtain ⟨l0, h0, rfl⟩ := List.mem_map.1 hl
  refine h l0 h0 x ?_
  cases l0 with
  | nil => exact hx
  | cons y r =>
    simp only [strip] at hx
    split at hx
    · exact List.mem_cons_of_mem _ hx
    · exact hx
theorem NonNeg.first {ls : List (List Int)} (h : NonNeg ls) {n : Int} (hf : firstL ls = some n) : 0 ≤ n := by
  obtain ⟨l, hl, r, rfl, _⟩ := firstL_some hf
  exact h _ hl n (by simp)
theorem OW.setLow {k : IntKind} {T : TypeId} {w : World} {B g i : Nat} {v x : Value} {ws : List Int} (h : OW k T w B v ws) (hg : g < B) : OW k T (w.setCell ⟨g, i, none⟩ x) B v ws := by
  obtain ⟨h1, h2⟩ := h
  refine ⟨h1, ?_⟩
  rcases h2 with h2 | ⟨g', cap, cur, hv, hb, r1, r⟩
  · exact .inl h2
  · exact .inr ⟨g', cap, cur, hv, hb, by rw [Below.heap_setCell _ _ _ _ (by simp; omega)]; exact r1, r⟩
theorem Only.low {g : Nat} {w w2 w3 : World} (h : Only g w w2) (hb : Below w.heap.size w2 w3) : Only g w w3 :=
  ⟨hb.os.trans h.os, hb.tape.trans h.tape, hb.output.trans h.output, Nat.le_trans h.size hb.size, fun k hk hn => (hb.block k hk).trans (h.other k hk hn)⟩
def MergePost (W : World) (g : Nat) (ls : List (List Int)) (e : Ending) (w' : World) : Prop :=
  ∃ uo, e = .returned (.tuple #[uo, .bool (allNil (mergeL ls).2)]) ∧ (allNil (mergeL ls).2 = true → OI w' W.heap.size uo (mergeL ls).1) ∧ (allNil (mergeL ls).2 = false → uo = .slice none 0 0) ∧ Only g W w'
set_option maxRecDepth 100000 in
set_option maxHeartbeats 4000000 in
theorem refmerge_any (g c : Nat) (ls : List (List Int)) (w : World) (h : Rows TI w w.heap.size g ls) (hc : ls.length ≤ c) (hm : ls.length ≤ 1000) (ht : total ls ≤ 100000) (hn : NonNeg ls) :
    Calls Try.prog 21 #[.slice (some ⟨g, 0, none⟩) ls.length c] w (MergePost w g ls) := by
  obtain ⟨i0, hi, hz0, hz1, hz2⟩ := info_parts infoInt
  have HR := Lib.hid h
  have HN := Lib.hid hn
  have HT := Lib.hid ht
  have hg := h.lt
  clear h hn ht
  go_enter Try.func21, Try.ntmps21
  go_wp2
  go_loopg [4, 5, 6] (total ls) (fun gk ov a b wr => ∃ (cur : List (List Int)) (o : List Int), gk = total cur ∧ cur.length = ls.length ∧ Rows TI wr w.heap.size g cur ∧ OI wr w.heap.size ov o ∧ (mergeL ls).1 = o ++ (mergeL cur).1 ∧ (mergeL ls).2 = (mergeL cur).2 ∧ NonNeg cur ∧ o.length + total cur ≤ total ls ∧ Only g w wr)
  case atStart => exact ⟨ls, [], rfl, rfl, HR.out, OW.nil _ _, rfl, rfl, HN.out, by simp, Only.refl _ _⟩
  case round =>
    obtain ⟨cur, o, rfl, hcl, hR, hO, h1, h2, h3, h4, hB⟩ := hrel
    have HR2 := Lib.hid hR
    have HO := Lib.hid hO
    have H1 := Lib.hid h1
    have H2 := Lib.hid h2
    have H3 := Lib.hid h3
    have H4 := Lib.hid h4
    have HB := Lib.hid hB
    have HCL := Lib.hid hcl
    have HF := Lib.hid (show Calls Try.prog 24 #[.slice (some ⟨g, 0, none⟩) ls.length c] wr (fun e w' => e = .returned (.int .i64 (firstI cur)) ∧ ∃ q, w' = wr.drewN q) from by
      rw [← hcl]
      exact first_any _ cur wr (hR.rm (by omega) (by omega)) (by omega))
    clear hR hO h1 h2 h3 h4 hB hcl
    cases hf : firstL cur with
    | none =>
      have HME := Lib.hid (mergeL_none hf)
      have hfi : firstI cur = -1 := by unfold firstI; rw [hf]
      rw [hfi] at HF
      clear hf hfi
      go_wp2_with (go_at_call 24; (with_reducible refine HF.out.mono ?_); rintro e w2 ⟨rfl, q, rfl⟩)
      have HR3 := Lib.hid (show Rows TI (wr.drewN q) w.heap.size g cur from HR2.out)
      have HO3 := Lib.hid (show OI (wr.drewN q) w.heap.size _ o from OW.keep HO.out (show Below wr.heap.size wr (wr.drewN q) from ⟨rfl, rfl, rfl, Nat.le_refl _, fun _ _ => rfl⟩))
      have HB3 := Lib.hid (HB.out.drewN q)
      have HM1 := Lib.hid (show (mergeL ls).1 = o from by rw [H1.out, HME.out]; simp)
      have HM2 := Lib.hid (show (mergeL ls).2 = cur from by rw [H2.out, HME.out])
      clear HF HR2 HO HB
      generalize wr.drewN q = wd at HR3 HO3 HB3
      go_loop [7] (fun s => ∃ i : Nat, s = .int .i64 i ∧ i ≤ ls.length ∧ ∀ j, j < i → cur.getD j [] = []) (fun s => ls.length - (intOf s).toNat)
      case atStart => exact ⟨0, rfl, Nat.zero_le _, fun j h => by omega⟩
      case round =>
        obtain ⟨i, rfl, hil, hno⟩ := hrel
        have HNO := Lib.hid hno
        clear hno
        by_cases hlt : i < ls.length
        · obtain ⟨u, hcu, hru, _⟩ := HR3.out.cell (i := i) (by rw [HCL.out]; exact hlt)
          obtain ⟨l, hl⟩ : ∃ l, cur.getD i [] = l := ⟨_, rfl⟩
          rw [hl] at hru
          have HL := Lib.hid hl
          obtain ⟨p2, c2, rfl, hc2, hm2, _⟩ := ri_form hru
          have hlz : (i : Int) < (ls.length : Int) := by omega
          clear hru hl
          by_cases hl0 : l.length = 0
          · obtain rfl : l = [] := List.length_eq_zero_iff.1 hl0
            go_wp2
            go_round
            case rel => exact ⟨i + 1, by go_num, by omega, fun j hj => by
              by_cases e : j = i
              · subst e; exact HL.out
              · exact HNO.out j (by omega)⟩
            case measure => simp [intOf]; omega
          · have hlz2 : (0 : Int) < (l.length : Int) := by omega
            have HA := Lib.hid (show allNil (mergeL ls).2 = false from by
              rw [HM2.out]
              exact allNil_no (i := i) (by rw [HCL.out]; exact hlt) (by rw [HL.out]; intro e; subst e; exact hl0 rfl))
            clear hl0
            go_wp2
            go_ret2
            exact ⟨_, by rw [HA.out]; rfl, fun h => (by rw [HA.out] at h; cases h), fun _ => rfl, HB3.out⟩
        · have hlz : ¬ (i : Int) < (ls.length : Int) := by omega
          have HA := Lib.hid (show allNil (mergeL ls).2 = true from by
            rw [HM2.out]
            exact allNil_yes fun j hj => HNO.out j (by rw [HCL.out] at hj; omega))
          go_wp2
          go_ret2
          exact ⟨_, by rw [HA.out]; rfl, fun _ => by rw [HM1.out]; exact HO3.out, fun h => (by rw [HA.out] at h; cases h), HB3.out⟩
    | some n =>
      have hn0 := H3.out.first hf
      have HMS := Lib.hid (mergeL_some hf)
      have HSL := Lib.hid (step_lt hf)
      have hfi : firstI cur = n := by unfold firstI; rw [hf]
      rw [hfi] at HF
      clear hf hfi
      go_wp2_with fail
      refine HF.out.mono ?_
      rintro e w2 ⟨rfl, q, hw2⟩
      have HR3 := Lib.hid (show Rows TI w2 w.heap.size g cur from by rw [hw2]; exact HR2.out)
      have HO3 := Lib.hid (show OI w2 w.heap.size _ o from by rw [hw2]; exact OW.keep HO.out (show Below wr.heap.size wr (wr.drewN q) from ⟨rfl, rfl, rfl, Nat.le_refl _, fun _ _ => rfl⟩))
      have HB3 := Lib.hid (show Only g w w2 from by rw [hw2]; exact HB.out.drewN q)
      clear hw2 HF HR2 HO HB
      go_wp2_with (at_builtin; refine wpList_append_own _ rfl _ _ 24 rfl w.heap.size 3 i0 (.int .i64 0) 1 8 Try.underlying24 hi hz0 hz1 hz2 rfl (by decide) _ _ _ rfl (World.ownsRow.alloc HO3.out _) ⟨w2.heap.size, 0, none⟩ 1 1 [.int .i64 n] rfl rfl (one_newO _ _ _) (by simp [Value.oneCell']) (by have := H4.out; have := HT.out; unfold maxLen; omega) (by have := H4.out; have := HT.out; omega) (by have := HB3.out.size; simp; omega) ?_; intro v' w3 hown hgrow _; have HO4 := Lib.hid (OW.snoc hown); have HOR := Lib.hid hown; have HGR := Lib.hid hgrow; clear hown hgrow)
      have HB5 := Lib.hid (OW.stays HO3.out HGR.out HB3.out.size)
      have HR4 := Lib.hid (show Rows TI w3 w.heap.size g cur from HR3.out.keep (HB5.out.block g hg) (fun k hk _ => HB5.out.block k hk))
      have HB4 := Lib.hid (HB3.out.low HB5.out)
      clear HO3 HOR HGR HR3 HB3 HB5
      go_loopw [6] (fun s wx => ∃ i : Nat, s = .int .i64 i ∧ i ≤ ls.length ∧ Rows TI wx w.heap.size g (mixed cur n i) ∧ OI wx w.heap.size v' (o ++ [n]) ∧ Only g w wx) (fun s _ => ls.length - (intOf s).toNat)
      case atStart => exact ⟨0, rfl, Nat.zero_le _, by rw [mixed_zero]; exact HR4.out, HO4.out, HB4.out⟩
      case round =>
        clear HR4 HO4 HB4
        obtain ⟨i, rfl, hil, hR, hO, hB⟩ := hrel
        have HR5 := Lib.hid hR
        have HO5 := Lib.hid hO
        have HB5 := Lib.hid hB
        clear hO hB
        by_cases hlt : i < ls.length
        · have hic : i < cur.length := by rw [HCL.out]; exact hlt
          have HIC := Lib.hid hic
          obtain ⟨u, hcu, hru, hnu⟩ := hR.cell (i := i) (by rw [mixed_len]; exact hic)
          rw [mixed_at hic] at hru hnu
          obtain ⟨l, hl⟩ : ∃ l, cur.getD i [] = l := ⟨_, rfl⟩
          rw [hl] at hru hnu
          have HL := Lib.hid hl
          have HRU := Lib.hid hru
          have HNU := Lib.hid hnu
          obtain ⟨p2, c2, rfl, hc2, hm2, hp2⟩ := ri_form hru
          have HP2 := Lib.hid hp2
          have hfr := hR.frozen i
          have hlz : (i : Int) < (ls.length : Int) := by omega
          clear hR hru hnu hp2 hl hic
          by_cases hl0 : l.length = 0
          · obtain rfl : l = [] := List.length_eq_zero_iff.1 hl0
            clear hl0
            go_wp2
            go_roundw
            case rel => exact ⟨i + 1, by go_num, by omega, by rw [mixed_same HIC.out (by rw [HL.out]; rfl)]; exact HR5.out, HO5.out, HB5.out⟩
            case measure => simp [intOf]; omega
          · obtain ⟨b2, off2, rfl, hcell2⟩ := HP2.out (by omega)
            have hcx := hcell2 0 (by omega)
            rw [Nat.add_zero] at hcx
            obtain ⟨x, hx⟩ : ∃ x, l.getD 0 0 = x := ⟨_, rfl⟩
            rw [hx] at hcx
            have HX := Lib.hid hx
            have hlz2 : (0 : Int) < (l.length : Int) := by omega
            have hlp : 0 < l.length := by omega
            clear hcell2 hx hl0
            by_cases he : x = n
            · subst he
              obtain ⟨o', ho, hsl⟩ := sl_from (P := Try.prog) 24 sliceI sizeI b2 off2 l.length c2 1 (by omega) hc2
              have hsl1 : ∀ wx, (Instr.slice 24 (.slice (some ⟨b2, off2, none⟩) l.length c2) (some (.int .i64 1)) none none).run Try.prog wx = .ok (.slice (some ⟨b2, o', none⟩) (l.length - 1) (c2 - 1)) wx := hsl
              have HRT := Lib.hid (HRU.out.tail hlp o' rfl ho)
              have HNT := Lib.hid (show Near w.heap.size g (.slice (some ⟨b2, o', none⟩) (l.length - 1) (c2 - 1)) l.tail from fun b off s n c hn e => by
                simp only [Value.slice.injEq, Option.some.injEq, Addr.mk.injEq] at e
                obtain ⟨⟨rfl, _, _⟩, _, _⟩ := e
                exact HNU.out b2 off2 none _ _ (by intro h; rw [h] at hlp; simp at hlp) rfl)
              clear hsl ho
              go_wp2
              go_roundw
              case rel => exact ⟨i + 1, by go_num, by omega, by
                have h := HR5.out.set (i := i) (by rw [mixed_len]; exact HIC.out) HRT.out HNT.out
                have h2 : l.tail = strip x (cur.getD i []) := by rw [HL.out, strip_yes hlp HX.out]
                rw [h2, mixed_set HIC.out] at h
                exact h, HO5.out.setLow hg, HB5.out.setCell _⟩
              case measure => simp [intOf]; omega
            · have hne : (x == n) = false := by rw [beq_eq_false_iff_ne]; exact he
              have HNE := Lib.hid he
              clear he
              go_wp2
              go_roundw
              case rel => exact ⟨i + 1, by go_num, by omega, by rw [mixed_same HIC.out (by rw [HL.out]; exact strip_no hlp HX.out HNE.out)]; exact HR5.out, HO5.out, HB5.out⟩
              case measure => simp [intOf]; omega
        · have hlz : ¬ (i : Int) < (ls.length : Int) := by omega
          have HR6 := Lib.hid (show Rows TI wr w.heap.size g (stepM cur n) from by rw [← mixed_full (show cur.length ≤ i by rw [HCL.out]; omega)]; exact HR5.out)
          clear hR
          go_wp2
          go_roundg (total (stepM cur n))
          case measure => exact HSL.out
          case rel => exact ⟨stepM cur n, o ++ [n], rfl, by rw [stepM, List.length_map]; exact HCL.out, HR6.out, HO5.out, by rw [H1.out, HMS.out]; simp, by rw [H2.out, HMS.out], H3.out.step n, by have := H4.out; have := HSL.out; simp; omega, HB5.out⟩
end Go.Proofs.Ytfddcmapjnkhhaa
