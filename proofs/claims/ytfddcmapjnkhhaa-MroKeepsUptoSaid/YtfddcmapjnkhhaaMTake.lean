/- Layer 19: how often a number stands behind the firsts; the program's take. -/
import Derived.Test.YtfddcmapjnkhhaaMFit
namespace Go.Proofs.Ytfddcmapjnkhhaa
open Go.ChangeShapes Go.WideShapes Go.RowKit
set_option linter.unusedVariables false
set_option linter.unusedSimpArgs false
def cntN (ls : List (List Int)) (x : Int) : Nat := (ls.map fun l => l.tail.count x).sum
theorem cnt_set {x : Int} {l' : List Int} : ∀ {ls : List (List Int)} {i : Nat}, i < ls.length → cntN (ls.set i l') x + (ls.getD i []).tail.count x = cntN ls x + l'.tail.count x
  | [], i, h => by simp at h
  | a :: ls, 0, h => by simp [cntN]; omega
  | a :: ls, i + 1, h => by
    have := cnt_set (x := x) (l' := l') (ls := ls) (i := i) (by simpa using h)
    simp only [cntN, List.set_cons_succ, List.map_cons, List.sum_cons, List.getD_cons_succ] at this ⊢
    omega
theorem cnt_le_total (x : Int) : ∀ (ls : List (List Int)), cntN ls x ≤ total ls
  | [] => by simp [cntN, total]
  | l :: ls => by
    have := cnt_le_total x ls
    have h2 : l.tail.count x ≤ l.length := Nat.le_trans List.count_le_length (by simp)
    simp only [cntN, total, List.map_cons, List.sum_cons] at this ⊢
    omega
theorem total_set {l' : List Int} : ∀ {ls : List (List Int)} {i : Nat}, i < ls.length → total (ls.set i l') + (ls.getD i []).length = total ls + l'.length
  | [], i, h => by simp at h
  | a :: ls, 0, h => by simp [total]; omega
  | a :: ls, i + 1, h => by
    have := total_set (l' := l') (ls := ls) (i := i) (by simpa using h)
    simp only [total, List.set_cons_succ, List.map_cons, List.sum_cons, List.getD_cons_succ] at this ⊢
    omega
theorem cnt_zero {ls : List (List Int)} {x : Int} : cntN ls x = 0 ↔ inTail ls x = false := by
  unfold inTail
  induction ls with
  | nil => simp [cntN]
  | cons l ls ih =>
    have e : cntN (l :: ls) x = l.tail.count x + cntN ls x := by simp [cntN]
    have hh : hasFrom l 1 x = false ↔ l.tail.count x = 0 := by
      rw [List.count_eq_zero, ← Bool.not_eq_true, hasFrom_mem, List.drop_one]
    rw [e, List.any_cons, Bool.or_eq_false_iff, ← ih, hh]
    omega
theorem tail_count {l : List Int} {x : Int} (h : 1 < l.length) : l.tail.count x = l.tail.tail.count x + (if l.getD 1 0 = x then 1 else 0) := by
  match l, h with
  | a :: b :: r, _ => simp [List.count_cons]
theorem tail_count1 {l : List Int} {x : Int} (h : ¬ 1 < l.length) : l.tail.count x = l.tail.tail.count x := by
  match l, h with
  | [], _ => rfl
  | [a], _ => rfl
  | a :: b :: r, h => simp at h
theorem cnt_next {ls : List (List Int)} {i : Nat} {n x : Int} {l : List Int} (hi : i < ls.length) (hl : ls.getD i [] = l) (h1 : strip n l = l.tail) : cntN (mixed ls n i) x = cntN (mixed ls n (i + 1)) x + (if 1 < l.length ∧ l.getD 1 0 = x then 1 else 0) := by
  have h := cnt_set (x := x) (l' := strip n (ls.getD i [])) (ls := mixed ls n i) (i := i) (by rw [mixed_len]; exact hi)
  rw [mixed_set hi, mixed_at hi, hl, h1] at h
  by_cases h2 : 1 < l.length
  · rw [tail_count h2] at h
    simp only [h2, true_and]
    omega
  · rw [tail_count1 h2] at h
    simp only [h2, false_and, if_false]
    omega
theorem total_next {ls : List (List Int)} {i : Nat} {n : Int} {l : List Int} (hi : i < ls.length) (hl : ls.getD i [] = l) (h1 : strip n l = l.tail) (h0 : 0 < l.length) : total (mixed ls n (i + 1)) + 1 = total (mixed ls n i) := by
  have h := total_set (l' := strip n (ls.getD i [])) (ls := mixed ls n i) (i := i) (by rw [mixed_len]; exact hi)
  rw [mixed_set hi, mixed_at hi, hl, h1, List.length_tail] at h
  omega
/-- The map tells how often a number stands behind the firsts. -/
def Cnt (P : Program) (k : TypeId) (w : World) (m N : Nat) (ls : List (List Int)) : Prop := ∃ f, MapF P k w m N f ∧ ∀ x, (f x).getD (.int .i64 0) = .int .i64 (cntN ls x)
theorem Cnt.keep {P : Program} {k : TypeId} {w w' : World} {m N : Nat} {ls : List (List Int)} (h : Cnt P k w m N ls) (hb : w'.heap[m]? = w.heap[m]?) : Cnt P k w' m N ls := by
  obtain ⟨f, h1, h2⟩ := h
  exact ⟨f, h1.keep hb, h2⟩
def Fine (ls : List (List Int)) : Prop := ∀ l ∈ ls, ∀ x ∈ l, wfI x
theorem Fine.at {ls : List (List Int)} (h : Fine ls) {i j : Nat} (hj : j < (ls.getD i []).length) : wfI ((ls.getD i []).getD j 0) := by
  have hi : i < ls.length := by
    apply Classical.byContradiction; intro hn
    rw [List.getD_eq_getElem?_getD, List.getElem?_eq_none (by omega)] at hj
    simp at hj
  refine h (ls.getD i []) ?_ _ ?_
  · rw [List.getD_eq_getElem?_getD, List.getElem?_eq_getElem hi]; exact List.getElem_mem hi
  · generalize ls.getD i [] = l at hj
    rw [List.getD_eq_getElem?_getD, List.getElem?_eq_getElem hj]; exact List.getElem_mem hj
theorem Fine.step {ls : List (List Int)} (h : Fine ls) (n : Int) : Fine (stepM ls n) := by
  intro l hl x hx
  obtain ⟨l0, h0, rfl⟩ := List.mem_map.1 hl
  exact h l0 h0 x (strip_mem hx)
/-- Blocks g and m alone have changed. -/
structure Two (g m : Nat) (w w' : World) : Prop where
  os : w'.os = w.os
  tape : w'.tape = w.tape
  output : w'.output = w.output
  size : w'.heap.size = w.heap.size
  other : ∀ k, k ≠ g → k ≠ m → w'.heap[k]? = w.heap[k]?
theorem Two.refl (g m : Nat) (w : World) : Two g m w w := ⟨rfl, rfl, rfl, rfl, fun _ _ _ => rfl⟩
theorem Two.setCell {g m i : Nat} {w w' : World} (h : Two g m w w') (v : Value) : Two g m w (w'.setCell ⟨g, i, none⟩ v) :=
  ⟨h.os, h.tape, h.output, by simpa [World.setCell] using h.size, fun k hk hn => by rw [Below.heap_setCell _ _ _ _ (by simpa using hk)]; exact h.other k hk hn⟩
theorem Two.turn {g m : Nat} {w w' w2 : World} (h : Two g m w w') (ht : Turn m w' w2) : Two g m w w2 :=
  ⟨ht.os.trans h.os, ht.tape.trans h.tape, ht.output.trans h.output, ht.size.trans h.size, fun k hk hn => (ht.other k hn).trans (h.other k hk hn)⟩
theorem Rows.turn {T : TypeId} {w w' : World} {B g m : Nat} {ls : List (List Int)} (h : Rows T w B g ls) (ht : Turn m w w') (hg : m ≠ g) (hB : B ≤ m) : Rows T w' B g ls :=
  h.keep (ht.other g (Ne.symm hg)) fun k hk _ => ht.other k (by omega)
def TakePost (W : World) (B g m N : Nat) (ls : List (List Int)) (n : Int) (e : Ending) (w' : World) : Prop :=
  e = .returned (.tuple #[]) ∧ Rows TI w' B g (stepM ls n) ∧ Two g m W w' ∧ ∃ N', Cnt Try.prog 3 w' m N' (stepM ls n) ∧ N' + total (stepM ls n) ≤ N + total ls
set_option maxRecDepth 100000 in
set_option maxHeartbeats 4000000 in
theorem take_any (B g m N c : Nat) (ls : List (List Int)) (n : Int) (w : World) (h : Rows TI w B g ls) (hc : ls.length ≤ c) (hm : ls.length ≤ 1000) (hC : Cnt Try.prog 3 w m N ls) (hg : m ≠ g) (hBm : B ≤ m) (hN : N + total ls ≤ 1000000) (hf : Fine ls) :
    Calls Try.prog 23 #[.slice (some ⟨g, 0, none⟩) ls.length c, .int .i64 n, .map (some m)] w (TakePost w B g m N ls n) := by
  have HR := Lib.hid h
  have HC := Lib.hid hC
  have HF := Lib.hid hf
  have hz : ∀ wx, (zeroValue 3).run Try.prog wx = .ok (.int .i64 0) wx := fun wx => by kernel_rfl
  have HG := fun (b n : Nat) (f : Int → Option Value) (wx : World) (h : MapF Try.prog 3 wx b n f) (x : Int) (hx : wfI x) => MapF.get (t := 43) Try.underlying3 Try.underlying43 h (hz wx) hx
  have HU := fun (b n : Nat) (f : Int → Option Value) (wx : World) (h : MapF Try.prog 3 wx b n f) (hn : n < maxLen) (x : Int) (hx : wfI x) (v : Value) => MapF.put (t := 43) Try.underlying3 Try.underlying43 h hn hx v
  have HGh := Lib.hid HG
  have HUh := Lib.hid HU
  clear h hC hf HG HU hz
  go_enter Try.func23, Try.ntmps23
  go_wp2
  go_loopw [10] (fun s wx => ∃ i : Nat, s = .int .i64 i ∧ i ≤ ls.length ∧ Rows TI wx B g (mixed ls n i) ∧ Two g m w wx ∧ ∃ N', Cnt Try.prog 3 wx m N' (mixed ls n i) ∧ N' + total (mixed ls n i) ≤ N + total ls) (fun s _ => ls.length - (intOf s).toNat)
  case atStart => exact ⟨0, rfl, Nat.zero_le _, by rw [mixed_zero]; exact HR.out, Two.refl _ _ _, N, by rw [mixed_zero]; exact HC.out, by rw [mixed_zero]; exact Nat.le_refl _⟩
  case round =>
    obtain ⟨i, rfl, hil, hR, hT, N1, hC, hN1⟩ := hrel
    have HR2 := Lib.hid hR
    have HT2 := Lib.hid hT
    have HC2 := Lib.hid hC
    have HN1 := Lib.hid hN1
    clear hT hC hN1
    by_cases hlt : i < ls.length
    · obtain ⟨u, hcu, hru, hnu⟩ := hR.cell (i := i) (by rw [mixed_len]; exact hlt)
      rw [mixed_at hlt] at hru hnu
      obtain ⟨l, hl⟩ : ∃ l, ls.getD i [] = l := ⟨_, rfl⟩
      rw [hl] at hru hnu
      have HL := Lib.hid hl
      have HRU := Lib.hid hru
      have HNU := Lib.hid hnu
      obtain ⟨p2, c2, rfl, hc2, hm2, hp2⟩ := ri_form hru
      have HP2 := Lib.hid hp2
      have hfr := hR.frozen i
      have hlz : (i : Int) < (ls.length : Int) := by omega
      clear hR hru hnu hp2 hl
      by_cases hl0 : l.length = 0
      · obtain rfl : l = [] := List.length_eq_zero_iff.1 hl0
        clear hl0
        go_wp2
        go_roundw
        case rel => exact ⟨i + 1, by go_num, by omega, by rw [mixed_same hlt (by rw [HL.out]; rfl)]; exact HR2.out, HT2.out, N1, by rw [mixed_same hlt (by rw [HL.out]; rfl)]; exact ⟨HC2.out, HN1.out⟩⟩
        case measure => simp [intOf]; omega
      · obtain ⟨b2, off2, rfl, hcell2⟩ := HP2.out (by omega)
        have hcx := hcell2 0 (by omega)
        rw [Nat.add_zero] at hcx
        have HCELL := Lib.hid hcell2
        obtain ⟨x, hx⟩ : ∃ x, l.getD 0 0 = x := ⟨_, rfl⟩
        rw [hx] at hcx
        have HX := Lib.hid hx
        have hlz2 : (0 : Int) < (l.length : Int) := by omega
        have hlp : 0 < l.length := by omega
        have hlq : ((l.length : Int) == 0) = false := by rw [beq_eq_false_iff_ne]; omega
        clear hcell2 hx hl0
        by_cases he : x = n
        · subst he
          obtain ⟨o', ho, hsl⟩ := sl_from (P := Try.prog) 24 sliceI sizeI b2 off2 l.length c2 1 (by omega) hc2
          have hsl1 : ∀ wx, (Instr.slice 24 (.slice (some ⟨b2, off2, none⟩) l.length c2) (some (.int .i64 1)) none none).run Try.prog wx = .ok (.slice (some ⟨b2, o', none⟩) (l.length - 1) (c2 - 1)) wx := hsl
          have hstr : strip x l = l.tail := strip_yes hlp HX.out
          have HSTR := Lib.hid hstr
          have HR3 := Lib.hid (show Rows TI (wr.setCell ⟨g, i, none⟩ (.slice (some ⟨b2, o', none⟩) (l.length - 1) (c2 - 1))) B g (mixed ls x (i + 1)) from by
            have h := HR2.out.set (i := i) (by rw [mixed_len]; exact hlt) (HRU.out.tail hlp o' rfl ho) (show Near B g (.slice (some ⟨b2, o', none⟩) (l.length - 1) (c2 - 1)) l.tail from fun b off s n c hn e => by
              simp only [Value.slice.injEq, Option.some.injEq, Addr.mk.injEq] at e
              obtain ⟨⟨rfl, _, _⟩, _, _⟩ := e
              exact HNU.out b2 off2 none _ _ (by intro h; rw [h] at hlp; simp at hlp) rfl)
            have h2 : l.tail = strip x (ls.getD i []) := by rw [HL.out, hstr]
            rw [h2, mixed_set hlt] at h
            exact h)
          have HC3 := Lib.hid (show Cnt Try.prog 3 (wr.setCell ⟨g, i, none⟩ (.slice (some ⟨b2, o', none⟩) (l.length - 1) (c2 - 1))) m N1 (mixed ls x i) from HC2.out.keep (Below.heap_setCell _ _ _ _ (by simpa using hg)))
          have HT3 := Lib.hid (HT2.out.setCell (i := i) (.slice (some ⟨b2, o', none⟩) (l.length - 1) (c2 - 1)))
          have htot := total_next hlt HL.out hstr hlp
          have HTOT := Lib.hid htot
          clear hsl ho hstr htot
          by_cases hl1 : 1 < l.length
          · have hlz3 : (1 : Int) < (l.length : Int) := by omega
            obtain ⟨y, hy⟩ : ∃ y, l.getD 1 0 = y := ⟨_, rfl⟩
            have hcy := HCELL.out 1 hl1
            rw [hy] at hcy
            have hcy2 : (wr.setCell ⟨g, i, none⟩ (.slice (some ⟨b2, o', none⟩) (l.length - 1) (c2 - 1))).cell? ⟨b2, off2 + 1, none⟩ = some (.int .i64 y) :=
              (World.cell?_of_block (a := ⟨b2, off2 + 1, none⟩) (Below.heap_setCell _ _ _ _ (by simpa using (HNU.out b2 off2 none _ _ (by intro h; rw [h] at hlp; simp at hlp) rfl).2))).trans hcy
            have hwf : wfI y := by rw [← hy, ← HL.out]; exact HF.out.at (by rw [HL.out]; exact hl1)
            have HY := Lib.hid hy
            obtain ⟨f, hM, hfx⟩ := HC3.out
            have HM := Lib.hid hM
            have HFX := Lib.hid hfx
            have hget := HGh.out _ _ _ _ hM y hwf
            rw [hfx y] at hget
            obtain ⟨v, hv⟩ : ∃ v : Int, ((cntN (mixed ls x i) y : Nat) : Int) = v := ⟨_, rfl⟩
            rw [hv] at hget
            have hvb : 1 ≤ v ∧ v ≤ 1000000 := by
              have h1 := cnt_next (x := y) hlt HL.out HSTR.out
              rw [if_pos ⟨hl1, hy⟩] at h1
              have h2 := cnt_le_total y (mixed ls x i)
              have := HN1.out
              omega
            have HV := Lib.hid hv
            have hwr : IntKind.i64.wrap (v - 1) = v - 1 := IntWalk.i64_in _ (by omega)
            obtain ⟨w3, hput, hM3, hT3⟩ := HUh.out _ _ _ _ hM (by have := HN1.out; unfold maxLen; omega) y hwf (.int .i64 (v - 1))
            have HM3 := Lib.hid hM3
            have HTU := Lib.hid hT3
            clear hy hM hfx hv hM3 hT3 hcy hvb
            go_wp2
            go_roundw
            case rel => exact ⟨i + 1, by go_num, by omega, HR3.out.turn HTU.out hg hBm, HT3.out.turn HTU.out, N1 + 1, ⟨_, HM3.out, fun z => by
              have h1 := cnt_next (x := z) hlt HL.out HSTR.out
              have := HV.out
              by_cases e : z = y
              · subst e
                rw [if_pos rfl]
                rw [if_pos ⟨hl1, HY.out⟩] at h1
                simp only [Option.getD_some]
                congr 1
                omega
              · rw [if_neg e, HFX.out z]
                rw [if_neg (fun h => e (by rw [← h.2]; exact HY.out))] at h1
                congr 1
                omega⟩, by have := HN1.out; have := HTOT.out; omega⟩
            case measure => simp [intOf]; omega
          · have hlz3 : ¬ (1 : Int) < (l.length : Int) := by omega
            go_wp2
            go_roundw
            case rel => exact ⟨i + 1, by go_num, by omega, HR3.out, HT3.out, N1, by
              obtain ⟨f, hM, hfx⟩ := HC3.out
              exact ⟨f, hM, fun z => by
                have h1 := cnt_next (x := z) hlt HL.out HSTR.out
                rw [if_neg (fun h => hl1 h.1)] at h1
                rw [hfx z, h1, Nat.add_zero]⟩, by have := HN1.out; have := HTOT.out; omega⟩
            case measure => simp [intOf]; omega
        · have hne : (x == n) = false := by rw [beq_eq_false_iff_ne]; exact he
          have HNE := Lib.hid he
          clear he
          go_wp2
          go_roundw
          case rel =>
            have hs := mixed_same (n := n) hlt (by rw [HL.out]; exact strip_no hlp HX.out HNE.out)
            exact ⟨i + 1, by go_num, by omega, by rw [hs]; exact HR2.out, HT2.out, N1, by rw [hs]; exact ⟨HC2.out, HN1.out⟩⟩
          case measure => simp [intOf]; omega
    · have hlz : ¬ (i : Int) < (ls.length : Int) := by omega
      have hs : mixed ls n i = stepM ls n := mixed_full (by omega)
      rw [hs] at HR2 HC2 HN1
      clear hR hs
      go_wp2
      go_end0
      exact ⟨rfl, HR2.out, HT2.out, N1, HC2.out, HN1.out⟩
end Go.Proofs.Ytfddcmapjnkhhaa
