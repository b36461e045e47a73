/- Layer 19: the program's merge. -/
import Derived.Test.YtfddcmapjnkhhaaMTake
import Derived.Laws.CopyOwn
import Derived.Deep.LoopGhost
namespace Go.Proofs.Ytfddcmapjnkhhaa
open Go.ChangeShapes Go.WideShapes Go.RowKit
set_option linter.unusedVariables false
set_option linter.unusedSimpArgs false
abbrev nilS : Value := .slice none 0 0
theorem rm_vals {w : World} {u : Value} {ls : List (List Int)} (h : Rm w u ls) : ∃ (vs : List Value) (p : Option Addr) (c : Nat), u = .slice p ls.length c ∧ ls.length ≤ c ∧ ls.length ≤ 17592186043904 ∧ vs.length = ls.length ∧
    (∀ i, i < ls.length → Ri w (vs.getD i nilS) (ls.getD i [])) ∧ (0 < ls.length → ∃ b off, p = some ⟨b, off, none⟩ ∧ ∀ i, i < ls.length → w.cell? ⟨b, off + i, none⟩ = some (vs.getD i nilS)) := by
  rcases h with ⟨p, rfl, rfl⟩ | ⟨b, off, c, rfl, h1, h2, h3⟩
  · exact ⟨[], p, 0, rfl, by simp, by simp, rfl, fun i hi => by simp at hi, fun h => by simp at h⟩
  · have h4 : ∀ i : Nat, ∃ u : Value, i < ls.length → w.cell? ⟨b, off + i, none⟩ = some u ∧ Ri w u (ls.getD i []) := fun i => by
      by_cases hi : i < ls.length
      · obtain ⟨u, hu⟩ := h3 i hi; exact ⟨u, fun _ => hu⟩
      · exact ⟨nilS, fun h => absurd h hi⟩
    obtain ⟨f, hf⟩ := Classical.axiomOfChoice h4
    have hg : ∀ i, i < ls.length → ((List.range ls.length).map f).getD i nilS = f i := fun i hi => by simp [List.getD_eq_getElem?_getD, hi]
    exact ⟨(List.range ls.length).map f, _, c, rfl, h1, h2, by simp, fun i hi => by rw [hg i hi]; exact (hf i hi).2, fun _ => ⟨b, off, rfl, fun i hi => by rw [hg i hi]; exact (hf i hi).1⟩⟩
theorem ri_one {w : World} {u : Value} {l : List Int} (h : Ri w u l) : u.oneCell' = true := by
  obtain ⟨p, c, rfl, _⟩ := ri_form h
  rfl
theorem src_vals {w : World} {p : Option Addr} {vs : List Value} (hp : 0 < vs.length → ∃ b off, p = some ⟨b, off, none⟩ ∧ ∀ i, i < vs.length → w.cell? ⟨b, off + i, none⟩ = some (vs.getD i nilS)) (h0 : 0 < vs.length) :
    ∃ ad, p = some ad ∧ ∀ j v, vs[j]? = some v → w.cell? (ad.add j) = some v := by
  obtain ⟨b, off, rfl, hc⟩ := hp h0
  refine ⟨_, rfl, fun j v hj => ?_⟩
  obtain ⟨hj', rfl⟩ := List.getElem?_eq_some_iff.1 hj
  rw [addO, hc j hj', List.getD_eq_getElem?_getD, List.getElem?_eq_getElem hj']
  rfl
theorem made_nil (n : Nat) : madeCells #[nilS] n = (List.replicate n nilS).toArray := by
  apply Array.ext
  · simp [madeCells]
  · intro i h1 h2; simp [madeCells, Nat.mod_one]
theorem splice_full {vs : List Value} {n : Nat} (h : vs.length = n) : splice (List.replicate n nilS) 0 vs = vs := by
  subst h; simp [splice]
theorem Rows.ofCells {T : TypeId} {w : World} {B g : Nat} {vs : List Value} {ls : List (List Int)} (h : w.heap[g]? = some (.cells vs.toArray T (0, 0))) (hl : vs.length = ls.length) (hr : ∀ i, i < ls.length → Ri w (vs.getD i nilS) (ls.getD i []) ∧ Near B g (vs.getD i nilS) (ls.getD i [])) : Rows T w B g ls :=
  ⟨_, h, by simp; omega, fun i hi => ⟨vs.getD i nilS, by simp [List.getD_eq_getElem?_getD, show i < vs.length by omega], (hr i hi).1, (hr i hi).2⟩⟩
theorem sl_zero {P : Program} (t : TypeId) (ht : P.underlying t = some (.slice (P.elem t))) (hsz : ∀ wx, (sizeOf (P.elem t)).run P wx = .ok 1 wx) (p : Option Addr) (c : Nat) :
    ∃ p', ∀ wx, (Instr.slice t (.slice p 0 c) (some (.int .i64 0)) none none).run P wx = .ok (.slice p' 0 c) wx := by
  refine ⟨if c = 0 then p else p.map (·.add 0), fun wx => ?_⟩
  rw [run_slice_l wx t _ 0 c ht .i64 0 (by omega) (by omega), hsz]
  simp [Result.andThen, sliced]
/-- The map tells c. -/
def CntV (P : Program) (k : TypeId) (w : World) (m N : Nat) (c : Int → Nat) : Prop := ∃ f, MapF P k w m N f ∧ ∀ x, (f x).getD (.int .i64 0) = .int .i64 (c x)
theorem cnt_take {ls : List (List Int)} {i : Nat} (hi : i < ls.length) (x : Int) : cntN (ls.take (i + 1)) x = cntN (ls.take i) x + (ls.getD i []).tail.count x := by
  have h : ls.take (i + 1) = ls.take i ++ [ls.getD i []] := by
    rw [List.take_add_one, List.getElem?_eq_getElem hi]; simp [List.getD_eq_getElem?_getD, hi]
  rw [h]
  unfold cntN
  rw [List.map_append, List.sum_append]
  simp
theorem tot_take {ls : List (List Int)} {i : Nat} (hi : i < ls.length) : total (ls.take (i + 1)) = total (ls.take i) + (ls.getD i []).length := by
  have h : ls.take (i + 1) = ls.take i ++ [ls.getD i []] := by
    rw [List.take_add_one, List.getElem?_eq_getElem hi]; simp [List.getD_eq_getElem?_getD, hi]
  rw [h]
  unfold total
  rw [List.map_append, List.sum_append]
  simp
theorem tot_take_le (i : Nat) : ∀ (ls : List (List Int)), total (ls.take i) ≤ total ls := by
  intro ls
  have h : total ls = total (ls.take i) + total (ls.drop i) := by
    conv => lhs; rw [← List.take_append_drop i ls]
    unfold total
    rw [List.map_append, List.sum_append]
  omega
theorem count_take {l : List Int} {j : Nat} (hj : j < l.length) (x : Int) : (l.take (j + 1)).count x = (l.take j).count x + (if x = l.getD j 0 then 1 else 0) := by
  rw [take_next hj, List.count_append, List.count_singleton]
  by_cases e : x = l.getD j 0
  · subst e; simp
  · rw [if_neg e, if_neg (by simpa using fun h => e h.symm)]
theorem allNil_take {ls : List (List Int)} {i : Nat} (hi : i < ls.length) : allNil (ls.take (i + 1)) = (allNil (ls.take i) && (ls.getD i []).isEmpty) := by
  have h : ls.take (i + 1) = ls.take i ++ [ls.getD i []] := by
    rw [List.take_add_one, List.getElem?_eq_getElem hi]; simp [List.getD_eq_getElem?_getD, hi]
  rw [h]
  simp [allNil]
theorem OW.off {k : IntKind} {T : TypeId} {w w' : World} {B : Nat} {v : Value} {ws : List Int} (h : OW k T w B v ws) (hk : ∀ g, B ≤ g → w'.heap[g]? = w.heap[g]?) : OW k T w' B v ws := by
  obtain ⟨h1, h2⟩ := h
  refine ⟨h1, ?_⟩
  rcases h2 with h2 | ⟨g', cap, cur, hv, hb, r1, r⟩
  · exact .inl h2
  · exact .inr ⟨g', cap, cur, hv, hb, by rw [hk g' hb]; exact r1, r⟩
theorem Two.below {g m B : Nat} {w w' : World} (h : Two g m w w') (hg : B ≤ g) (hm : B ≤ m) : Below B w w' :=
  ⟨h.os, h.tape, h.output, Nat.le_of_eq h.size.symm, fun k hk => h.other k (by omega) (by omega)⟩
def MLPost (W : World) (ls : List (List Int)) (e : Ending) (w' : World) : Prop :=
  ∃ uo, e = .returned (.tuple #[uo, .bool (allNil (mergeL ls).2)]) ∧ OI w' W.heap.size uo (mergeL ls).1 ∧ Below W.heap.size W w'
set_option maxRecDepth 100000 in
set_option maxHeartbeats 4000000 in
theorem merge_any (u : Value) (ls : List (List Int)) (w : World) (h : Rm w u ls) (hm : ls.length ≤ 1000) (ht : total ls ≤ 100000) (hf : Fine ls) :
    Calls Try.prog 20 #[u] w (MLPost w ls) := by
  obtain ⟨vs, p, c, rfl, hc, _, hvl, hvr, hp⟩ := rm_vals h
  obtain ⟨i0, hi, hz0, hz1, hz2⟩ := info_parts infoInt
  have HF := Lib.hid hf
  have HT := Lib.hid ht
  have HVR := Lib.hid hvr
  have hsz2 : (Try.prog.info? 24).map (·.size) = some 1 := by kernel_rfl
  have hmk := run_make_row' (P := Try.prog) 22 24 nilS 24 Try.underlying22 infoSl rfl .i64 .i64 ls.length (by omega) (by omega)
  have HGG := Lib.hid (show (w.alloc (.cells (madeCells #[nilS] ls.length) 24)).heap[w.heap.size]? = some (.cells (List.replicate ls.length nilS).toArray 24 (0, 0)) from by rw [made_nil]; exact heap_alloc_new w _)
  have HBB := Lib.hid ((Below.refl w.heap.size w).alloc (Nat.le_refl _) (.cells (madeCells #[nilS] ls.length) 24))
  have HSR := Lib.hid (show 0 < vs.length → ∃ b off, p = some ⟨b, off, none⟩ ∧ ∀ i, i < vs.length → (w.alloc (.cells (madeCells #[nilS] ls.length) 24)).cell? ⟨b, off + i, none⟩ = some (vs.getD i nilS) from fun h0 => by
    obtain ⟨b, off, e, hx⟩ := hp (by omega)
    exact ⟨b, off, e, fun i hi => alloc_cell (hx i (by omega)) _⟩)
  have HONE := Lib.hid (show ∀ v ∈ vs, v.oneCell' = true from fun v hv => by
    obtain ⟨i, hi, rfl⟩ := List.mem_iff_getElem.1 hv
    have := hvr i (by omega)
    rw [List.getD_eq_getElem?_getD, List.getElem?_eq_getElem hi] at this
    exact ri_one this)
  have hmm := @run_makeMap Try.prog
  have hz : ∀ wx, (zeroValue 3).run Try.prog wx = .ok (.int .i64 0) wx := fun wx => by kernel_rfl
  have HG := fun (b n : Nat) (f : Int → Option Value) (wx : World) (h : MapF Try.prog 3 wx b n f) (x : Int) (hx : wfI x) => MapF.get (t := 43) Try.underlying3 Try.underlying43 h (hz wx) hx
  have HU := fun (b n : Nat) (f : Int → Option Value) (wx : World) (h : MapF Try.prog 3 wx b n f) (hn : n < maxLen) (x : Int) (hx : wfI x) (v : Value) => MapF.put (t := 43) Try.underlying3 Try.underlying43 h hn hx v
  have HGh := Lib.hid HG
  have HUh := Lib.hid HU
  clear hp h HG HU hz hf ht hvr
  go_enter Try.func20, Try.ntmps20
  go_wp2
  go_step3
  go_wp2_with (with_reducible refine wpList_copy_splice rfl (.tmp 17) (.tmp 18) 22 22 rfl 24 Try.underlying22 hsz2 (some ⟨w.heap.size, 0, none⟩) p ls.length ls.length ls.length c rfl rfl w.heap.size 0 _ 24 HGG.out vs (by rw [hvl]; simp) (fun h0 => ⟨rfl, src_vals HSR.out h0⟩) (by simp; omega) HONE.out w.heap.size w HBB.out (Nat.le_refl _) ?_; intro w1 hrow hb1)
  have HR0 := Lib.hid (show Rows TI w1 w.heap.size w.heap.size ls from by
    have := hrow.out
    rw [splice_full hvl] at this
    refine Rows.ofCells this hvl fun i hi => ⟨(HVR.out i hi).keep hb1, (HVR.out i hi).nearOf (Nat.le_refl _)⟩)
  have hg1 : w.heap.size < w1.heap.size := HR0.out.lt
  have HB1 := Lib.hid hb1
  clear hrow hb1
  have HM0 := Lib.hid (MapF.made (P := Try.prog) (k := 3) w1)
  have HR1 := Lib.hid (show Rows TI (w1.alloc (.map #[] 0)) w.heap.size w.heap.size ls from HR0.out.keep (heap_alloc_old w1 _ hg1) (fun k hk _ => heap_alloc_old w1 _ (by omega)))
  have HB2 := Lib.hid (HB1.out.alloc HB1.out.size (Obj.map #[] 0) : Below w.heap.size w (w1.alloc (.map #[] 0)))
  have hs2 : (w1.alloc (.map #[] 0)).heap.size = w1.heap.size + 1 := by simp
  have HS2 := Lib.hid hs2
  generalize w1.alloc (.map #[] 0) = w2 at HR1 HB2 HM0 HS2 hs2
  clear HR0 HB1 hs2 HGG HBB HSR HONE HVR hmk hmm hsz2
  go_loopw [23] (fun s wx => ∃ i N : Nat, s = .int .i64 i ∧ i ≤ ls.length ∧ Rows TI wx w.heap.size w.heap.size ls ∧ CntV Try.prog 3 wx w1.heap.size N (cntN (ls.take i)) ∧ N ≤ total (ls.take i) ∧ Below w.heap.size w wx ∧ wx.heap.size = w1.heap.size + 1) (fun s _ => ls.length - (intOf s).toNat)
  case atStart => exact ⟨0, 0, rfl, Nat.zero_le _, HR1.out, ⟨_, HM0.out, fun x => by simp [cntN]⟩, Nat.zero_le _, HB2.out, HS2.out⟩
  case round =>
    clear HM0 HR1 HB2 HS2
    obtain ⟨i, N, rfl, hil, hR, hC, hN, hB, hS⟩ := hrel
    have HR := Lib.hid hR
    have HC := Lib.hid hC
    have HN := Lib.hid hN
    have HB := Lib.hid hB
    have HS := Lib.hid hS
    clear hC hN hB hS
    by_cases hlt : i < ls.length
    · obtain ⟨u, hcu, hru, hnu⟩ := hR.cell (i := i) hlt
      obtain ⟨l, hl⟩ : ∃ l, ls.getD i [] = l := ⟨_, rfl⟩
      rw [hl] at hru hnu
      have HL := Lib.hid hl
      have HRU := Lib.hid hru
      have HNU := Lib.hid hnu
      obtain ⟨p2, c2, rfl, hc2, hm2, hp2⟩ := ri_form hru
      have HP2 := Lib.hid hp2
      have hlz : (i : Int) < (ls.length : Int) := by omega
      clear hR hru hnu hp2 hl
      by_cases hl0 : l.length = 0
      · obtain rfl : l = [] := List.length_eq_zero_iff.1 hl0
        obtain ⟨p3, hsl⟩ := sl_zero (P := Try.prog) 24 sliceI sizeI p2 c2
        clear hl0
        go_wp2
        go_loopw [33] (fun s wx => s = .int .i64 0 ∧ wx = wr) (fun s _ => 0)
        case atStart => exact ⟨rfl, rfl⟩
        case round =>
          obtain ⟨rfl, rfl⟩ := hrel
          go_wp2
          go_roundw
          case rel => exact ⟨i + 1, N, by go_num, by omega, HR.out, by
            obtain ⟨f, h1, h2⟩ := HC.out
            exact ⟨f, h1, fun x => by rw [h2, cnt_take hlt, HL.out]; simp⟩, by rw [tot_take hlt]; have := HN.out; omega, HB.out, HS.out⟩
          case measure => simp [intOf]; omega
      · obtain ⟨b2, off2, rfl, hcell2⟩ := HP2.out (by omega)
        have hlp : 0 < l.length := by omega
        have hlz2 : (1 : Int) ≤ (l.length : Int) := by omega
        obtain ⟨o', ho, hsl⟩ := sl_from (P := Try.prog) 24 sliceI sizeI b2 off2 l.length c2 1 (by omega) hc2
        have hsl1 : ∀ wx, (Instr.slice 24 (.slice (some ⟨b2, off2, none⟩) l.length c2) (some (.int .i64 1)) none none).run Try.prog wx = .ok (.slice (some ⟨b2, o', none⟩) (l.length - 1) (c2 - 1)) wx := hsl
        have HRT := Lib.hid (HRU.out.tail hlp o' rfl ho)
        obtain ⟨t, ht⟩ : ∃ t, l.tail = t := ⟨_, rfl⟩
        have htl : l.length - 1 = t.length := by rw [← ht, List.length_tail]
        rw [ht, htl] at HRT
        rw [htl] at hsl1
        have HTL := Lib.hid ht
        have HTN := Lib.hid htl
        clear hsl ho hl0 hcell2 ht htl
        go_wp2_with fail
        go_loopw [33] (fun s wx => ∃ j N1 : Nat, s = .int .i64 j ∧ j ≤ t.length ∧ Rows TI wx w.heap.size w.heap.size ls ∧ CntV Try.prog 3 wx w1.heap.size N1 (fun x => cntN (ls.take i) x + (t.take j).count x) ∧ N1 ≤ N + j ∧ Below w.heap.size w wx ∧ wx.heap.size = w1.heap.size + 1 ∧ Ri wx (.slice (some ⟨b2, o', none⟩) t.length (c2 - 1)) t) (fun s _ => t.length - (intOf s).toNat)
        case atStart => exact ⟨0, N, rfl, Nat.zero_le _, HR.out, by
          obtain ⟨f, h1, h2⟩ := HC.out
          exact ⟨f, h1, fun x => by rw [h2]; simp⟩, by omega, HB.out, HS.out, HRT.out⟩
        case round =>
          clear hcu HR HC HB HS HRT HP2 HRU
          obtain ⟨j, N1, rfl, hjl, hR, hC, hN, hB, hS, hRT⟩ := hrel
          have HR := Lib.hid hR
          have HN1 := Lib.hid hN
          have HB := Lib.hid hB
          have HS := Lib.hid hS
          have HRT := Lib.hid hRT
          clear hN hB hS
          by_cases hjt : j < t.length
          · have hjz : (j : Int) < (t.length : Int) := by omega
            obtain ⟨p4, c4, he4, _, _, hcell4⟩ := ri_form hRT
            obtain ⟨b4, o4, rfl, hcell5⟩ := hcell4 (by omega)
            simp only [Value.slice.injEq, Option.some.injEq, Addr.mk.injEq] at he4
            obtain ⟨⟨rfl, rfl, _⟩, _, rfl⟩ := he4
            have hcy := hcell5 j hjt
            obtain ⟨y, hy⟩ : ∃ y, t.getD j 0 = y := ⟨_, rfl⟩
            rw [hy] at hcy
            have HY := Lib.hid hy
            have hwf : wfI y := by
              have := HF.out.at (i := i) (j := j + 1) (by rw [HL.out]; have := HTN.out; omega)
              rw [HL.out, ← tail_getD, HTL.out, HY.out] at this
              exact this
            obtain ⟨f, hM, hfx⟩ := hC
            have HFX := Lib.hid hfx
            have hget := HGh.out _ _ _ _ hM y hwf
            rw [hfx y] at hget
            obtain ⟨v, hv⟩ : ∃ v : Int, ((cntN (ls.take i) y + (t.take j).count y : Nat) : Int) = v := ⟨_, rfl⟩
            rw [hv] at hget
            have htl := tot_take_le (i + 1) ls
            rw [tot_take hlt, HL.out] at htl
            have HTK := Lib.hid htl
            have hvb : 0 ≤ v ∧ v ≤ 1000000 := by
              have h2 := cnt_le_total y (ls.take i)
              have h3 : (t.take j).count y ≤ j := Nat.le_trans List.count_le_length (by simp; omega)
              have := HT.out
              have := HTN.out
              omega
            have hN2 : N1 < maxLen := by
              have := HT.out
              have := HTN.out
              have := HN.out
              have := HN1.out
              unfold maxLen
              omega
            have HV := Lib.hid hv
            have hwr : IntKind.i64.wrap (v + 1) = v + 1 := IntWalk.i64_in _ (by omega)
            obtain ⟨w3, hput, hM3, hT3⟩ := HUh.out _ _ _ _ hM hN2 y hwf (.int .i64 (v + 1))
            have HM3 := Lib.hid hM3
            have HTU := Lib.hid hT3
            have HIM := Lib.hid hM.isMap
            clear hy hM hfx hv hM3 hT3 hvb hcell4 hcell5 hR hRT htl hN2
            go_wp2
            go_roundw
            case rel => exact ⟨j + 1, N1 + 1, by go_num, by omega, HR.out.turn HTU.out (by omega) (by omega), ⟨_, HM3.out, fun z => by
              have := HV.out
              show _ = Value.int .i64 ((cntN (ls.take i) z + (t.take (j + 1)).count z : Nat) : Int)
              rw [count_take hjt, HY.out]
              by_cases e : z = y
              · subst e
                rw [if_pos rfl, if_pos rfl]
                simp only [Option.getD_some]
                congr 1
                omega
              · rw [if_neg e, HFX.out z, if_neg e]
                rfl⟩, by have := HN1.out; omega, HB.out.trans (HTU.out.below (by omega)), HTU.out.size.trans HS.out, HRT.out.turn HTU.out HIM.out⟩
            case measure => simp [intOf]; omega
          · have hjz : ¬ (j : Int) < (t.length : Int) := by omega
            have HC := Lib.hid hC
            clear hR hC hRT
            go_wp2
            go_roundw
            case rel => exact ⟨i + 1, N1, by go_num, by omega, HR.out, by
              obtain ⟨f, h1, h2⟩ := HC.out
              exact ⟨f, h1, fun x => by rw [h2, cnt_take hlt, HL.out, HTL.out, List.take_of_length_le (l := t) (by omega)]⟩, by rw [tot_take hlt, HL.out]; have := HN.out; have := HN1.out; have := HTN.out; omega, HB.out, HS.out⟩
            case measure => simp [intOf]; omega
    · have hlz : ¬ (i : Int) < (ls.length : Int) := by omega
      have hta : ls.take i = ls := List.take_of_length_le (by omega)
      rw [hta] at HC HN
      clear hR hta
      go_wp2
      go_step3
      go_wp2_with fail
      go_loopg [10] (total ls) (fun gk ov wx => ∃ (cur : List (List Int)) (o : List Int) (N : Nat), gk = total cur ∧ cur.length = ls.length ∧ Rows TI wx w.heap.size w.heap.size cur ∧ OI wx (w1.heap.size + 1) ov o ∧ Cnt Try.prog 3 wx w1.heap.size N cur ∧ N + total cur ≤ 200000 ∧ (mergeL ls).1 = o ++ (mergeL cur).1 ∧ (mergeL ls).2 = (mergeL cur).2 ∧ Fine cur ∧ o.length + total cur ≤ total ls ∧ Below w.heap.size w wx ∧ w1.heap.size + 1 ≤ wx.heap.size)
      case atStart => exact ⟨ls, [], N, rfl, rfl, HR.out, OW.nil _ _, HC.out, by have := HN.out; have := HT.out; omega, rfl, rfl, HF.out, by simp, HB.out, Nat.le_of_eq HS.out.symm⟩
      case round =>
        clear HR HC HN HB HS
        obtain ⟨cur, o, N2, rfl, hcl, hR, hO, hC, hN, h1, h2, hF, h4, hB, hS⟩ := hrel
        have HR := Lib.hid hR
        have HO := Lib.hid hO
        have HC := Lib.hid hC
        have HN := Lib.hid hN
        have H1 := Lib.hid h1
        have H2 := Lib.hid h2
        have HF2 := Lib.hid hF
        have H4 := Lib.hid h4
        have HB := Lib.hid hB
        have HS := Lib.hid hS
        have HCL := Lib.hid hcl
        clear hR hO hC hN h1 h2 hF h4 hB hS hcl
        go_wp2
        go_loop [10, 11, 45] (fun ov2 e s => ov2 = u10 ∧ ∃ i : Nat, s = .int .i64 i ∧ i ≤ ls.length ∧ e = .bool (allNil (cur.take i)) ∧ (cur.take i).findSome? (cand cur) = none) (fun _ _ s => ls.length - (intOf s).toNat)
        case atStart => exact ⟨rfl, 0, rfl, Nat.zero_le _, rfl, rfl⟩
        case round =>
          obtain ⟨rfl, i, rfl, hil, rfl, hno⟩ := hrel
          have HNO := Lib.hid hno
          clear hno
          by_cases hlt : i < ls.length
          · have hic : i < cur.length := by rw [HCL.out]; exact hlt
            have HIC := Lib.hid hic
            obtain ⟨u, hcu, hru, hnu⟩ := HR.out.cell (i := i) hic
            obtain ⟨l, hl⟩ : ∃ l, cur.getD i [] = l := ⟨_, rfl⟩
            rw [hl] at hru hnu
            have HL := Lib.hid hl
            have HNU := Lib.hid hnu
            obtain ⟨p2, c2, rfl, hc2, hm2, hp2⟩ := ri_form hru
            have HP2 := Lib.hid hp2
            have hlz : (i : Int) < (ls.length : Int) := by omega
            clear hru hnu hp2 hl hic
            by_cases hl0 : l.length = 0
            · obtain rfl : l = [] := List.length_eq_zero_iff.1 hl0
              clear hl0
              go_wp2
              go_round
              case rel => exact ⟨rfl, i + 1, by go_num, by omega, by rw [allNil_take HIC.out, HL.out]; simp, first_next HIC.out HNO.out (by rw [HL.out]; rfl)⟩
              case measure => simp [intOf]; omega
            · obtain ⟨b2, off2, rfl, hcell2⟩ := HP2.out (by omega)
              have hcx := hcell2 0 (by omega)
              rw [Nat.add_zero] at hcx
              obtain ⟨x, hx⟩ : ∃ x, l.getD 0 0 = x := ⟨_, rfl⟩
              rw [hx] at hcx
              have HX := Lib.hid hx
              have hlz2 : (0 : Int) < (l.length : Int) := by omega
              have hlp : 0 < l.length := by omega
              have hlq : ((l.length : Int) == 0) = false := by rw [beq_eq_false_iff_ne]; omega
              have hwf : wfI x := by rw [← hx, ← HL.out]; exact HF2.out.at (by rw [HL.out]; exact hlp)
              obtain ⟨f, hM, hfx⟩ := HC.out
              have hget := HGh.out _ _ _ _ hM x hwf
              rw [hfx x] at hget
              have hb2 : b2 < w.heap.size := (HNU.out b2 off2 none _ _ (by intro h; rw [h] at hlp; simp at hlp) rfl).1
              clear hcell2 hx hl0 hM hfx
              by_cases hct : cntN cur x = 0
              · have HMS := Lib.hid (mergeL_some (show firstL cur = some x from first_at HIC.out HNO.out (by rw [HL.out]; exact cand_yes hlp HX.out (cnt_zero.1 hct))))
                have HSL := Lib.hid (step_lt (show firstL cur = some x from first_at HIC.out HNO.out (by rw [HL.out]; exact cand_yes hlp HX.out (cnt_zero.1 hct))))
                rw [hct] at hget
                simp only [Int.natCast_zero] at hget
                clear hct
                go_wp2_with (at_builtin; go_loud (refine wpList_append_own _ rfl (.tmp 58) (.tmp 62) 24 rfl (w1.heap.size + 1) 3 i0 (.int .i64 0) 1 8 Try.underlying24 hi hz0 hz1 hz2 rfl (by decide) _ _ _ rfl (World.ownsRow.alloc HO.out _) ⟨wr.heap.size, 0, none⟩ 1 1 [.int .i64 x] rfl rfl (one_newO _ _ _) (by simp [Value.oneCell']) (by have := H4.out; have := HT.out; unfold maxLen; omega) (by have := H4.out; have := HT.out; omega) (by have := HS.out; simp; omega) ?_; intro v' w3 hown hgrow _; have HO4 := Lib.hid (OW.snoc hown); have HGR := Lib.hid hgrow; clear hown hgrow; have HB5 := Lib.hid (OW.stays HO.out HGR.out HS.out); have hl5 := (World.cell?_of_block (a := ⟨b2, off2, none⟩) (HB5.out.block b2 (by omega))).trans hcx))
                clear HGR
                have HR5 := Lib.hid (show Rows TI w3 w.heap.size w.heap.size cur from HR.out.keep (HB5.out.block _ (by omega)) (fun k hk _ => HB5.out.block k (by omega)))
                have HC5 := Lib.hid (HC.out.keep (HB5.out.block w1.heap.size (by omega)))
                have HTK := take_any w.heap.size w.heap.size w1.heap.size N2 ls.length cur x w3 HR5.out (by rw [HCL.out]; exact Nat.le_refl _) (by rw [HCL.out]; omega) HC5.out (by omega) (by omega) (by have := HN.out; omega) HF2.out
                rw [HCL.out] at HTK
                have HTK := Lib.hid HTK
                go_wp2_with fail
                refine HTK.out.mono ?_
                rintro e w4 ⟨rfl, hR6, hT6, N3, hC6, hN6⟩
                have HR6 := Lib.hid hR6
                have HC6 := Lib.hid hC6
                have HT6 := Lib.hid hT6
                have HN6 := Lib.hid hN6
                clear hR6 hC6 hT6 hN6 HTK HR5 HC5
                go_wp2
                go_roundg (total (stepM cur x))
                case measure => exact HSL.out
                case rel => exact ⟨stepM cur x, o ++ [x], N3, rfl, by rw [stepM, List.length_map]; exact HCL.out, HR6.out, HO4.out.off (fun k hk => HT6.out.other k (by omega) (by omega)), HC6.out, by have := HN6.out; have := HN.out; omega, by rw [H1.out, HMS.out]; simp, by rw [H2.out, HMS.out], HF2.out.step x, by have := H4.out; have := HSL.out; simp; omega, (HB.out.trans (HB5.out.mono (by omega))).trans (HT6.out.below (Nat.le_refl _) (by omega)), by have := HS.out; have := HB5.out.size; have := HT6.out.size; omega⟩
              · have hcz : (((cntN cur x : Nat) : Int) == 0) = false := by rw [beq_eq_false_iff_ne]; omega
                obtain ⟨v, hv⟩ : ∃ v : Int, ((cntN cur x : Nat) : Int) = v := ⟨_, rfl⟩
                rw [hv] at hget hcz
                have HCN := Lib.hid (show cand cur l = none from cand_no hlp HX.out (by
                  cases h : inTail cur x with
                  | true => rfl
                  | false => exact absurd (cnt_zero.2 h) hct))
                clear hct hv
                go_wp2
                go_round
                case rel => exact ⟨rfl, i + 1, by go_num, by omega, by rw [allNil_take HIC.out, HL.out]; cases l with | nil => simp at hlp | cons a r => simp, first_next HIC.out HNO.out (by rw [HL.out]; exact HCN.out)⟩
                case measure => simp [intOf]; omega
          · have hlz : ¬ (i : Int) < (ls.length : Int) := by omega
            have hta : cur.take i = cur := List.take_of_length_le (by rw [HCL.out]; omega)
            rw [hta]
            have HFN := Lib.hid (show firstL cur = none from by have := HNO.out; rw [hta] at this; exact this)
            have HME := Lib.hid (mergeL_none HFN.out)
            clear hta
            go_wp2
            go_ret2
            exact ⟨_, by rw [H2.out, HME.out]; rfl, by rw [H1.out, HME.out, List.append_nil]; exact HO.out.low (B' := w.heap.size) (by omega), HB.out⟩
end Go.Proofs.Ytfddcmapjnkhhaa
