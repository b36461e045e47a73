/- Layer 2: whole.Good, screeref02.Good, screeref02.Same: what they answer of a sign and a row of limbs. Layer 2: whole.made: the noughts at the end of the limbs are cut. Layer 2: whole.copied: the number of these limbs with a list of its own. Layer 2: whole.cmpSizes: the sizes of two rows of limbs without noughts at their end, compared. Layer 2: whole.addSizes: the sum of two rows of limbs, place by place. Layer 2: whole.subSizes: the difference of two rows of limbs, place by place. Layer 2: screeref02.Same: what it answers of two numbers' signs and limbs. -/
import Derived.Test.YtbhommcpgejbfaaGreatDoorRows
import Derived.Test.YtbhommcpgejbfaaGreatDoorPRd
import Derived.Test.YtbhommcpgejbfaaGreatDoorPDig
import Derived.ProofKit
import Derived.OpenShut
import Derived.OwnWalk
import Derived.Outline
import Derived.Lib.Hide
import Derived.BigQuiet
import Derived.Deep.QuietTactic
import Derived.WalkSmall
import Derived.LoopTactic
import Derived.BigRegion
import Derived.WalkLawsBesides
import Derived.Test.YtbhommcpgejbfaaGreatDoorPOwn
namespace Go.Proofs.YtbhommcpgejbfaaGreatDoor
section
open Go.ChangeShapes Go.WideShapes Go.ChangeAt Go.RowKit
set_option linter.unusedVariables false
set_option linter.unusedSimpArgs false
def goodB (neg : Bool) (ws : List Int) : Bool :=
  if ws.length = 0 then !neg else (decide (ws.length ≤ 30) && (ws.getD (ws.length - 1) 0 != 0 && ws.all (fun d => decide (d < 1000000000000000000))))
theorem rd_form {w : World} {u : Value} {ws : List Int} (h : Rd w u ws) : ∃ p c, u = .slice p ws.length c ∧ ws.length ≤ c ∧ ws.length ≤ 17592186043904 ∧
    (0 < ws.length → ∃ b off, p = some ⟨b, off, none⟩ ∧ ∀ i, i < ws.length → w.cell? ⟨b, off + i, none⟩ = some (.int .u64 (ws.getD i 0))) := by
  rcases h with ⟨p, rfl, rfl⟩ | ⟨b, off, c, rfl, h1, h2, h3⟩
  · exact ⟨p, 0, rfl, by simp, by simp, fun h => by simp at h⟩
  · exact ⟨_, c, rfl, h1, h2, fun _ => ⟨b, off, rfl, h3⟩⟩
theorem all_of {ws : List Int} (h : ∀ i, i < ws.length → ws.getD i 0 < 1000000000000000000) : ws.all (fun d => decide (d < 1000000000000000000)) = true := by
  rw [List.all_eq_true]
  intro d hd
  obtain ⟨i, hi, e⟩ := List.getElem_of_mem hd
  have := h i hi
  rw [List.getD_eq_getElem?_getD, List.getElem?_eq_getElem hi] at this
  subst e
  simpa using this
theorem all_not {ws : List Int} {i : Nat} (hi : i < ws.length) (h : ¬ ws.getD i 0 < 1000000000000000000) : ws.all (fun d => decide (d < 1000000000000000000)) = false := by
  rw [List.all_eq_false]
  refine ⟨ws[i], List.getElem_mem hi, ?_⟩
  rw [List.getD_eq_getElem?_getD, List.getElem?_eq_getElem hi] at h
  simpa using h
theorem goodB_nil (neg : Bool) : goodB neg [] = !neg := rfl
theorem goodB_long {neg : Bool} {ws : List Int} (h : 30 < ws.length) : goodB neg ws = false := by
  unfold goodB; rw [if_neg (by omega), decide_eq_false (by omega)]; rfl
theorem goodB_last {neg : Bool} {ws : List Int} (hl : 0 < ws.length) (h : ws.getD (ws.length - 1) 0 = 0) : goodB neg ws = false := by
  unfold goodB; rw [if_neg (by omega), h]; simp
theorem goodB_not {neg : Bool} {ws : List Int} {i : Nat} (hi : i < ws.length) (h : ¬ ws.getD i 0 < 1000000000000000000) : goodB neg ws = false := by
  unfold goodB; rw [if_neg (by omega), all_not hi h]; simp
theorem goodB_yes {neg : Bool} {ws : List Int} (hl : 0 < ws.length) (h1 : ws.length ≤ 30) (h2 : ¬ ws.getD (ws.length - 1) 0 = 0) (h : ∀ i, i < ws.length → ws.getD i 0 < 1000000000000000000) : goodB neg ws = true := by
  unfold goodB; rw [if_neg (by omega), all_of h, decide_eq_true h1]; simpa using h2
def BoolPost (W : World) (b : Bool) (e : Ending) (w' : World) : Prop := e = .returned (.bool b) ∧ Below W.heap.size W w'
theorem BoolPost.mk {W w' : World} {b c : Bool} (h : c = b) (hb : Below W.heap.size W w') : BoolPost W b (.returned (.bool c)) w' := ⟨by rw [h], hb⟩
set_option maxRecDepth 100000 in
set_option maxHeartbeats 1000000 in
theorem good_any (neg : Bool) (u : Value) (ws : List Int) (w : World) (hr : Rd w u ws) (hf : Fit ws) :
    Calls Tryz.prog 10 #[.agg #[.bool neg, u]] w (BoolPost w (goodB neg ws)) := by
  obtain ⟨p, c, rfl, hc, hm, hp⟩ := rd_form hr
  have hbx : Below w.heap.size w (w.alloc (.cells #[.bool neg, .slice p ws.length c] 25)) := (Below.refl _ _).alloc (Nat.le_refl _) _
  have HB := Lib.hid hbx
  clear hbx
  by_cases h0 : ws.length = 0
  · have e0 : ws = [] := List.length_eq_zero_iff.1 h0
    have HG := Lib.hid (show (!neg) = goodB neg ws by rw [e0]; rfl)
    clear e0
    rw [h0] at HB ⊢
    clear hp hc hm hr h0
    go_enter Tryz.func10, Tryz.ntmps10
    go_wp2
    go_ret
    exact BoolPost.mk HG.out HB.out
  · obtain ⟨b, off, rfl, hcell⟩ := hp (by omega)
    have hl0 : (ws.length : Int) ≠ 0 := by omega
    have hl1 : ((ws.length : Int) == 0) = false := by simpa using hl0
    have hl : 1 ≤ ws.length := by omega
    clear h0 hp hl0
    by_cases h30 : ws.length ≤ 30
    · have hlast := hcell (ws.length - 1) (by omega)
      have h30b : decide ((30 : Int) < (ws.length : Int)) = false := by rw [decide_eq_false_iff_not]; omega
      have hlast' := alloc_cell hlast (.cells #[.bool neg, .slice (some ⟨b, off, none⟩) ws.length c] 25)
      by_cases hz : ws.getD (ws.length - 1) 0 = 0
      · have HG := Lib.hid (goodB_last (neg := neg) (by omega) hz)
        rw [hz] at hlast'
        clear hz hlast
        go_enter Tryz.func10, Tryz.ntmps10
        go_wp2
        go_ret
        exact BoolPost.mk HG.out.symm HB.out
      · have HZ := Lib.hid hz
        have hz2 : (ws.getD (ws.length - 1) 0 == 0) = false := by simpa using hz
        clear hz hlast
        generalize hq : ws.getD (ws.length - 1) 0 = q at hlast' hz2
        clear hq
        have hcl := fun i hi => alloc_cell (hcell i hi) (.cells #[.bool neg, .slice (some ⟨b, off, none⟩) ws.length c] 25)
        have HC := Lib.hid hcl
        clear hcell hcl
        go_enter Tryz.func10, Tryz.ntmps10
        go_wp2
        clear hlast' hz2
        go_loop [25] (fun i => ∃ k : Nat, i = .int .i64 k ∧ k ≤ ws.length ∧ ∀ j, j < k → ws.getD j 0 < 1000000000000000000) (fun i => ws.length - (intOf i).toNat)
        case atStart => exact ⟨0, by go_num, by omega, fun j hj => by omega⟩
        case round =>
          obtain ⟨k, rfl, hk, hall⟩ := hrel
          have HA := Lib.hid hall
          clear hall
          by_cases hlt : k < ws.length
          · have hcx := HC.out k hlt
            by_cases hbig : ws.getD k 0 < 1000000000000000000
            · have HL := Lib.hid hbig
              generalize ws.getD k 0 = x at hcx hbig
              go_wp2
              go_round
              case rel => exact ⟨k + 1, by go_num, by omega, fun j hj => by
                by_cases e : j = k
                · subst e; exact HL.out
                · exact HA.out j (by omega)⟩
              case measure => simp [intOf]; omega
            · have HG := Lib.hid (goodB_not (neg := neg) hlt hbig)
              generalize ws.getD k 0 = x at hcx hbig
              go_wp2
              go_ret
              exact BoolPost.mk HG.out.symm HB.out
          · have HG := Lib.hid (goodB_yes (neg := neg) (by omega) h30 HZ.out (fun i hi => HA.out i (by omega)))
            go_wp2
            go_ret
            exact BoolPost.mk HG.out.symm HB.out
    · have HG := Lib.hid (goodB_long (neg := neg) (show 30 < ws.length by omega))
      go_enter Tryz.func10, Tryz.ntmps10
      go_wp2
      go_ret
      exact BoolPost.mk HG.out.symm HB.out
end
section
open Go.ChangeShapes Go.WideShapes Go.ChangeAt Go.RowKit
set_option linter.unusedVariables false
set_option linter.unusedSimpArgs false
def madeV (neg : Bool) (p : Option Addr) (k : Nat) : Value := if k = 0 then .agg #[.bool false, .slice none 0 0] else .agg #[.bool neg, .slice p k k]
theorem two_setW {w : World} {B : Nat} {x0 x1 y0 y1 : Value} (h0 : w.cell? ⟨B, 0, none⟩ = some y0) (h1 : w.cell? ⟨B, 1, none⟩ = some y1) :
    ((w.setCell ⟨B, 0, none⟩ x0).setCell ⟨B, 1, none⟩ x1).cell? ⟨B, 0, none⟩ = some x0 ∧ ((w.setCell ⟨B, 0, none⟩ x0).setCell ⟨B, 1, none⟩ x1).cell? ⟨B, 1, none⟩ = some x1 := by
  have n1 : (⟨B, 1, none⟩ : Addr) ≠ ⟨B, 0, none⟩ := by simp
  have n0 : (⟨B, 0, none⟩ : Addr) ≠ ⟨B, 1, none⟩ := by simp
  exact ⟨(World.cell?_setCell_other _ _ _ _ n1).trans (World.cell?_setCell_same _ _ _ h0), World.cell?_setCell_same _ _ _ ((World.cell?_setCell_other _ _ _ _ n0).trans h1)⟩
def MadePost (W : World) (neg : Bool) (p : Option Addr) (ws : List Int) (e : Ending) (w' : World) : Prop := ∃ k, CutAt ws k ∧ e = .returned (madeV neg p k) ∧ Below W.heap.size W w'
set_option maxRecDepth 100000 in
set_option maxHeartbeats 1000000 in
theorem made_any (neg : Bool) (p : Option Addr) (c : Nat) (ws : List Int) (w : World) (hr : Rd w (.slice p ws.length c) ws) :
    Calls Tryz.prog 53 #[.bool neg, .slice p ws.length c] w (MadePost w neg p ws) := by
  obtain ⟨p', c', e0, hc, hm, hp⟩ := rd_form hr
  simp only [Value.slice.injEq, true_and] at e0
  obtain ⟨rfl, rfl⟩ := e0
  have HP := Lib.hid hp
  clear hp hr
  go_enter Tryz.func53, Tryz.ntmps53
  go_wp2
  generalize hw2 : World.alloc w _ = w2
  have HB := Lib.hid (show Below w.heap.size w w2 by rw [← hw2]; exact (Below.refl _ _).alloc (Nat.le_refl _) _)
  have hb0 : w2.cell? ⟨w.heap.size, 0, none⟩ = some (.bool false) := by rw [← hw2]; simp
  have hb1 : w2.cell? ⟨w.heap.size, 1, none⟩ = some (.slice none 0 0) := by rw [← hw2]; simp
  have hf0 : w2.frozen? ⟨w.heap.size, 0, none⟩ = false := by rw [← hw2]; simp
  have hf1 : w2.frozen? ⟨w.heap.size, 1, none⟩ = false := by rw [← hw2]; simp
  clear hw2
  go_loop [5] (fun s => ∃ k : Nat, s = .int .i64 k ∧ k ≤ ws.length ∧ ∀ j, k ≤ j → ws.getD j 0 = 0) (fun s => (intOf s).toNat)
  case atStart => exact ⟨ws.length, by go_num, Nat.le_refl _, fun j hj => by simp [List.getD_eq_getElem?_getD, List.getElem?_eq_none hj]⟩
  case round =>
    obtain ⟨k, rfl, hk, hall⟩ := hrel
    have HA := Lib.hid hall
    clear hall
    by_cases hk0 : k = 0
    · subst hk0
      have HK := Lib.hid (show CutAt ws 0 from ⟨hk, HA.out, fun h => absurd h (by omega)⟩)
      go_wp2
      have z2 := two_setW (x0 := .bool false) (x1 := .slice none 0 0) hb0 hb1
      refine bodyPost_ret (v := .agg #[.bool false, .slice none 0 0]) (by simp [results, Tryz.results53, go_sem, z2.1, z2.2]) rfl ⟨0, HK.out, rfl, ?_⟩
      exact (HB.out.setCell (by simp) _).setCell (by simp) _
    · obtain ⟨b, off, rfl, hx⟩ := HP.out (by omega)
      have e1 := below_cell HB.out (hx (k - 1) (by omega))
      clear hx
      have hk1 : 1 ≤ k := by omega
      by_cases hz : ws.getD (k - 1) 0 = 0
      · have HZ := Lib.hid hz
        rw [hz] at e1
        clear hz hk0
        go_wp2
        go_round
        case rel => exact ⟨k - 1, by go_num, by omega, fun j hj => by
          by_cases e : j = k - 1
          · subst e; exact HZ.out
          · exact HA.out j (by omega)⟩
        case measure => simp [intOf]; omega
      · have HK := Lib.hid (show CutAt ws k from ⟨hk, HA.out, fun _ => hz⟩)
        have hz2 : (ws.getD (k - 1) 0 == 0) = false := by simpa using hz
        generalize ws.getD (k - 1) 0 = x at e1 hz2
        clear hz
        have hk2 : ((k : Int) == 0) = false := by simpa using hk0
        clear hk0
        go_wp2
        have z2 := two_setW (x0 := .bool neg) (x1 := .slice (some ⟨b, off, none⟩) k k) hb0 hb1
        refine bodyPost_ret (v := .agg #[.bool neg, .slice (some ⟨b, off, none⟩) k k]) (by simp [results, Tryz.results53, go_sem, z2.1, z2.2]) rfl ⟨k, HK.out, by rw [madeV, if_neg (by omega)], ?_⟩
        exact (HB.out.setCell (by simp) _).setCell (by simp) _
end
section
open Go.ChangeShapes Go.WideShapes Go.ChangeAt Go.RowKit
set_option linter.unusedVariables false
set_option linter.unusedSimpArgs false
theorem infoU64 : (Tryz.prog.info? 22).map (fun i => (i.zero, i.size, i.bytes)) = some (some (.int .u64 0), 1, 8) := by kernel_rfl
theorem sizeU64 : (Tryz.prog.info? 22).map (·.size) = some 1 := by kernel_rfl
abbrev U64 : TypeId := 22
abbrev LU (w : World) (g : Nat) (ws : List Int) : Prop := LR .u64 U64 w g ws
abbrev MU (w : World) (B : Nat) (u : Value) (ws : List Int) : Prop := Mine .u64 U64 w B u ws
/-- What copy leaves of a new row of noughts. -/
theorem splice_new (n m : Nat) (ws : List Int) (hl : ws.length = n) : splice ((List.replicate (n + m) (0 : Int)).map (Value.int .u64)) 0 (ws.map (Value.int .u64)) = (ws ++ List.replicate m 0).map (Value.int .u64) := by
  unfold splice
  subst hl
  simp
theorem LU.of_splice {w : World} {g n m : Nat} {ws : List Int} (hl : ws.length = n) (h : Hid (w.heap[g]? = some (.cells (splice ((List.replicate (n + m) (0 : Int)).map (Value.int .u64)) 0 (ws.map (Value.int .u64))).toArray U64 (0, 0)))) : LU w g (ws ++ List.replicate m 0) := by
  have := h.out
  rw [splice_new n m ws hl] at this
  exact this
/-- The source of a copy, cell by cell. -/
theorem src_cells {w : World} {p : Option Addr} {ws : List Int} (hp : 0 < ws.length → ∃ b off, p = some ⟨b, off, none⟩ ∧ ∀ i, i < ws.length → w.cell? ⟨b, off + i, none⟩ = some (.int .u64 (ws.getD i 0))) (h0 : 0 < (ws.map (Value.int .u64)).length) :
    ∃ ad, p = some ad ∧ ∀ j v, (ws.map (Value.int .u64))[j]? = some v → w.cell? (ad.add j) = some v := by
  obtain ⟨b, off, rfl, hc⟩ := hp (by simpa using h0)
  refine ⟨_, rfl, fun j v hj => ?_⟩
  have hj' : j < ws.length := by
    rw [List.getElem?_eq_some_iff] at hj
    simpa using hj.1
  have := hc j hj'
  rw [show (⟨b, off, none⟩ : Addr).add j = ⟨b, off + j, none⟩ by unfold Addr.add; split <;> simp_all, this]
  rw [List.getElem?_map, List.getElem?_eq_getElem hj'] at hj
  simp only [Option.map_some, Option.some.injEq] at hj
  rw [← hj, List.getD_eq_getElem?_getD, List.getElem?_eq_getElem hj']
  rfl
theorem one_cells (ws : List Int) : ∀ v ∈ ws.map (Value.int .u64), v.oneCell' = true := by simp [Value.oneCell']
def CopiedPost (W : World) (neg : Bool) (ws : List Int) (e : Ending) (w' : World) : Prop :=
  ∃ k g, CutAt ws k ∧ W.heap.size ≤ g ∧ e = .returned (madeV neg (some ⟨g, 0, none⟩) k) ∧ LU w' g ws ∧ Below W.heap.size W w'
set_option maxRecDepth 100000 in
set_option maxHeartbeats 1000000 in
theorem copied_any (neg : Bool) (u : Value) (ws : List Int) (w : World) (hr : Rd w u ws) :
    Calls Tryz.prog 54 #[.bool neg, u] w (CopiedPost w neg ws) := by
  obtain ⟨p, c, rfl, hc, hm, hp⟩ := rd_form hr
  have HP := Lib.hid hp
  clear hp hr
  have hmk := run_make_row' (P := Tryz.prog) 23 22 (.int .u64 0) 8 Tryz.underlying23 infoU64 rfl .i64 .i64 ws.length (by omega) (by omega)
  have hg : ∀ o, ((w.alloc o).alloc (.cells (madeCells #[Value.int .u64 0] ws.length) 22)).heap[w.heap.size + 1]? = some (.cells ((List.replicate (ws.length + 0) (0 : Int)).map (Value.int .u64)).toArray 22 (0, 0)) := fun o => by
    have := LR.made (k := .u64) (T := 22) (w.alloc o) ws.length
    unfold LR at this
    simpa using this
  have HGG := Lib.hid hg
  have hbb : ∀ o, Below (w.heap.size + 1) (w.alloc o) ((w.alloc o).alloc (.cells (madeCells #[Value.int .u64 0] ws.length) 22)) := fun o => by
    have := (Below.refl (w.alloc o).heap.size (w.alloc o)).alloc (Nat.le_refl _) (.cells (madeCells #[Value.int .u64 0] ws.length) 22)
    simpa using this
  have HBB := Lib.hid hbb
  have hsrc : ∀ o o', 0 < ws.length → ∃ b off, p = some ⟨b, off, none⟩ ∧ ∀ i, i < ws.length → ((w.alloc o).alloc o').cell? ⟨b, off + i, none⟩ = some (.int .u64 (ws.getD i 0)) := fun o o' h => by
    obtain ⟨b, off, e, hx⟩ := HP.out h
    exact ⟨b, off, e, fun i hi => alloc_cell (alloc_cell (hx i hi) _) _⟩
  have HSR := Lib.hid hsrc
  clear hg hbb hsrc
  go_enter Tryz.func54, Tryz.ntmps54
  go_wp2_with (with_reducible refine wpList_copy_splice rfl (.tmp 9) (.tmp 10) 23 23 rfl 22 Tryz.underlying23 sizeU64 (some ⟨w.heap.size + 1, 0, none⟩) p ws.length ws.length ws.length c rfl rfl (w.heap.size + 1) 0 _ 22 (HGG.out _) (ws.map (Value.int .u64)) (by simp) (fun h0 => ⟨rfl, src_cells (HSR.out _ _) h0⟩) (by simp) (one_cells ws) (w.heap.size + 1) _ (HBB.out _) (Nat.le_refl _) ?_; intro w1 hrow hb1)
  have hL := LU.of_splice (m := 0) rfl hrow
  rw [List.replicate_zero, List.append_nil] at hL
  have HL := Lib.hid hL
  have hb0 := hb1.cell (p := ⟨w.heap.size, 0, none⟩) (by simp)
  have hb0' := hb1.cell (p := ⟨w.heap.size, 1, none⟩) (by simp)
  have hf0 := hb1.frozen (p := ⟨w.heap.size, 0, none⟩) (by simp)
  have hf1 := hb1.frozen (p := ⟨w.heap.size, 1, none⟩) (by simp)
  simp at hb0 hb0' hf0 hf1
  have hsz : w.heap.size + 1 < w1.heap.size := HL.out.lt
  have hR := (HL.out.mine (B0 := 0) (Nat.zero_le _)).rd hm
  have hBw := hb1.mono (show w.heap.size ≤ w.heap.size + 1 by omega)
  have HBW := Lib.hid (((Below.refl w.heap.size w).alloc (Nat.le_refl _) _).trans hBw)
  clear hL hrow hb1 hBw
  refine (made_any neg _ ws.length ws w1 hR).mono ?_
  rintro e w2 ⟨k, hk, rfl, hb2⟩
  have HK := Lib.hid hk
  have HB2 := Lib.hid (HBW.out.trans (hb2.mono (by omega)))
  have HL2 := Lib.hid (HL.out.keep hb2)
  have hc0 := below_cell hb2 hb0
  have hc1 := below_cell hb2 hb0'
  have hg0 := (hb2.frozen (p := ⟨w.heap.size, 0, none⟩) (by show w.heap.size < _; omega)).trans hf0
  have hg1 := (hb2.frozen (p := ⟨w.heap.size, 1, none⟩) (by show w.heap.size < _; omega)).trans hf1
  clear hb2 hk hR hb0 hb0' hf0 hf1 hmk HBB HGG HSR
  by_cases hk0 : k = 0
  · have HV := Lib.hid (show madeV neg (some ⟨w.heap.size + 1, 0, none⟩) k = .agg #[.bool false, .slice none 0 0] from if_pos hk0)
    rw [HV.out]
    go_wp2
    have z2 := two_setW (x0 := .bool false) (x1 := .slice none 0 0) hc0 hc1
    refine bodyPost_ret (v := .agg #[.bool false, .slice none 0 0]) (by simp [results, Tryz.results54, go_sem, z2.1, z2.2]) rfl ⟨k, w.heap.size + 1, HK.out, by omega, by rw [HV.out], ?_, (HB2.out.setCell (by simp) _).setCell (by simp) _⟩
    exact HL2.out.block ((Below.heap_setCell _ _ _ _ (by simp)).trans (Below.heap_setCell _ _ _ _ (by simp)))
  · have HV := Lib.hid (show madeV neg (some ⟨w.heap.size + 1, 0, none⟩) k = .agg #[.bool neg, .slice (some ⟨w.heap.size + 1, 0, none⟩) k k] from if_neg hk0)
    rw [HV.out]
    clear hk0
    go_wp2
    have z2 := two_setW (x0 := .bool neg) (x1 := .slice (some ⟨w.heap.size + 1, 0, none⟩) k k) hc0 hc1
    refine bodyPost_ret (v := .agg #[.bool neg, .slice (some ⟨w.heap.size + 1, 0, none⟩) k k]) (by simp [results, Tryz.results54, go_sem, z2.1, z2.2]) rfl ⟨k, w.heap.size + 1, HK.out, by omega, by rw [HV.out], ?_, (HB2.out.setCell (by simp) _).setCell (by simp) _⟩
    exact HL2.out.block ((Below.heap_setCell _ _ _ _ (by simp)).trans (Below.heap_setCell _ _ _ _ (by simp)))
end
section
open Go.ChangeShapes Go.WideShapes Go.ChangeAt Go.RowKit
set_option linter.unusedVariables false
set_option linter.unusedSimpArgs false
abbrev B18 : Int := 1000000000000000000
def CmpPost (W : World) (c : Int) (e : Ending) (w' : World) : Prop := e = .returned (.int .i64 c) ∧ Below W.heap.size W w'
theorem CmpPost.mk {W w' : World} {b c : Int} (h : c = b) (hb : Below W.heap.size W w') : CmpPost W b (.returned (.int .i64 c)) w' := ⟨by rw [h], hb⟩
end
section
open Go.ChangeShapes Go.WideShapes Go.ChangeAt Go.RowKit
set_option linter.unusedVariables false
set_option linter.unusedSimpArgs false
theorem min_len (ws : List Int) (m : Nat) : (ws.map (Value.int .u64)).length = Nat.min ws.length (ws.length + m) := by
  rw [List.length_map]; exact (Nat.min_eq_left (by omega)).symm
theorem fit_len (ws : List Int) (m : Nat) : 0 + (ws.map (Value.int .u64)).length ≤ ((List.replicate (ws.length + m) (0 : Int)).map (Value.int .u64)).length := by
  simp
structure AddState (xs ys os : List Int) (k : Nat) (c : Int) : Prop where
  len : os.length = xs.length + 1
  dig : Dig B18 os
  same : ∀ j, k ≤ j → j < xs.length → os.getD j 0 = xs.getD j 0
  sum : SumAt B18 xs ys os k c
theorem getD_append_left {xs ys : List Int} {j : Nat} (h : j < xs.length) : (xs ++ ys).getD j 0 = xs.getD j 0 := by
  simp only [List.getD_eq_getElem?_getD, List.getElem?_append_left h]
theorem AddState.start {xs : List Int} (hx : Dig B18 xs) (ys : List Int) : AddState xs ys (xs ++ List.replicate 1 0) 0 0 :=
  ⟨by simp, hx.append (Dig.cons (by decide) (Dig.nil (by decide))), fun j _ hj => getD_append_left hj, SumAt.zero _ _ _ _⟩
theorem AddState.step {xs ys os : List Int} {k : Nat} {c c' d : Int} (h : AddState xs ys os k c) (hk : k < xs.length) (e : d + B18 * c' = c + xs.getD k 0 + ys.getD k 0) (hd : 0 ≤ d ∧ d < B18) : AddState xs ys (os.set k d) (k + 1) c' :=
  ⟨by rw [List.length_set]; exact h.len, h.dig.set k d hd, fun j hj hl => by rw [getD_set' _ _ _ _ (by have := h.len; omega), if_neg (by omega)]; exact h.same j (by omega) hl, h.sum.step (by have := h.len; omega) e⟩
theorem AddState.finish {xs ys os : List Int} {c : Int} (h : AddState xs ys os xs.length c) (hy : ys.length ≤ xs.length) (hc : 0 ≤ c ∧ c ≤ 1) : Dig B18 (os.set xs.length c) ∧ val B18 (os.set xs.length c) = val B18 xs + val B18 ys :=
  ⟨h.dig.set _ _ ⟨hc.1, by rw [B18]; omega⟩, h.sum.done h.len (Nat.le_refl _) hy⟩
def AddPost (W : World) (xs ys : List Int) (e : Ending) (w' : World) : Prop :=
  ∃ g os, e = .returned (.slice (some ⟨g, 0, none⟩) os.length os.length) ∧ W.heap.size ≤ g ∧ LU w' g os ∧ os.length = max xs.length ys.length + 1 ∧ Dig B18 os ∧ val B18 os = val B18 xs + val B18 ys ∧ Below W.heap.size W w'
end
section
open Go.ChangeShapes Go.WideShapes Go.ChangeAt Go.RowKit
set_option linter.unusedVariables false
set_option linter.unusedSimpArgs false
structure SubState (xs ys os : List Int) (k : Nat) (c : Int) : Prop where
  len : os.length = xs.length
  dig : Dig B18 os
  same : ∀ j, k ≤ j → j < xs.length → os.getD j 0 = xs.getD j 0
  diff : DiffAt B18 xs ys os k c
theorem SubState.start {xs : List Int} (hx : Dig B18 xs) (ys : List Int) : SubState xs ys xs 0 0 :=
  ⟨rfl, hx, fun j _ hj => rfl, DiffAt.zero _ _ _ _⟩
theorem SubState.step {xs ys os : List Int} {k : Nat} {c c' d : Int} (h : SubState xs ys os k c) (hk : k < xs.length) (e : d - B18 * c' = xs.getD k 0 - ys.getD k 0 - c) (hd : 0 ≤ d ∧ d < B18) : SubState xs ys (os.set k d) (k + 1) c' :=
  ⟨by rw [List.length_set]; exact h.len, h.dig.set k d hd, fun j hj hl => by rw [getD_set' _ _ _ _ (by have := h.len; omega), if_neg (by omega)]; exact h.same j (by omega) hl, h.diff.step (by have := h.len; omega) e⟩
theorem SubState.finish {xs ys os : List Int} {c : Int} (h : SubState xs ys os xs.length c) (hy : ys.length ≤ xs.length) (hge : val B18 ys ≤ val B18 xs) (hc : 0 ≤ c ∧ c ≤ 1) : val B18 os = val B18 xs - val B18 ys :=
  h.diff.done (by decide) h.len (Nat.le_refl _) hy h.dig hc hge
def SubPost (W : World) (xs ys : List Int) (e : Ending) (w' : World) : Prop :=
  ∃ g os, e = .returned (.slice (some ⟨g, 0, none⟩) os.length os.length) ∧ W.heap.size ≤ g ∧ LU w' g os ∧ os.length = xs.length ∧ Dig B18 os ∧ val B18 os = val B18 xs - val B18 ys ∧ Below W.heap.size W w'
end
section
open Go.ChangeShapes Go.WideShapes Go.ChangeAt Go.RowKit
set_option linter.unusedVariables false
set_option linter.unusedSimpArgs false
def sameB (n1 : Bool) (xs : List Int) (n2 : Bool) (ys : List Int) : Bool := (n1 == n2) && decide (xs = ys)
theorem sameB_sign {n1 n2 : Bool} (xs ys : List Int) (h : n1 ≠ n2) : sameB n1 xs n2 ys = false := by
  unfold sameB; cases n1 <;> cases n2 <;> simp_all
theorem sameB_len {n1 n2 : Bool} {xs ys : List Int} (h : xs.length ≠ ys.length) : sameB n1 xs n2 ys = false := by
  unfold sameB; rw [decide_eq_false (fun e => h (by rw [e])), Bool.and_false]
theorem sameB_at {n1 n2 : Bool} {xs ys : List Int} (i : Nat) (h : xs.getD i 0 ≠ ys.getD i 0) : sameB n1 xs n2 ys = false := by
  unfold sameB; rw [decide_eq_false (fun e => h (by rw [e])), Bool.and_false]
theorem list_ext_getD {xs ys : List Int} (hl : xs.length = ys.length) (h : ∀ i, i < xs.length → xs.getD i 0 = ys.getD i 0) : xs = ys := by
  apply List.ext_getElem hl
  intro i h1 h2
  have := h i h1
  simpa [List.getD_eq_getElem?_getD, h1, h2] using this
theorem sameB_yes {n : Bool} {xs ys : List Int} (hl : xs.length = ys.length) (h : ∀ i, i < xs.length → xs.getD i 0 = ys.getD i 0) : sameB n xs n ys = true := by
  unfold sameB; rw [list_ext_getD hl h]; simp
set_option maxRecDepth 100000 in
set_option maxHeartbeats 1000000 in
theorem same_any (n1 n2 : Bool) (u1 u2 : Value) (xs ys : List Int) (w : World) (h1 : Rd w u1 xs) (h2 : Rd w u2 ys) :
    Calls Tryz.prog 9 #[.agg #[.bool n1, u1], .agg #[.bool n2, u2]] w (BoolPost w (sameB n1 xs n2 ys)) := by
  obtain ⟨p1, c1, rfl, hc1, hm1, hp1⟩ := rd_form h1
  obtain ⟨p2, c2, rfl, hc2, hm2, hp2⟩ := rd_form h2
  have HB := Lib.hid (show Below w.heap.size w ((w.alloc (.cells #[.bool n1, .slice p1 xs.length c1] 25)).alloc (.cells #[.bool n2, .slice p2 ys.length c2] 25)) from ((Below.refl _ _).alloc (Nat.le_refl _) _).alloc (by simp) _)
  clear h1 h2 hc1 hc2
  by_cases hs : n1 = n2
  · subst hs
    by_cases hl : xs.length = ys.length
    · have HL := Lib.hid hl
      rw [← hl] at hp2 HB hm2 ⊢
      have HP1 := Lib.hid hp1
      have HP2 := Lib.hid hp2
      clear hp1 hp2 hl hm2
      go_enter Tryz.func9, Tryz.ntmps9
      go_wp2
      generalize hw2 : World.alloc (World.alloc w _) _ = w2
      have hb0 : w2.cell? ⟨w.heap.size, 1, none⟩ = some (.slice p1 xs.length c1) := by rw [← hw2]; exact alloc_cell (by simp) _
      have hd0 : w2.cell? ⟨w.heap.size + 1, 1, none⟩ = some (.slice p2 xs.length c2) := by rw [← hw2]; simp
      rw [hw2] at HB
      clear hw2
      go_loopw [5] (fun s wr => ∃ k q : Nat, s = .int .i64 k ∧ k ≤ xs.length ∧ wr = w2.drewN q ∧ ∀ j, j < k → xs.getD j 0 = ys.getD j 0) (fun s _ => xs.length - (intOf s).toNat)
      case atStart => exact ⟨0, 0, by go_num, Nat.zero_le _, rfl, fun j hj => by omega⟩
      case round =>
        obtain ⟨k, q, rfl, hk, rfl, hall⟩ := hrel
        have HA := Lib.hid hall
        clear hall
        by_cases hlt : k < xs.length
        · obtain ⟨b1, o1, rfl, hx⟩ := HP1.out (by omega)
          obtain ⟨b2, o2, rfl, hy⟩ := HP2.out (by omega)
          have e1 := below_cell HB.out (hx k hlt)
          have e2 := below_cell HB.out (hy k hlt)
          clear hx hy
          have hlz : (k : Int) < (xs.length : Int) := by omega
          by_cases he : xs.getD k 0 = ys.getD k 0
          · have HE := Lib.hid he
            rw [he] at e1
            clear he
            go_wp2
            go_quiet (fail)
            go_wp2
            go_roundw
            case rel => exact ⟨k + 1, _, by go_num, by omega, rfl, fun j hj => by
              by_cases e : j = k
              · subst e; exact HE.out
              · exact HA.out j (by omega)⟩
            case measure => simp [intOf]; omega
          · have HG := Lib.hid (sameB_at (n1 := n1) (n2 := n1) k he)
            have hne : (xs.getD k 0 != ys.getD k 0) = true := by simpa using he
            clear he
            generalize xs.getD k 0 = x at e1 hne
            generalize ys.getD k 0 = y at e2 hne
            go_wp2
            go_quiet (fail)
            go_wp2
            go_ret
            exact BoolPost.mk HG.out.symm (below_drewN (below_drewN HB.out _) _)
        · have HG := Lib.hid (sameB_yes (n := n1) HL.out (fun i hi => HA.out i (by omega)))
          go_wp2
          go_ret
          exact BoolPost.mk HG.out.symm (below_drewN HB.out _)
    · have HG := Lib.hid (sameB_len (n1 := n1) (n2 := n1) hl)
      have hne : ((xs.length : Int) != (ys.length : Int)) = true := by simp; omega
      have hne2 : ¬ (xs.length : Int) = (ys.length : Int) := by omega
      clear hl
      go_enter Tryz.func9, Tryz.ntmps9
      go_wp2
      go_ret
      exact BoolPost.mk HG.out.symm HB.out
  · have HG := Lib.hid (sameB_sign xs ys hs)
    have hne : (n1 != n2) = true := by simpa using hs
    go_enter Tryz.func9, Tryz.ntmps9
    go_wp2
    go_ret
    exact BoolPost.mk HG.out.symm HB.out
end
end Go.Proofs.YtbhommcpgejbfaaGreatDoor
