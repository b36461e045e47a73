/- Layer 2: whole.Good, screeref02.Good, screeref02.Same: what they answer of a sign and a row of limbs. Layer 2: whole.made: the noughts at the end of the limbs are cut. Rows of integers in blocks of their own: 'LR': block g holds just these integers; 'Mine': a slice over the beginning of such a block, not below B0. Nothing of the program is imported. Rows that a call appends to: 'OW': the slice value v owns just these integers, in a row not below B. And reading a slice of bytes. Nothing of the program is imported. Layer 2: whole.copied: the number of these limbs with a list of its own. Layer 2: whole.cmpSizes: the sizes of two rows of limbs without noughts at their end, compared. Layer 2: whole.addSizes: the sum of two rows of limbs, place by place. Layer 2: whole.subSizes: the difference of two rows of limbs, place by place. Layer 2: screeref02.Same: what it answers of two numbers' signs and limbs. -/
import Derived.Test.YtpebnofjcodikaaGreatDoorRows
import Derived.Test.YtpebnofjcodikaaGreatDoorPRd
import Derived.Test.YtpebnofjcodikaaGreatDoorPDig
import Derived.ProofKit
import Derived.OpenShut
import Derived.OwnWalk
import Derived.Outline
import Derived.Lib.Hide
import Derived.BigQuiet
import Derived.Deep.QuietTactic
import Derived.WalkSmall
import Derived.LoopTactic
import Derived.BigRegion
import Derived.WalkLawsBesides
import Derived.Laws.CopyOwn
import Derived.Maps.AppendAt
namespace Go.Proofs.YtpebnofjcodikaaGreatDoor
section
open Go.ChangeShapes Go.WideShapes Go.ChangeAt Go.RowKit
set_option linter.unusedVariables false
set_option linter.unusedSimpArgs false
def goodB (neg : Bool) (ws : List Int) : Bool :=
  if ws.length = 0 then !neg else (decide (ws.length ≤ 30) && (ws.getD (ws.length - 1) 0 != 0 && ws.all (fun d => decide (d < 1000000000000000000))))
theorem rd_form {w : World} {u : Value} {ws : List Int} (h : Rd w u ws) : ∃ p c, u = .slice p ws.length c ∧ ws.length ≤ c ∧ ws.length ≤ 17592186043904 ∧
    (0 < ws.length → ∃ b off, p = some ⟨b, off, none⟩ ∧ ∀ i, i < ws.length → w.cell? ⟨b, off + i, none⟩ = some (.int .u64 (ws.getD i 0))) := by
  rcases h with ⟨p, rfl, rfl⟩ | ⟨b, off, c, rfl, h1, h2, h3⟩
  · exact ⟨p, 0, rfl, by simp, by simp, fun h => by simp at h⟩
  · exact ⟨_, c, rfl, h1, h2, fun _ => ⟨b, off, rfl, h3⟩⟩
theorem all_of {ws : List Int} (h : ∀ i, i < ws.length → ws.getD i 0 < 1000000000000000000) : ws.all (fun d => decide (d < 1000000000000000000)) = true := by
  rw [List.all_eq_true]
  intro d hd
  obtain ⟨i, hi, e⟩ := List.getElem_of_mem hd
  have := h i hi
  rw [List.getD_eq_getElem?_getD, List.getElem?_eq_getElem hi] at this
  subst e
  simpa using this
theorem all_not {ws : List Int} {i : Nat} (hi : i < ws.length) (h : ¬ ws.getD i 0 < 1000000000000000000) : ws.all (fun d => decide (d < 1000000000000000000)) = false := by
  rw [List.all_eq_false]
  refine ⟨ws[i], List.getElem_mem hi, ?_⟩
  rw [List.getD_eq_getElem?_getD, List.getElem?_eq_getElem hi] at h
  simpa using h
theorem goodB_long {neg : Bool} {ws : List Int} (h : 30 < ws.length) : goodB neg ws = false := by
  unfold goodB; rw [if_neg (by omega), decide_eq_false (by omega)]; rfl
theorem goodB_last {neg : Bool} {ws : List Int} (hl : 0 < ws.length) (h : ws.getD (ws.length - 1) 0 = 0) : goodB neg ws = false := by
  unfold goodB; rw [if_neg (by omega), h]; simp
theorem goodB_not {neg : Bool} {ws : List Int} {i : Nat} (hi : i < ws.length) (h : ¬ ws.getD i 0 < 1000000000000000000) : goodB neg ws = false := by
  unfold goodB; rw [if_neg (by omega), all_not hi h]; simp
theorem goodB_yes {neg : Bool} {ws : List Int} (hl : 0 < ws.length) (h1 : ws.length ≤ 30) (h2 : ¬ ws.getD (ws.length - 1) 0 = 0) (h : ∀ i, i < ws.length → ws.getD i 0 < 1000000000000000000) : goodB neg ws = true := by
  unfold goodB; rw [if_neg (by omega), all_of h, decide_eq_true h1]; simpa using h2
def BoolPost (W : World) (b : Bool) (e : Ending) (w' : World) : Prop := e = .returned (.bool b) ∧ Below W.heap.size W w'
theorem BoolPost.mk {W w' : World} {b c : Bool} (h : c = b) (hb : Below W.heap.size W w') : BoolPost W b (.returned (.bool c)) w' := ⟨by rw [h], hb⟩
set_option maxRecDepth 100000 in
set_option maxHeartbeats 1000000 in
theorem good_any (neg : Bool) (u : Value) (ws : List Int) (w : World) (hr : Rd w u ws) (hf : Fit ws) :
    Calls Tryz.prog 45 #[.agg #[.bool neg, u]] w (BoolPost w (goodB neg ws)) := by
  obtain ⟨p, c, rfl, hc, hm, hp⟩ := rd_form hr
  have hbx : Below w.heap.size w (w.alloc (.cells #[.bool neg, .slice p ws.length c] 24)) := (Below.refl _ _).alloc (Nat.le_refl _) _
  have HB := Lib.hid hbx
  clear hbx
  by_cases h0 : ws.length = 0
  · have e0 : ws = [] := List.length_eq_zero_iff.1 h0
    have HG := Lib.hid (show (!neg) = goodB neg ws by rw [e0]; rfl)
    clear e0
    rw [h0] at HB ⊢
    clear hp hc hm hr h0
    go_enter Tryz.func45, Tryz.ntmps45
    go_wp2
    go_ret
    exact BoolPost.mk HG.out HB.out
  · obtain ⟨b, off, rfl, hcell⟩ := hp (by omega)
    have hl0 : (ws.length : Int) ≠ 0 := by omega
    have hl1 : ((ws.length : Int) == 0) = false := by simpa using hl0
    have hl : 1 ≤ ws.length := by omega
    clear h0 hp hl0
    by_cases h30 : ws.length ≤ 30
    · have hlast := hcell (ws.length - 1) (by omega)
      have h30b : decide ((30 : Int) < (ws.length : Int)) = false := by rw [decide_eq_false_iff_not]; omega
      have hlast' := alloc_cell hlast (.cells #[.bool neg, .slice (some ⟨b, off, none⟩) ws.length c] 24)
      by_cases hz : ws.getD (ws.length - 1) 0 = 0
      · have HG := Lib.hid (goodB_last (neg := neg) (by omega) hz)
        rw [hz] at hlast'
        clear hz hlast
        go_enter Tryz.func45, Tryz.ntmps45
        go_wp2
        go_ret
        exact BoolPost.mk HG.out.symm HB.out
      · have HZ := Lib.hid hz
        have hz2 : (ws.getD (ws.length - 1) 0 == 0) = false := by simpa using hz
        clear hz hlast
        generalize hq : ws.getD (ws.length - 1) 0 = q at hlast' hz2
        clear hq
        have hcl := fun i hi => alloc_cell (hcell i hi) (.cells #[.bool neg, .slice (some ⟨b, off, none⟩) ws.length c] 24)
        have HC := Lib.hid hcl
        clear hcell hcl
        go_enter Tryz.func45, Tryz.ntmps45
        go_wp2
        clear hlast' hz2
        go_loop [25] (fun i => ∃ k : Nat, i = .int .i64 k ∧ k ≤ ws.length ∧ ∀ j, j < k → ws.getD j 0 < 1000000000000000000) (fun i => ws.length - (intOf i).toNat)
        case atStart => exact ⟨0, by go_num, by omega, fun j hj => by omega⟩
        case round =>
          obtain ⟨k, rfl, hk, hall⟩ := hrel
          have HA := Lib.hid hall
          clear hall
          by_cases hlt : k < ws.length
          · have hcx := HC.out k hlt
            by_cases hbig : ws.getD k 0 < 1000000000000000000
            · have HL := Lib.hid hbig
              generalize ws.getD k 0 = x at hcx hbig
              go_wp2
              go_round
              case rel => exact ⟨k + 1, by go_num, by omega, fun j hj => by
                by_cases e : j = k
                · subst e; exact HL.out
                · exact HA.out j (by omega)⟩
              case measure => simp [intOf]; omega
            · have HG := Lib.hid (goodB_not (neg := neg) hlt hbig)
              generalize ws.getD k 0 = x at hcx hbig
              go_wp2
              go_ret
              exact BoolPost.mk HG.out.symm HB.out
          · have HG := Lib.hid (goodB_yes (neg := neg) (by omega) h30 HZ.out (fun i hi => HA.out i (by omega)))
            go_wp2
            go_ret
            exact BoolPost.mk HG.out.symm HB.out
    · have HG := Lib.hid (goodB_long (neg := neg) (show 30 < ws.length by omega))
      go_enter Tryz.func45, Tryz.ntmps45
      go_wp2
      go_ret
      exact BoolPost.mk HG.out.symm HB.out
end
section
open Go.ChangeShapes Go.WideShapes Go.ChangeAt Go.RowKit
set_option linter.unusedVariables false
set_option linter.unusedSimpArgs false
def madeV (neg : Bool) (p : Option Addr) (k : Nat) : Value := if k = 0 then .agg #[.bool false, .slice none 0 0] else .agg #[.bool neg, .slice p k k]
theorem two_setW {w : World} {B : Nat} {x0 x1 y0 y1 : Value} (h0 : w.cell? ⟨B, 0, none⟩ = some y0) (h1 : w.cell? ⟨B, 1, none⟩ = some y1) :
    ((w.setCell ⟨B, 0, none⟩ x0).setCell ⟨B, 1, none⟩ x1).cell? ⟨B, 0, none⟩ = some x0 ∧ ((w.setCell ⟨B, 0, none⟩ x0).setCell ⟨B, 1, none⟩ x1).cell? ⟨B, 1, none⟩ = some x1 := by
  have n1 : (⟨B, 1, none⟩ : Addr) ≠ ⟨B, 0, none⟩ := by simp
  have n0 : (⟨B, 0, none⟩ : Addr) ≠ ⟨B, 1, none⟩ := by simp
  exact ⟨(World.cell?_setCell_other _ _ _ _ n1).trans (World.cell?_setCell_same _ _ _ h0), World.cell?_setCell_same _ _ _ ((World.cell?_setCell_other _ _ _ _ n0).trans h1)⟩
def MadePost (W : World) (neg : Bool) (p : Option Addr) (ws : List Int) (e : Ending) (w' : World) : Prop := ∃ k, CutAt ws k ∧ e = .returned (madeV neg p k) ∧ Below W.heap.size W w'
set_option maxRecDepth 100000 in
set_option maxHeartbeats 1000000 in
theorem made_any (neg : Bool) (p : Option Addr) (c : Nat) (ws : List Int) (w : World) (hr : Rd w (.slice p ws.length c) ws) :
    Calls Tryz.prog 89 #[.bool neg, .slice p ws.length c] w (MadePost w neg p ws) := by
  obtain ⟨p', c', e0, hc, hm, hp⟩ := rd_form hr
  simp only [Value.slice.injEq, true_and] at e0
  obtain ⟨rfl, rfl⟩ := e0
  have HP := Lib.hid hp
  clear hp hr
  go_enter Tryz.func89, Tryz.ntmps89
  go_wp2
  generalize hw2 : World.alloc w _ = w2
  have HB := Lib.hid (show Below w.heap.size w w2 by rw [← hw2]; exact (Below.refl _ _).alloc (Nat.le_refl _) _)
  have hb0 : w2.cell? ⟨w.heap.size, 0, none⟩ = some (.bool false) := by rw [← hw2]; simp
  have hb1 : w2.cell? ⟨w.heap.size, 1, none⟩ = some (.slice none 0 0) := by rw [← hw2]; simp
  have hf0 : w2.frozen? ⟨w.heap.size, 0, none⟩ = false := by rw [← hw2]; simp
  have hf1 : w2.frozen? ⟨w.heap.size, 1, none⟩ = false := by rw [← hw2]; simp
  clear hw2
  go_loop [5] (fun s => ∃ k : Nat, s = .int .i64 k ∧ k ≤ ws.length ∧ ∀ j, k ≤ j → ws.getD j 0 = 0) (fun s => (intOf s).toNat)
  case atStart => exact ⟨ws.length, by go_num, Nat.le_refl _, fun j hj => by simp [List.getD_eq_getElem?_getD, List.getElem?_eq_none hj]⟩
  case round =>
    obtain ⟨k, rfl, hk, hall⟩ := hrel
    have HA := Lib.hid hall
    clear hall
    by_cases hk0 : k = 0
    · subst hk0
      have HK := Lib.hid (show CutAt ws 0 from ⟨hk, HA.out, fun h => absurd h (by omega)⟩)
      go_wp2
      have z2 := two_setW (x0 := .bool false) (x1 := .slice none 0 0) hb0 hb1
      refine bodyPost_ret (v := .agg #[.bool false, .slice none 0 0]) (by simp [results, Tryz.results89, go_sem, z2.1, z2.2]) rfl ⟨0, HK.out, rfl, ?_⟩
      exact (HB.out.setCell (by simp) _).setCell (by simp) _
    · obtain ⟨b, off, rfl, hx⟩ := HP.out (by omega)
      have e1 := below_cell HB.out (hx (k - 1) (by omega))
      clear hx
      have hk1 : 1 ≤ k := by omega
      by_cases hz : ws.getD (k - 1) 0 = 0
      · have HZ := Lib.hid hz
        rw [hz] at e1
        clear hz hk0
        go_wp2
        go_round
        case rel => exact ⟨k - 1, by go_num, by omega, fun j hj => by
          by_cases e : j = k - 1
          · subst e; exact HZ.out
          · exact HA.out j (by omega)⟩
        case measure => simp [intOf]; omega
      · have HK := Lib.hid (show CutAt ws k from ⟨hk, HA.out, fun _ => hz⟩)
        have hz2 : (ws.getD (k - 1) 0 == 0) = false := by simpa using hz
        generalize ws.getD (k - 1) 0 = x at e1 hz2
        clear hz
        have hk2 : ((k : Int) == 0) = false := by simpa using hk0
        clear hk0
        go_wp2
        have z2 := two_setW (x0 := .bool neg) (x1 := .slice (some ⟨b, off, none⟩) k k) hb0 hb1
        refine bodyPost_ret (v := .agg #[.bool neg, .slice (some ⟨b, off, none⟩) k k]) (by simp [results, Tryz.results89, go_sem, z2.1, z2.2]) rfl ⟨k, HK.out, by rw [madeV, if_neg (by omega)], ?_⟩
        exact (HB.out.setCell (by simp) _).setCell (by simp) _
end
section
section
open Go.RowKit
set_option linter.unusedSimpArgs false
set_option linter.unusedVariables false
def LR (k : IntKind) (T : TypeId) (w : World) (g : Nat) (ws : List Int) : Prop := w.heap[g]? = Option.some (.cells (ws.map (Value.int k)).toArray T (0, 0))
variable {k : IntKind} {T : TypeId} {w w' : World} {g : Nat} {ws : List Int}
theorem LR.cell (h : LR k T w g ws) {i : Nat} (hi : i < ws.length) : w.cell? ⟨g, i, Option.none⟩ = Option.some (.int k (ws.getD i 0)) := by
  unfold LR at h
  simp [World.cell?, h, hi, List.getD_eq_getElem?_getD]
theorem LR.frozen (h : LR k T w g ws) (i : Nat) : w.frozen? ⟨g, i, Option.none⟩ = false := by
  unfold LR at h
  simp [World.frozen?, h]
theorem LR.lt (h : LR k T w g ws) : g < w.heap.size := (Array.getElem?_eq_some_iff.1 h).1
theorem LR.block (h : LR k T w g ws) (e : w'.heap[g]? = w.heap[g]?) : LR k T w' g ws := e.trans h
theorem LR.keep (h : LR k T w g ws) (hb : Below w.heap.size w w') : LR k T w' g ws := h.block (hb.block _ h.lt)
theorem LR.set (h : LR k T w g ws) (i : Nat) (x : Int) : LR k T (w.setCell ⟨g, i, Option.none⟩ (.int k x)) g (ws.set i x) := by
  unfold LR at *
  simp [World.setCell, Array.getElem?_modify, h, List.map_set]
theorem LR.made (w : World) (n : Nat) : LR k T (w.alloc (.cells (madeCells #[.int k 0] n) T)) w.heap.size (List.replicate n 0) := by
  unfold LR
  have e : madeCells #[Value.int k 0] n = ((List.replicate n (0 : Int)).map (Value.int k)).toArray := by
    apply Array.ext
    · simp [madeCells]
    · intro i h1 h2; simp [madeCells, Nat.mod_one]
  rw [← e]
  exact heap_alloc_new w _
def Mine (k : IntKind) (T : TypeId) (w : World) (B0 : Nat) (u : Value) (ws : List Int) : Prop :=
  (u = .slice Option.none 0 0 ∧ ws = []) ∨ ∃ g c cur, u = .slice (Option.some ⟨g, 0, Option.none⟩) ws.length c ∧ ws.length ≤ c ∧ c ≤ Array.size cur ∧ B0 ≤ g ∧
    w.heap[g]? = Option.some (.cells cur T (0, 0)) ∧ ∀ i, i < ws.length → cur[i]? = Option.some (.int k (ws.getD i 0))
theorem Mine.nil (w : World) (B0 : Nat) : Mine k T w B0 (.slice Option.none 0 0) [] := .inl ⟨rfl, rfl⟩
theorem LR.mine (h : LR k T w g ws) {B0 : Nat} (hB : B0 ≤ g) : Mine k T w B0 (.slice (Option.some ⟨g, 0, Option.none⟩) ws.length ws.length) ws := by
  refine .inr ⟨g, ws.length, (ws.map (Value.int k)).toArray, rfl, Nat.le_refl _, by simp, hB, h, fun i hi => ?_⟩
  simp [hi, List.getD_eq_getElem?_getD]
theorem LR.mine_take (h : LR k T w g ws) {B0 : Nat} (hB : B0 ≤ g) {n : Nat} (hn : n ≤ ws.length) : Mine k T w B0 (.slice (Option.some ⟨g, 0, Option.none⟩) n n) (ws.take n) := by
  have hl : (ws.take n).length = n := by rw [List.length_take]; omega
  refine .inr ⟨g, n, (ws.map (Value.int k)).toArray, by rw [hl], by rw [hl]; exact Nat.le_refl _, by simpa using hn, hB, h, fun i hi => ?_⟩
  rw [hl] at hi
  rw [getD_take, if_pos hi]
  simp [List.getD_eq_getElem?_getD, show i < ws.length by omega]
theorem Mine.keep {B0 : Nat} {u : Value} (h : Mine k T w B0 u ws) (hb : Below w.heap.size w w') : Mine k T w' B0 u ws := by
  rcases h with h | ⟨g, c, cur, h0, h1, h2, h3, h4, h5⟩
  · exact .inl h
  · exact .inr ⟨g, c, cur, h0, h1, h2, h3, (hb.block _ (Array.getElem?_eq_some_iff.1 h4).1).trans h4, h5⟩
theorem Mine.low {B0 B1 : Nat} {u : Value} (h : Mine k T w B0 u ws) (hB : B1 ≤ B0) : Mine k T w B1 u ws := by
  rcases h with h | ⟨g, c, cur, h0, h1, h2, h3, h4, h5⟩
  · exact .inl h
  · exact .inr ⟨g, c, cur, h0, h1, h2, Nat.le_trans hB h3, h4, h5⟩
theorem Mine.rd {B0 : Nat} {u : Value} (h : Mine .u64 T w B0 u ws) (hl : ws.length ≤ 17592186043904) : Rd w u ws := by
  rcases h with ⟨rfl, rfl⟩ | ⟨g, c, cur, h0, h1, h2, h3, h4, h5⟩
  · exact .inl ⟨_, rfl, rfl⟩
  · refine .inr ⟨g, 0, c, h0, h1, hl, fun i hi => ?_⟩
    rw [Nat.zero_add]
    simp [World.cell?, h4, h5 i hi]
theorem Mine.take {B0 : Nat} {p : Option Addr} {n c m : Nat} (h : Mine k T w B0 (.slice p n c) ws) (hm : m ≤ n) (h0 : 0 < m) : Mine k T w B0 (.slice p m m) (ws.take m) := by
  rcases h with ⟨e, rfl⟩ | ⟨g, c', cur, e, h1, h2, h3, h4, h5⟩
  · simp only [Value.slice.injEq] at e; omega
  · simp only [Value.slice.injEq] at e
    obtain ⟨rfl, rfl, rfl⟩ := e
    have hl : (ws.take m).length = m := by rw [List.length_take]; omega
    refine .inr ⟨g, m, cur, by rw [hl], by rw [hl]; exact Nat.le_refl _, by omega, h3, h4, fun i hi => ?_⟩
    rw [hl] at hi
    rw [getD_take, if_pos hi]
    exact h5 i (by omega)
theorem owns_mine {B0 : Nat} {u : Value} (h : w.ownsRow B0 T 1 u ws.length (ws.map (Value.int k))) : Mine k T w B0 u ws := by
  rcases h.2 with ⟨rfl, h2⟩ | ⟨g, c, cur, rfl, hg, r1, r2, r3, r4, r5⟩
  · exact .inl ⟨rfl, List.length_eq_zero_iff.1 h2⟩
  · refine .inr ⟨g, c, cur, rfl, r2, by omega, hg, r1, fun i hi => ?_⟩
    have e := congrArg (fun l => l[i]?) r5
    simp only [List.getElem?_take, List.getElem?_map, List.getElem?_eq_getElem hi] at e
    rw [if_pos (by omega)] at e
    rw [← Array.getElem?_toList, e]
    simp [List.getD_eq_getElem?_getD, hi]
end
section
open Go.RowKit
set_option linter.unusedSimpArgs false
set_option linter.unusedVariables false
def Rb (w : World) (v : Value) (ds : List Int) : Prop :=
  (∃ p : Option Addr, v = .slice p 0 0 ∧ ds = []) ∨ ∃ b off c, v = .slice (Option.some ⟨b, off, Option.none⟩) ds.length c ∧ ds.length ≤ c ∧ ds.length ≤ 140737488355328 ∧
    ∀ i, i < ds.length → w.cell? ⟨b, off + i, Option.none⟩ = Option.some (.int .u8 (ds.getD i 0))
theorem Rb.keep {w w' : World} {v : Value} {ws : List Int} (h : Rb w v ws) (hb : Below w.heap.size w w') : Rb w' v ws := by
  rcases h with h | ⟨b, off, c, rfl, h1, h2, h3⟩
  · exact .inl h
  · exact .inr ⟨b, off, c, rfl, h1, h2, fun i hi => below_cell hb (h3 i hi)⟩
theorem rb_form {w : World} {u : Value} {ws : List Int} (h : Rb w u ws) : ∃ p c, u = .slice p ws.length c ∧ ws.length ≤ c ∧ ws.length ≤ 140737488355328 ∧
    (0 < ws.length → ∃ b off, p = Option.some ⟨b, off, Option.none⟩ ∧ ∀ i, i < ws.length → w.cell? ⟨b, off + i, Option.none⟩ = Option.some (.int .u8 (ws.getD i 0))) := by
  rcases h with ⟨p, rfl, rfl⟩ | ⟨b, off, c, rfl, h1, h2, h3⟩
  · exact ⟨p, 0, rfl, by simp, by simp, fun h => by simp at h⟩
  · exact ⟨_, c, rfl, h1, h2, fun _ => ⟨b, off, rfl, h3⟩⟩
theorem Rb.take {w : World} {p : Option Addr} {n c : Nat} {ws : List Int} (h : Rb w (.slice p n c) ws) (k : Nat) (hk : k ≤ n) : Rb w (.slice p k c) (ws.take k) := by
  rcases h with ⟨p0, h, rfl⟩ | ⟨b, off, c', h0, h1, h2, h3⟩
  · simp only [Value.slice.injEq] at h
    obtain ⟨rfl, rfl, rfl⟩ := h
    obtain rfl : k = 0 := by omega
    exact .inl ⟨p, rfl, rfl⟩
  · simp only [Value.slice.injEq] at h0
    obtain ⟨rfl, rfl, rfl⟩ := h0
    refine .inr ⟨b, off, c, by rw [List.length_take, Nat.min_eq_left hk], by rw [List.length_take]; omega, by rw [List.length_take]; omega, fun i hi => ?_⟩
    rw [List.length_take] at hi
    rw [getD_take, if_pos (by omega)]
    exact h3 i (by omega)
theorem Mine.cut {k : IntKind} {T : TypeId} {w : World} {ws : List Int} {B0 : Nat} {p : Option Addr} {n c m : Nat} (h : Mine k T w B0 (.slice p n c) ws) (hm : m ≤ n) : Mine k T w B0 (.slice p m c) (ws.take m) := by
  rcases h with ⟨e, rfl⟩ | ⟨g, c', cur, e, h1, h2, h3, h4, h5⟩
  · simp only [Value.slice.injEq] at e
    obtain ⟨rfl, rfl, rfl⟩ := e
    obtain rfl : m = 0 := by omega
    exact .inl ⟨rfl, rfl⟩
  · simp only [Value.slice.injEq] at e
    obtain ⟨rfl, rfl, rfl⟩ := e
    have hl : (ws.take m).length = m := by rw [List.length_take]; omega
    refine .inr ⟨g, c, cur, by rw [hl], by omega, h2, h3, h4, fun i hi => ?_⟩
    rw [hl] at hi
    rw [getD_take, if_pos hi]
    exact h5 i (by omega)
theorem Mine.set2 {k : IntKind} {T : TypeId} {w : World} {B0 B : Nat} {u : Value} {ws : List Int} (h : Mine k T w B0 u ws) (hB : B < B0) (x0 x1 : Value) : Mine k T ((w.setCell ⟨B, 0, Option.none⟩ x0).setCell ⟨B, 1, Option.none⟩ x1) B0 u ws := by
  rcases h with h | ⟨g, c, cur, h0, h1, h2, h3, h4, h5⟩
  · exact .inl h
  · refine .inr ⟨g, c, cur, h0, h1, h2, h3, ?_, h5⟩
    rw [Below.heap_setCell _ _ _ _ (by simp; omega), Below.heap_setCell _ _ _ _ (by simp; omega)]
    exact h4
theorem Mine.rb {T : TypeId} {w : World} {ws : List Int} {B0 : Nat} {u : Value} (h : Mine .u8 T w B0 u ws) (hl : ws.length ≤ 140737488355328) : Rb w u ws := by
  rcases h with ⟨rfl, rfl⟩ | ⟨g, c, cur, h0, h1, h2, h3, h4, h5⟩
  · exact .inl ⟨_, rfl, rfl⟩
  · refine .inr ⟨g, 0, c, h0, h1, hl, fun i hi => ?_⟩
    rw [Nat.zero_add]
    simp [World.cell?, h4, h5 i hi]
variable {k : IntKind} {T : TypeId} {w w' : World} {ws : List Int} {B : Nat} {v : Value}
def OW (k : IntKind) (T : TypeId) (w : World) (B : Nat) (v : Value) (ws : List Int) : Prop := w.ownsRow B T 1 v ws.length (ws.map (Value.int k))
theorem OW.nil (w : World) (B : Nat) : OW k T w B (.slice Option.none 0 0) [] := World.ownsRow_nil w B T 1
theorem OW.snoc {v' : Value} {x : Int} (h : w.ownsRow B T 1 v' (ws.length + 1) (ws.map (Value.int k) ++ [Value.int k x])) : OW k T w B v' (ws ++ [x]) := by
  unfold OW; simpa using h
theorem OW.keep (h : OW k T w B v ws) (hb : Below w.heap.size w w') : OW k T w' B v ws :=
  World.ownsRow.kept (row := Option.none) h ⟨hb.os, hb.tape, hb.output, hb.size, fun k hk _ => hb.block k hk⟩ (by cases v.ownBlock <;> simp)
theorem OW.grown {W : World} {o : Obj} {w1 : World} (h : OW k T w B v ws) (hB : Below W.heap.size W w) (hg : (w.alloc o).grownBy w1 v.ownBlock) (h0 : W.heap.size ≤ B) : Below W.heap.size W w1 := by
  have hl := World.ownsRow.lt h
  exact (hB.alloc hB.size _).grown hg (hB.alloc hB.size _).size (fun x hx => by have := hl x hx; omega)
/-- What an append to it leaves as it was: whatever lies below the row's bound. -/
theorem OW.stays {o : Obj} {w1 : World} (h : OW k T w B v ws) (hg : (w.alloc o).grownBy w1 v.ownBlock) (hB : B ≤ w.heap.size) : Below B w w1 := by
  have hl := World.ownsRow.lt h
  exact ((Below.refl B w).alloc hB _).grown hg (by simp; omega) (fun x hx => by have := hl x hx; omega)
theorem OW.mine (h : OW k T w B v ws) : Mine k T w B v ws := owns_mine h
theorem OW.low {B' : Nat} (h : OW k T w B v ws) (hB : B' ≤ B) : OW k T w B' v ws := by
  obtain ⟨h1, h2⟩ := h
  refine ⟨h1, ?_⟩
  rcases h2 with h2 | ⟨g, cap, cur, hv, hg, r⟩
  · exact .inl h2
  · exact .inr ⟨g, cap, cur, hv, Nat.le_trans hB hg, r⟩
theorem OW.rb (h : OW .u8 T w B v ws) (hl : ws.length ≤ 140737488355328) : Rb w v ws := by
  rcases h.mine with ⟨rfl, rfl⟩ | ⟨g, c, cur, h0, h1, h2, h3, h4, h5⟩
  · exact .inl ⟨_, rfl, rfl⟩
  · refine .inr ⟨g, 0, c, h0, h1, hl, fun i hi => ?_⟩
    rw [Nat.zero_add]
    simp [World.cell?, h4, h5 i hi]
theorem OW.rd (h : OW .u64 T w B v ws) (hl : ws.length ≤ 17592186043904) : Rd w v ws := h.mine.rd hl
theorem one_newO (w : World) (x : Value) (T : TypeId) : ∀ j u, [x][j]? = Option.some u → (w.alloc (.cells #[x] T)).cell? ((⟨w.heap.size, 0, Option.none⟩ : Addr).add j) = Option.some u := by
  intro j u hj
  obtain rfl : j = 0 := by
    rw [List.getElem?_eq_some_iff] at hj
    obtain ⟨h, _⟩ := hj
    simpa using h
  simp at hj
  subst hj
  simp [Addr.add]
end
end
section
open Go.ChangeShapes Go.WideShapes Go.ChangeAt Go.RowKit
set_option linter.unusedVariables false
set_option linter.unusedSimpArgs false
theorem infoU64 : (Tryz.prog.info? 25).map (fun i => (i.zero, i.size, i.bytes)) = some (some (.int .u64 0), 1, 8) := by kernel_rfl
theorem sizeU64 : (Tryz.prog.info? 25).map (·.size) = some 1 := by kernel_rfl
abbrev U64 : TypeId := 25
abbrev LU (w : World) (g : Nat) (ws : List Int) : Prop := LR .u64 U64 w g ws
abbrev MU (w : World) (B : Nat) (u : Value) (ws : List Int) : Prop := Mine .u64 U64 w B u ws
/-- What copy leaves of a new row of noughts. -/
theorem splice_new (n m : Nat) (ws : List Int) (hl : ws.length = n) : splice ((List.replicate (n + m) (0 : Int)).map (Value.int .u64)) 0 (ws.map (Value.int .u64)) = (ws ++ List.replicate m 0).map (Value.int .u64) := by
  unfold splice
  subst hl
  simp
theorem LU.of_splice {w : World} {g n m : Nat} {ws : List Int} (hl : ws.length = n) (h : Hid (w.heap[g]? = some (.cells (splice ((List.replicate (n + m) (0 : Int)).map (Value.int .u64)) 0 (ws.map (Value.int .u64))).toArray U64 (0, 0)))) : LU w g (ws ++ List.replicate m 0) := by
  have := h.out
  rw [splice_new n m ws hl] at this
  exact this
/-- The source of a copy, cell by cell. -/
theorem src_cells {w : World} {p : Option Addr} {ws : List Int} (hp : 0 < ws.length → ∃ b off, p = some ⟨b, off, none⟩ ∧ ∀ i, i < ws.length → w.cell? ⟨b, off + i, none⟩ = some (.int .u64 (ws.getD i 0))) (h0 : 0 < (ws.map (Value.int .u64)).length) :
    ∃ ad, p = some ad ∧ ∀ j v, (ws.map (Value.int .u64))[j]? = some v → w.cell? (ad.add j) = some v := by
  obtain ⟨b, off, rfl, hc⟩ := hp (by simpa using h0)
  refine ⟨_, rfl, fun j v hj => ?_⟩
  have hj' : j < ws.length := by
    rw [List.getElem?_eq_some_iff] at hj
    simpa using hj.1
  have := hc j hj'
  rw [show (⟨b, off, none⟩ : Addr).add j = ⟨b, off + j, none⟩ by unfold Addr.add; split <;> simp_all, this]
  rw [List.getElem?_map, List.getElem?_eq_getElem hj'] at hj
  simp only [Option.map_some, Option.some.injEq] at hj
  rw [← hj, List.getD_eq_getElem?_getD, List.getElem?_eq_getElem hj']
  rfl
theorem one_cells (ws : List Int) : ∀ v ∈ ws.map (Value.int .u64), v.oneCell' = true := by simp [Value.oneCell']
def CopiedPost (W : World) (neg : Bool) (ws : List Int) (e : Ending) (w' : World) : Prop :=
  ∃ k g, CutAt ws k ∧ W.heap.size ≤ g ∧ e = .returned (madeV neg (some ⟨g, 0, none⟩) k) ∧ LU w' g ws ∧ Below W.heap.size W w'
set_option maxRecDepth 100000 in
set_option maxHeartbeats 1000000 in
theorem copied_any (neg : Bool) (u : Value) (ws : List Int) (w : World) (hr : Rd w u ws) :
    Calls Tryz.prog 76 #[.bool neg, u] w (CopiedPost w neg ws) := by
  obtain ⟨p, c, rfl, hc, hm, hp⟩ := rd_form hr
  have HP := Lib.hid hp
  clear hp hr
  have hmk := run_make_row' (P := Tryz.prog) 22 25 (.int .u64 0) 8 Tryz.underlying22 infoU64 rfl .i64 .i64 ws.length (by omega) (by omega)
  have hg : ∀ o, ((w.alloc o).alloc (.cells (madeCells #[Value.int .u64 0] ws.length) 25)).heap[w.heap.size + 1]? = some (.cells ((List.replicate (ws.length + 0) (0 : Int)).map (Value.int .u64)).toArray 25 (0, 0)) := fun o => by
    have := LR.made (k := .u64) (T := 25) (w.alloc o) ws.length
    unfold LR at this
    simpa using this
  have HGG := Lib.hid hg
  have hbb : ∀ o, Below (w.heap.size + 1) (w.alloc o) ((w.alloc o).alloc (.cells (madeCells #[Value.int .u64 0] ws.length) 25)) := fun o => by
    have := (Below.refl (w.alloc o).heap.size (w.alloc o)).alloc (Nat.le_refl _) (.cells (madeCells #[Value.int .u64 0] ws.length) 25)
    simpa using this
  have HBB := Lib.hid hbb
  have hsrc : ∀ o o', 0 < ws.length → ∃ b off, p = some ⟨b, off, none⟩ ∧ ∀ i, i < ws.length → ((w.alloc o).alloc o').cell? ⟨b, off + i, none⟩ = some (.int .u64 (ws.getD i 0)) := fun o o' h => by
    obtain ⟨b, off, e, hx⟩ := HP.out h
    exact ⟨b, off, e, fun i hi => alloc_cell (alloc_cell (hx i hi) _) _⟩
  have HSR := Lib.hid hsrc
  clear hg hbb hsrc
  go_enter Tryz.func76, Tryz.ntmps76
  go_wp2_with (with_reducible refine wpList_copy_splice rfl (.tmp 9) (.tmp 10) 22 22 rfl 25 Tryz.underlying22 sizeU64 (some ⟨w.heap.size + 1, 0, none⟩) p ws.length ws.length ws.length c rfl rfl (w.heap.size + 1) 0 _ 25 (HGG.out _) (ws.map (Value.int .u64)) (by simp) (fun h0 => ⟨rfl, src_cells (HSR.out _ _) h0⟩) (by simp) (one_cells ws) (w.heap.size + 1) _ (HBB.out _) (Nat.le_refl _) ?_; intro w1 hrow hb1)
  have hL := LU.of_splice (m := 0) rfl hrow
  rw [List.replicate_zero, List.append_nil] at hL
  have HL := Lib.hid hL
  have hb0 := hb1.cell (p := ⟨w.heap.size, 0, none⟩) (by simp)
  have hb0' := hb1.cell (p := ⟨w.heap.size, 1, none⟩) (by simp)
  have hf0 := hb1.frozen (p := ⟨w.heap.size, 0, none⟩) (by simp)
  have hf1 := hb1.frozen (p := ⟨w.heap.size, 1, none⟩) (by simp)
  simp at hb0 hb0' hf0 hf1
  have hsz : w.heap.size + 1 < w1.heap.size := HL.out.lt
  have hR := (HL.out.mine (B0 := 0) (Nat.zero_le _)).rd hm
  have hBw := hb1.mono (show w.heap.size ≤ w.heap.size + 1 by omega)
  have HBW := Lib.hid (((Below.refl w.heap.size w).alloc (Nat.le_refl _) _).trans hBw)
  clear hL hrow hb1 hBw
  refine (made_any neg _ ws.length ws w1 hR).mono ?_
  rintro e w2 ⟨k, hk, rfl, hb2⟩
  have HK := Lib.hid hk
  have HB2 := Lib.hid (HBW.out.trans (hb2.mono (by omega)))
  have HL2 := Lib.hid (HL.out.keep hb2)
  have hc0 := below_cell hb2 hb0
  have hc1 := below_cell hb2 hb0'
  have hg0 := (hb2.frozen (p := ⟨w.heap.size, 0, none⟩) (by show w.heap.size < _; omega)).trans hf0
  have hg1 := (hb2.frozen (p := ⟨w.heap.size, 1, none⟩) (by show w.heap.size < _; omega)).trans hf1
  clear hb2 hk hR hb0 hb0' hf0 hf1 hmk HBB HGG HSR
  by_cases hk0 : k = 0
  · have HV := Lib.hid (show madeV neg (some ⟨w.heap.size + 1, 0, none⟩) k = .agg #[.bool false, .slice none 0 0] from if_pos hk0)
    rw [HV.out]
    go_wp2
    have z2 := two_setW (x0 := .bool false) (x1 := .slice none 0 0) hc0 hc1
    refine bodyPost_ret (v := .agg #[.bool false, .slice none 0 0]) (by simp [results, Tryz.results76, go_sem, z2.1, z2.2]) rfl ⟨k, w.heap.size + 1, HK.out, by omega, by rw [HV.out], ?_, (HB2.out.setCell (by simp) _).setCell (by simp) _⟩
    exact HL2.out.block ((Below.heap_setCell _ _ _ _ (by simp)).trans (Below.heap_setCell _ _ _ _ (by simp)))
  · have HV := Lib.hid (show madeV neg (some ⟨w.heap.size + 1, 0, none⟩) k = .agg #[.bool neg, .slice (some ⟨w.heap.size + 1, 0, none⟩) k k] from if_neg hk0)
    rw [HV.out]
    clear hk0
    go_wp2
    have z2 := two_setW (x0 := .bool neg) (x1 := .slice (some ⟨w.heap.size + 1, 0, none⟩) k k) hc0 hc1
    refine bodyPost_ret (v := .agg #[.bool neg, .slice (some ⟨w.heap.size + 1, 0, none⟩) k k]) (by simp [results, Tryz.results76, go_sem, z2.1, z2.2]) rfl ⟨k, w.heap.size + 1, HK.out, by omega, by rw [HV.out], ?_, (HB2.out.setCell (by simp) _).setCell (by simp) _⟩
    exact HL2.out.block ((Below.heap_setCell _ _ _ _ (by simp)).trans (Below.heap_setCell _ _ _ _ (by simp)))
end
section
open Go.ChangeShapes Go.WideShapes Go.ChangeAt Go.RowKit
set_option linter.unusedVariables false
set_option linter.unusedSimpArgs false
abbrev B18 : Int := 1000000000000000000
def CmpPost (W : World) (c : Int) (e : Ending) (w' : World) : Prop := e = .returned (.int .i64 c) ∧ Below W.heap.size W w'
theorem CmpPost.mk {W w' : World} {b c : Int} (h : c = b) (hb : Below W.heap.size W w') : CmpPost W b (.returned (.int .i64 c)) w' := ⟨by rw [h], hb⟩
set_option maxRecDepth 100000 in
set_option maxHeartbeats 1000000 in
theorem cmpSizes_any (u1 u2 : Value) (xs ys : List Int) (w : World) (h1 : Rd w u1 xs) (h2 : Rd w u2 ys) (hx : Canon B18 xs) (hy : Canon B18 ys) :
    Calls Tryz.prog 64 #[u1, u2] w (CmpPost w (cmpI (val B18 xs) (val B18 ys))) := by
  obtain ⟨p1, c1, rfl, hc1, hm1, hp1⟩ := rd_form h1
  obtain ⟨p2, c2, rfl, hc2, hm2, hp2⟩ := rd_form h2
  have HX := Lib.hid hx
  have HY := Lib.hid hy
  clear h1 h2 hc1 hc2 hx hy
  by_cases hl : xs.length = ys.length
  · have HL := Lib.hid hl
    rw [← hl] at hp2 hm2 ⊢
    have HP1 := Lib.hid hp1
    have HP2 := Lib.hid hp2
    clear hp1 hp2 hl hm2
    go_enter Tryz.func64, Tryz.ntmps64
    go_wp2
    go_loopw [20] (fun s wr => ∃ k q : Nat, s = .int .i64 k ∧ k ≤ xs.length ∧ wr = w.drewN q ∧ ∀ j, xs.length - k ≤ j → xs.getD j 0 = ys.getD j 0) (fun s _ => xs.length - (intOf s).toNat)
    case atStart => exact ⟨0, 0, by go_num, Nat.zero_le _, rfl, fun j hj => by rw [getD_len (by omega), getD_len (by have := HL.out; omega)]⟩
    case round =>
      obtain ⟨k, q, rfl, hk, rfl, hall⟩ := hrel
      have HA := Lib.hid hall
      clear hall
      by_cases hlt : k < xs.length
      · obtain ⟨b1, o1, rfl, hx⟩ := HP1.out (by omega)
        obtain ⟨b2, o2, rfl, hy⟩ := HP2.out (by omega)
        obtain ⟨d, hd⟩ : ∃ d, xs.length = d + 1 + k := ⟨xs.length - 1 - k, by omega⟩
        have HD := Lib.hid hd
        have e1 := hx d (by omega)
        have e2 := hy d (by omega)
        have hlz : (k : Int) < (xs.length : Int) := by omega
        have hdz : (xs.length : Int) - 1 - (k : Int) = (d : Int) := by omega
        have hdl : (d : Int) < (xs.length : Int) := by omega
        clear hx hy hd
        rcases Int.lt_trichotomy (xs.getD d 0) (ys.getD d 0) with h | h | h
        · have HG := Lib.hid (cmpI_lt (cmp_lt (b := B18) (by decide) HX.out.1 HY.out.1 HL.out d (by have := HD.out; omega) (fun j hj => HA.out j (by have := HD.out; omega)) h))
          generalize xs.getD d 0 = x at e1 h
          generalize ys.getD d 0 = y at e2 h
          go_wp2
          go_quiet (fail)
          go_wp2
          go_ret
          exact CmpPost.mk HG.out.symm (below_drewN (Below.refl _ _) _)
        · have HE := Lib.hid h
          rw [h] at e1
          generalize ys.getD d 0 = y at e1 e2
          clear h
          go_wp2
          go_quiet (fail)
          go_wp2
          go_roundw
          case rel => exact ⟨k + 1, _, by go_num, by omega, rfl, fun j hj => by
            by_cases e : j = d
            · subst e; exact HE.out
            · exact HA.out j (by have := HD.out; omega)⟩
          case measure => simp [intOf]; omega
        · have HG := Lib.hid (cmpI_gt (cmp_lt (b := B18) (by decide) HY.out.1 HX.out.1 HL.out.symm d (by have := HD.out; have := HL.out; omega) (fun j hj => (HA.out j (by have := HD.out; omega)).symm) h))
          have h' : ¬ xs.getD d 0 < ys.getD d 0 := by omega
          generalize xs.getD d 0 = x at e1 h h'
          generalize ys.getD d 0 = y at e2 h h'
          go_wp2
          go_quiet (fail)
          go_wp2
          go_ret
          exact CmpPost.mk HG.out.symm (below_drewN (Below.refl _ _) _)
      · have HG := Lib.hid (cmpI_eq (congrArg (val B18) (list_ext_all (xs := xs) (ys := ys) HL.out (fun i => HA.out i (by omega)))))
        go_wp2
        go_ret
        exact CmpPost.mk HG.out.symm (below_drewN (Below.refl _ _) _)
  · by_cases hlt : xs.length < ys.length
    · have HG := Lib.hid (cmpI_lt (len_lt (b := B18) (by decide) HX.out HY.out hlt))
      have hltz : (xs.length : Int) < (ys.length : Int) := by omega
      have hne : ((xs.length : Int) != (ys.length : Int)) = true := by simp; omega
      have hne2 : ¬ (xs.length : Int) = (ys.length : Int) := by omega
      clear hl
      go_enter Tryz.func64, Tryz.ntmps64
      go_wp2
      go_ret
      exact CmpPost.mk HG.out.symm (Below.refl _ _)
    · have HG := Lib.hid (cmpI_gt (len_lt (b := B18) (by decide) HY.out HX.out (by omega)))
      have hltz : ¬ (xs.length : Int) < (ys.length : Int) := by omega
      have hne : ((xs.length : Int) != (ys.length : Int)) = true := by simp; omega
      have hne2 : ¬ (xs.length : Int) = (ys.length : Int) := by omega
      clear hl
      go_enter Tryz.func64, Tryz.ntmps64
      go_wp2
      go_ret
      exact CmpPost.mk HG.out.symm (Below.refl _ _)
end
section
open Go.ChangeShapes Go.WideShapes Go.ChangeAt Go.RowKit
set_option linter.unusedVariables false
set_option linter.unusedSimpArgs false
theorem min_len (ws : List Int) (m : Nat) : (ws.map (Value.int .u64)).length = Nat.min ws.length (ws.length + m) := by
  rw [List.length_map]; exact (Nat.min_eq_left (by omega)).symm
theorem fit_len (ws : List Int) (m : Nat) : 0 + (ws.map (Value.int .u64)).length ≤ ((List.replicate (ws.length + m) (0 : Int)).map (Value.int .u64)).length := by
  simp
structure AddState (xs ys os : List Int) (k : Nat) (c : Int) : Prop where
  len : os.length = xs.length + 1
  dig : Dig B18 os
  same : ∀ j, k ≤ j → j < xs.length → os.getD j 0 = xs.getD j 0
  sum : SumAt B18 xs ys os k c
theorem getD_append_left {xs ys : List Int} {j : Nat} (h : j < xs.length) : (xs ++ ys).getD j 0 = xs.getD j 0 := by
  simp only [List.getD_eq_getElem?_getD, List.getElem?_append_left h]
theorem AddState.start {xs : List Int} (hx : Dig B18 xs) (ys : List Int) : AddState xs ys (xs ++ List.replicate 1 0) 0 0 :=
  ⟨by simp, hx.append (Dig.cons (by decide) (Dig.nil (by decide))), fun j _ hj => getD_append_left hj, SumAt.zero _ _ _ _⟩
theorem AddState.step {xs ys os : List Int} {k : Nat} {c c' d : Int} (h : AddState xs ys os k c) (hk : k < xs.length) (e : d + B18 * c' = c + xs.getD k 0 + ys.getD k 0) (hd : 0 ≤ d ∧ d < B18) : AddState xs ys (os.set k d) (k + 1) c' :=
  ⟨by rw [List.length_set]; exact h.len, h.dig.set k d hd, fun j hj hl => by rw [getD_set' _ _ _ _ (by have := h.len; omega), if_neg (by omega)]; exact h.same j (by omega) hl, h.sum.step (by have := h.len; omega) e⟩
theorem AddState.finish {xs ys os : List Int} {c : Int} (h : AddState xs ys os xs.length c) (hy : ys.length ≤ xs.length) (hc : 0 ≤ c ∧ c ≤ 1) : Dig B18 (os.set xs.length c) ∧ val B18 (os.set xs.length c) = val B18 xs + val B18 ys :=
  ⟨h.dig.set _ _ ⟨hc.1, by rw [B18]; omega⟩, h.sum.done h.len (Nat.le_refl _) hy⟩
def AddPost (W : World) (xs ys : List Int) (e : Ending) (w' : World) : Prop :=
  ∃ g os, e = .returned (.slice (some ⟨g, 0, none⟩) os.length os.length) ∧ W.heap.size ≤ g ∧ LU w' g os ∧ os.length = max xs.length ys.length + 1 ∧ Dig B18 os ∧ val B18 os = val B18 xs + val B18 ys ∧ Below W.heap.size W w'
set_option maxRecDepth 100000 in
set_option maxHeartbeats 2000000 in
theorem add_ge (u1 u2 : Value) (xs ys : List Int) (w : World) (h1 : Rd w u1 xs) (h2 : Rd w u2 ys) (hx : Dig B18 xs) (hy : Dig B18 ys) (hle : ys.length ≤ xs.length) :
    Calls Tryz.prog 83 #[u1, u2] w (AddPost w xs ys) := by
  obtain ⟨p1, c1, rfl, hc1, hm1, hp1⟩ := rd_form h1
  obtain ⟨p2, c2, rfl, hc2, hm2, hp2⟩ := rd_form h2
  have HP1 := Lib.hid hp1
  have HP2 := Lib.hid hp2
  have HX := Lib.hid hx
  have HY := Lib.hid hy
  have htest : ¬ (xs.length : Int) < (ys.length : Int) := by omega
  clear h1 h2 hc1 hc2 hx hy hp1 hp2
  have hmk := run_make_row' (P := Tryz.prog) 22 25 (.int .u64 0) 8 Tryz.underlying22 infoU64 rfl .i64 .i64 (xs.length + 1) (by omega) (by omega)
  rw [show ((xs.length + 1 : Nat) : Int) = (xs.length : Int) + 1 by omega] at hmk
  have hg : (w.alloc (.cells (madeCells #[Value.int .u64 0] (xs.length + 1)) 25)).heap[w.heap.size]? = some (.cells ((List.replicate (xs.length + 1) (0 : Int)).map (Value.int .u64)).toArray 25 (0, 0)) := LR.made (k := .u64) (T := 25) w (xs.length + 1)
  have HGG := Lib.hid hg
  have HBB := Lib.hid (show Below w.heap.size w (w.alloc (.cells (madeCells #[Value.int .u64 0] (xs.length + 1)) 25)) from (Below.refl _ _).alloc (Nat.le_refl _) _)
  have hsrc : ∀ o, 0 < xs.length → ∃ b off, p1 = some ⟨b, off, none⟩ ∧ ∀ i, i < xs.length → (w.alloc o).cell? ⟨b, off + i, none⟩ = some (.int .u64 (xs.getD i 0)) := fun o h => by
    obtain ⟨b, off, e, hx⟩ := HP1.out h
    exact ⟨b, off, e, fun i hi => alloc_cell (hx i hi) _⟩
  have HSR := Lib.hid hsrc
  clear hg hsrc
  go_enter Tryz.func83, Tryz.ntmps83
  go_wp2_with (with_reducible refine wpList_copy_splice rfl (.tmp 20) (.tmp 21) 22 22 rfl 25 Tryz.underlying22 sizeU64 (some ⟨w.heap.size, 0, none⟩) p1 (xs.length + 1) (xs.length + 1) xs.length c1 rfl rfl w.heap.size 0 _ 25 HGG.out (xs.map (Value.int .u64)) (min_len xs 1) (fun h0 => ⟨rfl, src_cells (HSR.out _) h0⟩) (fit_len xs 1) (one_cells xs) w.heap.size w HBB.out (Nat.le_refl _) ?_; intro w1 hrow hb1)
  have HL := Lib.hid (LU.of_splice (m := 1) rfl hrow)
  have HB1 := Lib.hid hb1
  clear hrow hb1 hmk HGG HBB HSR
  go_loopw [6, 25] (fun cv s wr => ∃ (k : Nat) (c : Int) (os : List Int), s = .int .i64 k ∧ cv = .int .u64 c ∧ k ≤ xs.length ∧ 0 ≤ c ∧ c ≤ 1 ∧ AddState xs ys os k c ∧ LU wr w.heap.size os ∧ Below w.heap.size w wr) (fun _ s _ => xs.length - (intOf s).toNat)
  case atStart => exact ⟨0, 0, xs ++ List.replicate 1 0, by go_num, rfl, by omega, by omega, by omega, AddState.start HX.out _, HL.out, HB1.out⟩
  case round =>
    obtain ⟨k, c, os, rfl, rfl, hk, hc0, hc1, hS, hL, hB⟩ := hrel
    have HS := Lib.hid hS
    have HL2 := Lib.hid hL
    have HB2 := Lib.hid hB
    have hol := hS.len
    clear hS hL hB
    by_cases hlt : k < xs.length
    · have hox := HL2.out.cell (i := k) (by omega)
      rw [HS.out.same k (Nat.le_refl _) hlt] at hox
      have hfr := HL2.out.frozen k
      have hbx := HX.out k
      have hby := HY.out k
      rw [B18] at hbx hby
      have hlz : (k : Int) < (xs.length : Int) := by omega
      by_cases hky : k < ys.length
      · obtain ⟨b2, o2, rfl, hyy⟩ := HP2.out (by omega)
        have hcy := below_cell HB2.out (hyy k hky)
        have hkz : (k : Int) < (ys.length : Int) := by omega
        have HN := Lib.hid (fun d c' (h : d + B18 * c' = c + xs.getD k 0 + ys.getD k 0) (hd : 0 ≤ d ∧ d < B18) => HS.out.step hlt h hd)
        generalize xs.getD k 0 = x at hox hbx HN
        generalize ys.getD k 0 = y at hcy hby HN
        clear hyy
        go_wp2
        go_roundw
        case rel => exact ⟨k + 1, _, _, by go_num, rfl, by omega, by omega, by omega, HN.out _ _ (by rw [B18]; omega) (by rw [B18]; omega), HL2.out.set k _, HB2.out.setCell (Nat.le_refl _) _⟩
        case measure => simp [intOf]; omega
      · have hkz : ¬ (k : Int) < (ys.length : Int) := by omega
        have HN := Lib.hid (fun d c' (h : d + B18 * c' = c + xs.getD k 0 + ys.getD k 0) (hd : 0 ≤ d ∧ d < B18) => HS.out.step hlt h hd)
        rw [getD_len (show ys.length ≤ k by omega)] at HN
        generalize xs.getD k 0 = x at hox hbx HN
        clear hby
        go_wp2
        go_roundw
        case rel => exact ⟨k + 1, _, _, by go_num, rfl, by omega, by omega, by omega, HN.out _ _ (by rw [B18]; omega) (by rw [B18]; omega), HL2.out.set k _, HB2.out.setCell (Nat.le_refl _) _⟩
        case measure => simp [intOf]; omega
    · obtain rfl : k = xs.length := by omega
      have hox := HL2.out.cell (i := xs.length) (by omega)
      have hfr := HL2.out.frozen xs.length
      have HE := Lib.hid (HS.out.finish (by omega) ⟨hc0, hc1⟩)
      generalize os.getD xs.length 0 = x at hox
      go_wp2
      go_ret
      refine ⟨w.heap.size, os.set xs.length c, by rw [List.length_set, hol]; rfl, Nat.le_refl _, HL2.out.set xs.length c, ?_, HE.out.1, by rw [HE.out.2], HB2.out.setCell (Nat.le_refl _) _⟩
      rw [List.length_set, hol, Nat.max_eq_left (by omega)]
set_option maxRecDepth 100000 in
set_option maxHeartbeats 2000000 in
theorem add_lt (u1 u2 : Value) (xs ys : List Int) (w : World) (h1 : Rd w u1 xs) (h2 : Rd w u2 ys) (hx : Dig B18 xs) (hy : Dig B18 ys) (hle : xs.length < ys.length) :
    Calls Tryz.prog 83 #[u1, u2] w (AddPost w xs ys) := by
  obtain ⟨p1, c1, rfl, hc1, hm1, hp1⟩ := rd_form h1
  obtain ⟨p2, c2, rfl, hc2, hm2, hp2⟩ := rd_form h2
  have HP1 := Lib.hid hp1
  have HP2 := Lib.hid hp2
  have HX := Lib.hid hx
  have HY := Lib.hid hy
  have htest : (xs.length : Int) < (ys.length : Int) := by omega
  clear h1 h2 hc1 hc2 hx hy hp1 hp2
  have hmk := run_make_row' (P := Tryz.prog) 22 25 (.int .u64 0) 8 Tryz.underlying22 infoU64 rfl .i64 .i64 (ys.length + 1) (by omega) (by omega)
  rw [show ((ys.length + 1 : Nat) : Int) = (ys.length : Int) + 1 by omega] at hmk
  have hg : (w.alloc (.cells (madeCells #[Value.int .u64 0] (ys.length + 1)) 25)).heap[w.heap.size]? = some (.cells ((List.replicate (ys.length + 1) (0 : Int)).map (Value.int .u64)).toArray 25 (0, 0)) := LR.made (k := .u64) (T := 25) w (ys.length + 1)
  have HGG := Lib.hid hg
  have HBB := Lib.hid (show Below w.heap.size w (w.alloc (.cells (madeCells #[Value.int .u64 0] (ys.length + 1)) 25)) from (Below.refl _ _).alloc (Nat.le_refl _) _)
  have hsrc : ∀ o, 0 < ys.length → ∃ b off, p2 = some ⟨b, off, none⟩ ∧ ∀ i, i < ys.length → (w.alloc o).cell? ⟨b, off + i, none⟩ = some (.int .u64 (ys.getD i 0)) := fun o h => by
    obtain ⟨b, off, e, hx⟩ := HP2.out h
    exact ⟨b, off, e, fun i hi => alloc_cell (hx i hi) _⟩
  have HSR := Lib.hid hsrc
  clear hg hsrc
  go_enter Tryz.func83, Tryz.ntmps83
  go_wp2_with (with_reducible refine wpList_copy_splice rfl (.tmp 20) (.tmp 21) 22 22 rfl 25 Tryz.underlying22 sizeU64 (some ⟨w.heap.size, 0, none⟩) p2 (ys.length + 1) (ys.length + 1) ys.length c2 rfl rfl w.heap.size 0 _ 25 HGG.out (ys.map (Value.int .u64)) (min_len ys 1) (fun h0 => ⟨rfl, src_cells (HSR.out _) h0⟩) (fit_len ys 1) (one_cells ys) w.heap.size w HBB.out (Nat.le_refl _) ?_; intro w1 hrow hb1)
  have HL := Lib.hid (LU.of_splice (m := 1) rfl hrow)
  have HB1 := Lib.hid hb1
  clear hrow hb1 hmk HGG HBB HSR
  go_loopw [6, 25] (fun cv s wr => ∃ (k : Nat) (c : Int) (os : List Int), s = .int .i64 k ∧ cv = .int .u64 c ∧ k ≤ ys.length ∧ 0 ≤ c ∧ c ≤ 1 ∧ AddState ys xs os k c ∧ LU wr w.heap.size os ∧ Below w.heap.size w wr) (fun _ s _ => ys.length - (intOf s).toNat)
  case atStart => exact ⟨0, 0, ys ++ List.replicate 1 0, by go_num, rfl, by omega, by omega, by omega, AddState.start HY.out _, HL.out, HB1.out⟩
  case round =>
    obtain ⟨k, c, os, rfl, rfl, hk, hc0, hc1, hS, hL, hB⟩ := hrel
    have HS := Lib.hid hS
    have HL2 := Lib.hid hL
    have HB2 := Lib.hid hB
    have hol := hS.len
    clear hS hL hB
    by_cases hlt : k < ys.length
    · have hox := HL2.out.cell (i := k) (by omega)
      rw [HS.out.same k (Nat.le_refl _) hlt] at hox
      have hfr := HL2.out.frozen k
      have hbx := HY.out k
      have hby := HX.out k
      rw [B18] at hbx hby
      have hlz : (k : Int) < (ys.length : Int) := by omega
      by_cases hky : k < xs.length
      · obtain ⟨b2, o2, rfl, hyy⟩ := HP1.out (by omega)
        have hcy := below_cell HB2.out (hyy k hky)
        have hkz : (k : Int) < (xs.length : Int) := by omega
        have HN := Lib.hid (fun d c' (h : d + B18 * c' = c + ys.getD k 0 + xs.getD k 0) (hd : 0 ≤ d ∧ d < B18) => HS.out.step hlt h hd)
        generalize ys.getD k 0 = x at hox hbx HN
        generalize xs.getD k 0 = y at hcy hby HN
        clear hyy
        go_wp2
        go_roundw
        case rel => exact ⟨k + 1, _, _, by go_num, rfl, by omega, by omega, by omega, HN.out _ _ (by rw [B18]; omega) (by rw [B18]; omega), HL2.out.set k _, HB2.out.setCell (Nat.le_refl _) _⟩
        case measure => simp [intOf]; omega
      · have hkz : ¬ (k : Int) < (xs.length : Int) := by omega
        have HN := Lib.hid (fun d c' (h : d + B18 * c' = c + ys.getD k 0 + xs.getD k 0) (hd : 0 ≤ d ∧ d < B18) => HS.out.step hlt h hd)
        rw [getD_len (show xs.length ≤ k by omega)] at HN
        generalize ys.getD k 0 = x at hox hbx HN
        clear hby
        go_wp2
        go_roundw
        case rel => exact ⟨k + 1, _, _, by go_num, rfl, by omega, by omega, by omega, HN.out _ _ (by rw [B18]; omega) (by rw [B18]; omega), HL2.out.set k _, HB2.out.setCell (Nat.le_refl _) _⟩
        case measure => simp [intOf]; omega
    · obtain rfl : k = ys.length := by omega
      have hox := HL2.out.cell (i := ys.length) (by omega)
      have hfr := HL2.out.frozen ys.length
      have HE := Lib.hid (HS.out.finish (by omega) ⟨hc0, hc1⟩)
      generalize os.getD ys.length 0 = x at hox
      go_wp2
      go_ret
      refine ⟨w.heap.size, os.set ys.length c, by rw [List.length_set, hol]; rfl, Nat.le_refl _, HL2.out.set ys.length c, ?_, HE.out.1, by rw [HE.out.2, Int.add_comm], HB2.out.setCell (Nat.le_refl _) _⟩
      rw [List.length_set, hol, Nat.max_eq_right (by omega)]
theorem addSizes_any (u1 u2 : Value) (xs ys : List Int) (w : World) (h1 : Rd w u1 xs) (h2 : Rd w u2 ys) (hx : Dig B18 xs) (hy : Dig B18 ys) :
    Calls Tryz.prog 83 #[u1, u2] w (AddPost w xs ys) := by
  by_cases h : ys.length ≤ xs.length
  · exact add_ge u1 u2 xs ys w h1 h2 hx hy h
  · exact add_lt u1 u2 xs ys w h1 h2 hx hy (by omega)
end
section
open Go.ChangeShapes Go.WideShapes Go.ChangeAt Go.RowKit
set_option linter.unusedVariables false
set_option linter.unusedSimpArgs false
structure SubState (xs ys os : List Int) (k : Nat) (c : Int) : Prop where
  len : os.length = xs.length
  dig : Dig B18 os
  same : ∀ j, k ≤ j → j < xs.length → os.getD j 0 = xs.getD j 0
  diff : DiffAt B18 xs ys os k c
theorem SubState.start {xs : List Int} (hx : Dig B18 xs) (ys : List Int) : SubState xs ys xs 0 0 :=
  ⟨rfl, hx, fun j _ hj => rfl, DiffAt.zero _ _ _ _⟩
theorem SubState.step {xs ys os : List Int} {k : Nat} {c c' d : Int} (h : SubState xs ys os k c) (hk : k < xs.length) (e : d - B18 * c' = xs.getD k 0 - ys.getD k 0 - c) (hd : 0 ≤ d ∧ d < B18) : SubState xs ys (os.set k d) (k + 1) c' :=
  ⟨by rw [List.length_set]; exact h.len, h.dig.set k d hd, fun j hj hl => by rw [getD_set' _ _ _ _ (by have := h.len; omega), if_neg (by omega)]; exact h.same j (by omega) hl, h.diff.step (by have := h.len; omega) e⟩
theorem SubState.finish {xs ys os : List Int} {c : Int} (h : SubState xs ys os xs.length c) (hy : ys.length ≤ xs.length) (hge : val B18 ys ≤ val B18 xs) (hc : 0 ≤ c ∧ c ≤ 1) : val B18 os = val B18 xs - val B18 ys :=
  h.diff.done (by decide) h.len (Nat.le_refl _) hy h.dig hc hge
def SubPost (W : World) (xs ys : List Int) (e : Ending) (w' : World) : Prop :=
  ∃ g os, e = .returned (.slice (some ⟨g, 0, none⟩) os.length os.length) ∧ W.heap.size ≤ g ∧ LU w' g os ∧ os.length = xs.length ∧ Dig B18 os ∧ val B18 os = val B18 xs - val B18 ys ∧ Below W.heap.size W w'
set_option maxRecDepth 100000 in
set_option maxHeartbeats 2000000 in
theorem subSizes_any (u1 u2 : Value) (xs ys : List Int) (w : World) (h1 : Rd w u1 xs) (h2 : Rd w u2 ys) (hx : Dig B18 xs) (hy : Dig B18 ys) (hle : ys.length ≤ xs.length) (hge : val B18 ys ≤ val B18 xs) :
    Calls Tryz.prog 84 #[u1, u2] w (SubPost w xs ys) := by
  obtain ⟨p1, c1, rfl, hc1, hm1, hp1⟩ := rd_form h1
  obtain ⟨p2, c2, rfl, hc2, hm2, hp2⟩ := rd_form h2
  have HP1 := Lib.hid hp1
  have HP2 := Lib.hid hp2
  have HX := Lib.hid hx
  have HY := Lib.hid hy
  have HGE := Lib.hid hge
  clear h1 h2 hc1 hc2 hx hy hp1 hp2 hge
  have hmk := run_make_row' (P := Tryz.prog) 22 25 (.int .u64 0) 8 Tryz.underlying22 infoU64 rfl .i64 .i64 xs.length (by omega) (by omega)
  have hg : (w.alloc (.cells (madeCells #[Value.int .u64 0] xs.length) 25)).heap[w.heap.size]? = some (.cells ((List.replicate (xs.length + 0) (0 : Int)).map (Value.int .u64)).toArray 25 (0, 0)) := LR.made (k := .u64) (T := 25) w xs.length
  have HGG := Lib.hid hg
  have HBB := Lib.hid (show Below w.heap.size w (w.alloc (.cells (madeCells #[Value.int .u64 0] xs.length) 25)) from (Below.refl _ _).alloc (Nat.le_refl _) _)
  have hsrc : ∀ o, 0 < xs.length → ∃ b off, p1 = some ⟨b, off, none⟩ ∧ ∀ i, i < xs.length → (w.alloc o).cell? ⟨b, off + i, none⟩ = some (.int .u64 (xs.getD i 0)) := fun o h => by
    obtain ⟨b, off, e, hx⟩ := HP1.out h
    exact ⟨b, off, e, fun i hi => alloc_cell (hx i hi) _⟩
  have HSR := Lib.hid hsrc
  clear hg hsrc
  go_enter Tryz.func84, Tryz.ntmps84
  go_wp2_with (with_reducible refine wpList_copy_splice rfl (.tmp 12) (.tmp 13) 22 22 rfl 25 Tryz.underlying22 sizeU64 (some ⟨w.heap.size, 0, none⟩) p1 xs.length xs.length xs.length c1 rfl rfl w.heap.size 0 _ 25 HGG.out (xs.map (Value.int .u64)) (by simp) (fun h0 => ⟨rfl, src_cells (HSR.out _) h0⟩) (fit_len xs 0) (one_cells xs) w.heap.size w HBB.out (Nat.le_refl _) ?_; intro w1 hrow hb1)
  have HL := Lib.hid (LU.of_splice (m := 0) rfl hrow)
  have HB1 := Lib.hid hb1
  clear hrow hb1 hmk HGG HBB HSR
  go_loopw [6, 17] (fun cv s wr => ∃ (k : Nat) (c : Int) (os : List Int), s = .int .i64 k ∧ cv = .int .u64 c ∧ k ≤ xs.length ∧ 0 ≤ c ∧ c ≤ 1 ∧ SubState xs ys os k c ∧ LU wr w.heap.size os ∧ Below w.heap.size w wr) (fun _ s _ => xs.length - (intOf s).toNat)
  case atStart => exact ⟨0, 0, xs, by go_num, rfl, by omega, by omega, by omega, SubState.start HX.out _, by have := HL.out; simpa using this, HB1.out⟩
  case round =>
    obtain ⟨k, c, os, rfl, rfl, hk, hc0, hc1, hS, hL, hB⟩ := hrel
    have HS := Lib.hid hS
    have HL2 := Lib.hid hL
    have HB2 := Lib.hid hB
    have hol := hS.len
    clear hS hL hB
    by_cases hlt : k < xs.length
    · have hox := HL2.out.cell (i := k) (by omega)
      rw [HS.out.same k (Nat.le_refl _) hlt] at hox
      have hfr := HL2.out.frozen k
      have hbx := HX.out k
      have hby := HY.out k
      rw [B18] at hbx hby
      have hlz : (k : Int) < (xs.length : Int) := by omega
      by_cases hky : k < ys.length
      · obtain ⟨b2, o2, rfl, hyy⟩ := HP2.out (by omega)
        have hcy := below_cell HB2.out (hyy k hky)
        have hkz : (k : Int) < (ys.length : Int) := by omega
        have HN := Lib.hid (fun d c' (h : d - B18 * c' = xs.getD k 0 - ys.getD k 0 - c) (hd : 0 ≤ d ∧ d < B18) => HS.out.step hlt h hd)
        generalize xs.getD k 0 = x at hox hbx HN
        generalize ys.getD k 0 = y at hcy hby HN
        clear hyy
        by_cases hbor : x < c + y
        · go_wp2
          go_roundw
          case rel => exact ⟨k + 1, 1, _, by go_num, rfl, by omega, by omega, by omega, HN.out (x + 1000000000000000000 - (c + y)) 1 (by rw [B18]; omega) (by rw [B18]; omega), by
            have := (HL2.out.set k (x + 1000000000000000000)).set k (x + 1000000000000000000 - (c + y))
            rw [List.set_set] at this
            exact this, (HB2.out.setCell (Nat.le_refl _) _).setCell (Nat.le_refl _) _⟩
          case measure => simp [intOf]; omega
        · go_wp2
          go_roundw
          case rel => exact ⟨k + 1, 0, _, by go_num, rfl, by omega, by omega, by omega, HN.out (x - (c + y)) 0 (by rw [B18]; omega) (by rw [B18]; omega), HL2.out.set k _, HB2.out.setCell (Nat.le_refl _) _⟩
          case measure => simp [intOf]; omega
      · have hkz : ¬ (k : Int) < (ys.length : Int) := by omega
        have HN := Lib.hid (fun d c' (h : d - B18 * c' = xs.getD k 0 - ys.getD k 0 - c) (hd : 0 ≤ d ∧ d < B18) => HS.out.step hlt h hd)
        rw [getD_len (show ys.length ≤ k by omega)] at HN
        generalize xs.getD k 0 = x at hox hbx HN
        clear hby
        by_cases hbor : x < c
        · go_wp2
          go_roundw
          case rel => exact ⟨k + 1, 1, _, by go_num, rfl, by omega, by omega, by omega, HN.out (x + 1000000000000000000 - (c)) 1 (by rw [B18]; omega) (by rw [B18]; omega), by
            have := (HL2.out.set k (x + 1000000000000000000)).set k (x + 1000000000000000000 - (c))
            rw [List.set_set] at this
            exact this, (HB2.out.setCell (Nat.le_refl _) _).setCell (Nat.le_refl _) _⟩
          case measure => simp [intOf]; omega
        · go_wp2
          go_roundw
          case rel => exact ⟨k + 1, 0, _, by go_num, rfl, by omega, by omega, by omega, HN.out (x - (c)) 0 (by rw [B18]; omega) (by rw [B18]; omega), HL2.out.set k _, HB2.out.setCell (Nat.le_refl _) _⟩
          case measure => simp [intOf]; omega
    · obtain rfl : k = xs.length := by omega
      have HE := Lib.hid (HS.out.finish hle HGE.out ⟨hc0, hc1⟩)
      go_wp2
      go_ret
      exact ⟨w.heap.size, os, by rw [hol]; rfl, Nat.le_refl _, HL2.out, hol, HS.out.dig, HE.out, HB2.out⟩
end
section
open Go.ChangeShapes Go.WideShapes Go.ChangeAt Go.RowKit
set_option linter.unusedVariables false
set_option linter.unusedSimpArgs false
def sameB (n1 : Bool) (xs : List Int) (n2 : Bool) (ys : List Int) : Bool := (n1 == n2) && decide (xs = ys)
theorem sameB_sign {n1 n2 : Bool} (xs ys : List Int) (h : n1 ≠ n2) : sameB n1 xs n2 ys = false := by
  unfold sameB; cases n1 <;> cases n2 <;> simp_all
theorem sameB_len {n1 n2 : Bool} {xs ys : List Int} (h : xs.length ≠ ys.length) : sameB n1 xs n2 ys = false := by
  unfold sameB; rw [decide_eq_false (fun e => h (by rw [e])), Bool.and_false]
theorem sameB_at {n1 n2 : Bool} {xs ys : List Int} (i : Nat) (h : xs.getD i 0 ≠ ys.getD i 0) : sameB n1 xs n2 ys = false := by
  unfold sameB; rw [decide_eq_false (fun e => h (by rw [e])), Bool.and_false]
theorem list_ext_getD {xs ys : List Int} (hl : xs.length = ys.length) (h : ∀ i, i < xs.length → xs.getD i 0 = ys.getD i 0) : xs = ys := by
  apply List.ext_getElem hl
  intro i h1 h2
  have := h i h1
  simpa [List.getD_eq_getElem?_getD, h1, h2] using this
theorem sameB_yes {n : Bool} {xs ys : List Int} (hl : xs.length = ys.length) (h : ∀ i, i < xs.length → xs.getD i 0 = ys.getD i 0) : sameB n xs n ys = true := by
  unfold sameB; rw [list_ext_getD hl h]; simp
set_option maxRecDepth 100000 in
set_option maxHeartbeats 1000000 in
theorem same_any (n1 n2 : Bool) (u1 u2 : Value) (xs ys : List Int) (w : World) (h1 : Rd w u1 xs) (h2 : Rd w u2 ys) :
    Calls Tryz.prog 34 #[.agg #[.bool n1, u1], .agg #[.bool n2, u2]] w (BoolPost w (sameB n1 xs n2 ys)) := by
  obtain ⟨p1, c1, rfl, hc1, hm1, hp1⟩ := rd_form h1
  obtain ⟨p2, c2, rfl, hc2, hm2, hp2⟩ := rd_form h2
  have HB := Lib.hid (show Below w.heap.size w ((w.alloc (.cells #[.bool n1, .slice p1 xs.length c1] 24)).alloc (.cells #[.bool n2, .slice p2 ys.length c2] 24)) from ((Below.refl _ _).alloc (Nat.le_refl _) _).alloc (by simp) _)
  clear h1 h2 hc1 hc2
  by_cases hs : n1 = n2
  · subst hs
    by_cases hl : xs.length = ys.length
    · have HL := Lib.hid hl
      rw [← hl] at hp2 HB hm2 ⊢
      have HP1 := Lib.hid hp1
      have HP2 := Lib.hid hp2
      clear hp1 hp2 hl hm2
      go_enter Tryz.func34, Tryz.ntmps34
      go_wp2
      generalize hw2 : World.alloc (World.alloc w _) _ = w2
      have hb0 : w2.cell? ⟨w.heap.size, 1, none⟩ = some (.slice p1 xs.length c1) := by rw [← hw2]; exact alloc_cell (by simp) _
      have hd0 : w2.cell? ⟨w.heap.size + 1, 1, none⟩ = some (.slice p2 xs.length c2) := by rw [← hw2]; simp
      rw [hw2] at HB
      clear hw2
      go_loopw [5] (fun s wr => ∃ k q : Nat, s = .int .i64 k ∧ k ≤ xs.length ∧ wr = w2.drewN q ∧ ∀ j, j < k → xs.getD j 0 = ys.getD j 0) (fun s _ => xs.length - (intOf s).toNat)
      case atStart => exact ⟨0, 0, by go_num, Nat.zero_le _, rfl, fun j hj => by omega⟩
      case round =>
        obtain ⟨k, q, rfl, hk, rfl, hall⟩ := hrel
        have HA := Lib.hid hall
        clear hall
        by_cases hlt : k < xs.length
        · obtain ⟨b1, o1, rfl, hx⟩ := HP1.out (by omega)
          obtain ⟨b2, o2, rfl, hy⟩ := HP2.out (by omega)
          have e1 := below_cell HB.out (hx k hlt)
          have e2 := below_cell HB.out (hy k hlt)
          clear hx hy
          have hlz : (k : Int) < (xs.length : Int) := by omega
          by_cases he : xs.getD k 0 = ys.getD k 0
          · have HE := Lib.hid he
            rw [he] at e1
            clear he
            go_wp2
            go_quiet (fail)
            go_wp2
            go_roundw
            case rel => exact ⟨k + 1, _, by go_num, by omega, rfl, fun j hj => by
              by_cases e : j = k
              · subst e; exact HE.out
              · exact HA.out j (by omega)⟩
            case measure => simp [intOf]; omega
          · have HG := Lib.hid (sameB_at (n1 := n1) (n2 := n1) k he)
            have hne : (xs.getD k 0 != ys.getD k 0) = true := by simpa using he
            clear he
            generalize xs.getD k 0 = x at e1 hne
            generalize ys.getD k 0 = y at e2 hne
            go_wp2
            go_quiet (fail)
            go_wp2
            go_ret
            exact BoolPost.mk HG.out.symm (below_drewN (below_drewN HB.out _) _)
        · have HG := Lib.hid (sameB_yes (n := n1) HL.out (fun i hi => HA.out i (by omega)))
          go_wp2
          go_ret
          exact BoolPost.mk HG.out.symm (below_drewN HB.out _)
    · have HG := Lib.hid (sameB_len (n1 := n1) (n2 := n1) hl)
      have hne : ((xs.length : Int) != (ys.length : Int)) = true := by simp; omega
      have hne2 : ¬ (xs.length : Int) = (ys.length : Int) := by omega
      clear hl
      go_enter Tryz.func34, Tryz.ntmps34
      go_wp2
      go_ret
      exact BoolPost.mk HG.out.symm HB.out
  · have HG := Lib.hid (sameB_sign xs ys hs)
    have hne : (n1 != n2) = true := by simpa using hs
    go_enter Tryz.func34, Tryz.ntmps34
    go_wp2
    go_ret
    exact BoolPost.mk HG.out.symm HB.out
end
end Go.Proofs.YtpebnofjcodikaaGreatDoor
