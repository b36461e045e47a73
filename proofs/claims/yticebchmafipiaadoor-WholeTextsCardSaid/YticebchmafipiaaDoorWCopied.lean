/- Layer 2: whole.copied: the number of these limbs with a list of its own. -/
import Derived.Test.YticebchmafipiaaDoorWMade
import Derived.Test.YticebchmafipiaaDoorOwn
namespace Go.Proofs.YticebchmafipiaaDoor
open Go.ChangeShapes Go.WideShapes Go.ChangeAt Go.RowKit
set_option linter.unusedVariables false
set_option linter.unusedSimpArgs false
theorem infoU64 : (Tryd.prog.info? 50).map (fun i => (i.zero, i.size, i.bytes)) = some (some (.int .u64 0), 1, 8) := by kernel_rfl
theorem sizeU64 : (Tryd.prog.info? 50).map (·.size) = some 1 := by kernel_rfl
abbrev U64 : TypeId := 50
abbrev LU (w : World) (g : Nat) (ws : List Int) : Prop := LR .u64 U64 w g ws
abbrev MU (w : World) (B : Nat) (u : Value) (ws : List Int) : Prop := Mine .u64 U64 w B u ws
/-- What copy leaves of a new row of noughts. -/
theorem splice_new (n m : Nat) (ws : List Int) (hl : ws.length = n) : splice ((List.replicate (n + m) (0 : Int)).map (Value.int .u64)) 0 (ws.map (Value.int .u64)) = (ws ++ List.replicate m 0).map (Value.int .u64) := by
  unfold splice
  subst hl
  simp
theorem LU.of_splice {w : World} {g n m : Nat} {ws : List Int} (hl : ws.length = n) (h : Hid (w.heap[g]? = some (.cells (splice ((List.replicate (n + m) (0 : Int)).map (Value.int .u64)) 0 (ws.map (Value.int .u64))).toArray U64 (0, 0)))) : LU w g (ws ++ List.replicate m 0) := by
  have := h.out
  rw [splice_new n m ws hl] at this
  exact this
/-- The source of a copy, cell by cell. -/
theorem src_cells {w : World} {p : Option Addr} {ws : List Int} (hp : 0 < ws.length → ∃ b off, p = some ⟨b, off, none⟩ ∧ ∀ i, i < ws.length → w.cell? ⟨b, off + i, none⟩ = some (.int .u64 (ws.getD i 0))) (h0 : 0 < (ws.map (Value.int .u64)).length) :
    ∃ ad, p = some ad ∧ ∀ j v, (ws.map (Value.int .u64))[j]? = some v → w.cell? (ad.add j) = some v := by
  obtain ⟨b, off, rfl, hc⟩ := hp (by simpa using h0)
  refine ⟨_, rfl, fun j v hj => ?_⟩
  have hj' : j < ws.length := by
    rw [List.getElem?_eq_some_iff] at hj
    simpa using hj.1
  have := hc j hj'
  rw [show (⟨b, off, none⟩ : Addr).add j = ⟨b, off + j, none⟩ by unfold Addr.add; split <;> simp_all, this]
  rw [List.getElem?_map, List.getElem?_eq_getElem hj'] at hj
  simp only [Option.map_some, Option.some.injEq] at hj
  rw [← hj, List.getD_eq_getElem?_getD, List.getElem?_eq_getElem hj']
  rfl
theorem one_cells (ws : List Int) : ∀ v ∈ ws.map (Value.int .u64), v.oneCell' = true := by simp [Value.oneCell']
def CopiedPost (W : World) (neg : Bool) (ws : List Int) (e : Ending) (w' : World) : Prop :=
  ∃ k g, CutAt ws k ∧ W.heap.size ≤ g ∧ e = .returned (madeV neg (some ⟨g, 0, none⟩) k) ∧ LU w' g ws ∧ Below W.heap.size W w'
set_option maxRecDepth 100000 in
set_option maxHeartbeats 1000000 in
theorem copied_any (neg : Bool) (u : Value) (ws : List Int) (w : World) (hr : Rd w u ws) :
    Calls Tryd.prog 30 #[.bool neg, u] w (CopiedPost w neg ws) := by
  obtain ⟨p, c, rfl, hc, hm, hp⟩ := rd_form hr
  have HP := Lib.hid hp
  clear hp hr
  have hmk := run_make_row' (P := Tryd.prog) 22 50 (.int .u64 0) 8 Tryd.underlying22 infoU64 rfl .i64 .i64 ws.length (by omega) (by omega)
  have hg : ∀ o, ((w.alloc o).alloc (.cells (madeCells #[Value.int .u64 0] ws.length) 50)).heap[w.heap.size + 1]? = some (.cells ((List.replicate (ws.length + 0) (0 : Int)).map (Value.int .u64)).toArray 50 (0, 0)) := fun o => by
    have := LR.made (k := .u64) (T := 50) (w.alloc o) ws.length
    unfold LR at this
    simpa using this
  have HGG := Lib.hid hg
  have hbb : ∀ o, Below (w.heap.size + 1) (w.alloc o) ((w.alloc o).alloc (.cells (madeCells #[Value.int .u64 0] ws.length) 50)) := fun o => by
    have := (Below.refl (w.alloc o).heap.size (w.alloc o)).alloc (Nat.le_refl _) (.cells (madeCells #[Value.int .u64 0] ws.length) 50)
    simpa using this
  have HBB := Lib.hid hbb
  have hsrc : ∀ o o', 0 < ws.length → ∃ b off, p = some ⟨b, off, none⟩ ∧ ∀ i, i < ws.length → ((w.alloc o).alloc o').cell? ⟨b, off + i, none⟩ = some (.int .u64 (ws.getD i 0)) := fun o o' h => by
    obtain ⟨b, off, e, hx⟩ := HP.out h
    exact ⟨b, off, e, fun i hi => alloc_cell (alloc_cell (hx i hi) _) _⟩
  have HSR := Lib.hid hsrc
  clear hg hbb hsrc
  go_enter Tryd.func30, Tryd.ntmps30
  go_wp2_with (with_reducible refine wpList_copy_splice rfl (.tmp 9) (.tmp 10) 22 22 rfl 50 Tryd.underlying22 sizeU64 (some ⟨w.heap.size + 1, 0, none⟩) p ws.length ws.length ws.length c rfl rfl (w.heap.size + 1) 0 _ 50 (HGG.out _) (ws.map (Value.int .u64)) (by simp) (fun h0 => ⟨rfl, src_cells (HSR.out _ _) h0⟩) (by simp) (one_cells ws) (w.heap.size + 1) _ (HBB.out _) (Nat.le_refl _) ?_; intro w1 hrow hb1)
  have hL := LU.of_splice (m := 0) rfl hrow
  rw [List.replicate_zero, List.append_nil] at hL
  have HL := Lib.hid hL
  have hb0 := hb1.cell (p := ⟨w.heap.size, 0, none⟩) (by simp)
  have hb0' := hb1.cell (p := ⟨w.heap.size, 1, none⟩) (by simp)
  have hf0 := hb1.frozen (p := ⟨w.heap.size, 0, none⟩) (by simp)
  have hf1 := hb1.frozen (p := ⟨w.heap.size, 1, none⟩) (by simp)
  simp at hb0 hb0' hf0 hf1
  have hsz : w.heap.size + 1 < w1.heap.size := HL.out.lt
  have hR := (HL.out.mine (B0 := 0) (Nat.zero_le _)).rd hm
  have hBw := hb1.mono (show w.heap.size ≤ w.heap.size + 1 by omega)
  have HBW := Lib.hid (((Below.refl w.heap.size w).alloc (Nat.le_refl _) _).trans hBw)
  clear hL hrow hb1 hBw
  refine (made_any neg _ ws.length ws w1 hR).mono ?_
  rintro e w2 ⟨k, hk, rfl, hb2⟩
  have HK := Lib.hid hk
  have HB2 := Lib.hid (HBW.out.trans (hb2.mono (by omega)))
  have HL2 := Lib.hid (HL.out.keep hb2)
  have hc0 := below_cell hb2 hb0
  have hc1 := below_cell hb2 hb0'
  have hg0 := (hb2.frozen (p := ⟨w.heap.size, 0, none⟩) (by show w.heap.size < _; omega)).trans hf0
  have hg1 := (hb2.frozen (p := ⟨w.heap.size, 1, none⟩) (by show w.heap.size < _; omega)).trans hf1
  clear hb2 hk hR hb0 hb0' hf0 hf1 hmk HBB HGG HSR
  by_cases hk0 : k = 0
  · have HV := Lib.hid (show madeV neg (some ⟨w.heap.size + 1, 0, none⟩) k = .agg #[.bool false, .slice none 0 0] from if_pos hk0)
    rw [HV.out]
    go_wp2
    have z2 := two_setW (x0 := .bool false) (x1 := .slice none 0 0) hc0 hc1
    refine bodyPost_ret (v := .agg #[.bool false, .slice none 0 0]) (by simp [results, Tryd.results30, go_sem, z2.1, z2.2]) rfl ⟨k, w.heap.size + 1, HK.out, by omega, by rw [HV.out], ?_, (HB2.out.setCell (by simp) _).setCell (by simp) _⟩
    exact HL2.out.block ((Below.heap_setCell _ _ _ _ (by simp)).trans (Below.heap_setCell _ _ _ _ (by simp)))
  · have HV := Lib.hid (show madeV neg (some ⟨w.heap.size + 1, 0, none⟩) k = .agg #[.bool neg, .slice (some ⟨w.heap.size + 1, 0, none⟩) k k] from if_neg hk0)
    rw [HV.out]
    clear hk0
    go_wp2
    have z2 := two_setW (x0 := .bool neg) (x1 := .slice (some ⟨w.heap.size + 1, 0, none⟩) k k) hc0 hc1
    refine bodyPost_ret (v := .agg #[.bool neg, .slice (some ⟨w.heap.size + 1, 0, none⟩) k k]) (by simp [results, Tryd.results30, go_sem, z2.1, z2.2]) rfl ⟨k, w.heap.size + 1, HK.out, by omega, by rw [HV.out], ?_, (HB2.out.setCell (by simp) _).setCell (by simp) _⟩
    exact HL2.out.block ((Below.heap_setCell _ _ _ _ (by simp)).trans (Below.heap_setCell _ _ _ _ (by simp)))
end Go.Proofs.YticebchmafipiaaDoor
