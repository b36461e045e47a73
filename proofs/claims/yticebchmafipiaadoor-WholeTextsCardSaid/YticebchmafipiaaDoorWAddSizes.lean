/- Layer 2: whole.addSizes: the sum of two rows of limbs, place by place. -/
import Derived.Test.YticebchmafipiaaDoorWCopied
import Derived.Test.YticebchmafipiaaDoorWCmpSizes
namespace Go.Proofs.YticebchmafipiaaDoor
open Go.ChangeShapes Go.WideShapes Go.ChangeAt Go.RowKit
set_option linter.unusedVariables false
set_option linter.unusedSimpArgs false
theorem min_len (ws : List Int) (m : Nat) : (ws.map (Value.int .u64)).length = Nat.min ws.length (ws.length + m) := by
  rw [List.length_map]; exact (Nat.min_eq_left (by omega)).symm
theorem fit_len (ws : List Int) (m : Nat) : 0 + (ws.map (Value.int .u64)).length ≤ ((List.replicate (ws.length + m) (0 : Int)).map (Value.int .u64)).length := by
  simp
structure AddState (xs ys os : List Int) (k : Nat) (c : Int) : Prop where
  len : os.length = xs.length + 1
  dig : Dig B18 os
  same : ∀ j, k ≤ j → j < xs.length → os.getD j 0 = xs.getD j 0
  sum : SumAt B18 xs ys os k c
theorem getD_append_left {xs ys : List Int} {j : Nat} (h : j < xs.length) : (xs ++ ys).getD j 0 = xs.getD j 0 := by
  simp only [List.getD_eq_getElem?_getD, List.getElem?_append_left h]
theorem AddState.start {xs : List Int} (hx : Dig B18 xs) (ys : List Int) : AddState xs ys (xs ++ List.replicate 1 0) 0 0 :=
  ⟨by simp, hx.append (Dig.cons (by decide) (Dig.nil (by decide))), fun j _ hj => getD_append_left hj, SumAt.zero _ _ _ _⟩
theorem AddState.step {xs ys os : List Int} {k : Nat} {c c' d : Int} (h : AddState xs ys os k c) (hk : k < xs.length) (e : d + B18 * c' = c + xs.getD k 0 + ys.getD k 0) (hd : 0 ≤ d ∧ d < B18) : AddState xs ys (os.set k d) (k + 1) c' :=
  ⟨by rw [List.length_set]; exact h.len, h.dig.set k d hd, fun j hj hl => by rw [getD_set' _ _ _ _ (by have := h.len; omega), if_neg (by omega)]; exact h.same j (by omega) hl, h.sum.step (by have := h.len; omega) e⟩
theorem AddState.finish {xs ys os : List Int} {c : Int} (h : AddState xs ys os xs.length c) (hy : ys.length ≤ xs.length) (hc : 0 ≤ c ∧ c ≤ 1) : Dig B18 (os.set xs.length c) ∧ val B18 (os.set xs.length c) = val B18 xs + val B18 ys :=
  ⟨h.dig.set _ _ ⟨hc.1, by rw [B18]; omega⟩, h.sum.done h.len (Nat.le_refl _) hy⟩
def AddPost (W : World) (xs ys : List Int) (e : Ending) (w' : World) : Prop :=
  ∃ g os, e = .returned (.slice (some ⟨g, 0, none⟩) os.length os.length) ∧ W.heap.size ≤ g ∧ LU w' g os ∧ os.length = max xs.length ys.length + 1 ∧ Dig B18 os ∧ val B18 os = val B18 xs + val B18 ys ∧ Below W.heap.size W w'
set_option maxRecDepth 100000 in
set_option maxHeartbeats 2000000 in
theorem add_ge (u1 u2 : Value) (xs ys : List Int) (w : World) (h1 : Rd w u1 xs) (h2 : Rd w u2 ys) (hx : Dig B18 xs) (hy : Dig B18 ys) (hle : ys.length ≤ xs.length) :
    Calls Tryd.prog 36 #[u1, u2] w (AddPost w xs ys) := by
  obtain ⟨p1, c1, rfl, hc1, hm1, hp1⟩ := rd_form h1
  obtain ⟨p2, c2, rfl, hc2, hm2, hp2⟩ := rd_form h2
  have HP1 := Lib.hid hp1
  have HP2 := Lib.hid hp2
  have HX := Lib.hid hx
  have HY := Lib.hid hy
  have htest : ¬ (xs.length : Int) < (ys.length : Int) := by omega
  clear h1 h2 hc1 hc2 hx hy hp1 hp2
  have hmk := run_make_row' (P := Tryd.prog) 22 50 (.int .u64 0) 8 Tryd.underlying22 infoU64 rfl .i64 .i64 (xs.length + 1) (by omega) (by omega)
  rw [show ((xs.length + 1 : Nat) : Int) = (xs.length : Int) + 1 by omega] at hmk
  have hg : (w.alloc (.cells (madeCells #[Value.int .u64 0] (xs.length + 1)) 50)).heap[w.heap.size]? = some (.cells ((List.replicate (xs.length + 1) (0 : Int)).map (Value.int .u64)).toArray 50 (0, 0)) := LR.made (k := .u64) (T := 50) w (xs.length + 1)
  have HGG := Lib.hid hg
  have HBB := Lib.hid (show Below w.heap.size w (w.alloc (.cells (madeCells #[Value.int .u64 0] (xs.length + 1)) 50)) from (Below.refl _ _).alloc (Nat.le_refl _) _)
  have hsrc : ∀ o, 0 < xs.length → ∃ b off, p1 = some ⟨b, off, none⟩ ∧ ∀ i, i < xs.length → (w.alloc o).cell? ⟨b, off + i, none⟩ = some (.int .u64 (xs.getD i 0)) := fun o h => by
    obtain ⟨b, off, e, hx⟩ := HP1.out h
    exact ⟨b, off, e, fun i hi => alloc_cell (hx i hi) _⟩
  have HSR := Lib.hid hsrc
  clear hg hsrc
  go_enter Tryd.func36, Tryd.ntmps36
  go_wp2_with (with_reducible refine wpList_copy_splice rfl (.tmp 20) (.tmp 21) 22 22 rfl 50 Tryd.underlying22 sizeU64 (some ⟨w.heap.size, 0, none⟩) p1 (xs.length + 1) (xs.length + 1) xs.length c1 rfl rfl w.heap.size 0 _ 50 HGG.out (xs.map (Value.int .u64)) (min_len xs 1) (fun h0 => ⟨rfl, src_cells (HSR.out _) h0⟩) (fit_len xs 1) (one_cells xs) w.heap.size w HBB.out (Nat.le_refl _) ?_; intro w1 hrow hb1)
  have HL := Lib.hid (LU.of_splice (m := 1) rfl hrow)
  have HB1 := Lib.hid hb1
  clear hrow hb1 hmk HGG HBB HSR
  go_loopw [6, 25] (fun cv s wr => ∃ (k : Nat) (c : Int) (os : List Int), s = .int .i64 k ∧ cv = .int .u64 c ∧ k ≤ xs.length ∧ 0 ≤ c ∧ c ≤ 1 ∧ AddState xs ys os k c ∧ LU wr w.heap.size os ∧ Below w.heap.size w wr) (fun _ s _ => xs.length - (intOf s).toNat)
  case atStart => exact ⟨0, 0, xs ++ List.replicate 1 0, by go_num, rfl, by omega, by omega, by omega, AddState.start HX.out _, HL.out, HB1.out⟩
  case round =>
    obtain ⟨k, c, os, rfl, rfl, hk, hc0, hc1, hS, hL, hB⟩ := hrel
    have HS := Lib.hid hS
    have HL2 := Lib.hid hL
    have HB2 := Lib.hid hB
    have hol := hS.len
    clear hS hL hB
    by_cases hlt : k < xs.length
    · have hox := HL2.out.cell (i := k) (by omega)
      rw [HS.out.same k (Nat.le_refl _) hlt] at hox
      have hfr := HL2.out.frozen k
      have hbx := HX.out k
      have hby := HY.out k
      rw [B18] at hbx hby
      have hlz : (k : Int) < (xs.length : Int) := by omega
      by_cases hky : k < ys.length
      · obtain ⟨b2, o2, rfl, hyy⟩ := HP2.out (by omega)
        have hcy := below_cell HB2.out (hyy k hky)
        have hkz : (k : Int) < (ys.length : Int) := by omega
        have HN := Lib.hid (fun d c' (h : d + B18 * c' = c + xs.getD k 0 + ys.getD k 0) (hd : 0 ≤ d ∧ d < B18) => HS.out.step hlt h hd)
        generalize xs.getD k 0 = x at hox hbx HN
        generalize ys.getD k 0 = y at hcy hby HN
        clear hyy
        go_wp2
        go_roundw
        case rel => exact ⟨k + 1, _, _, by go_num, rfl, by omega, by omega, by omega, HN.out _ _ (by rw [B18]; omega) (by rw [B18]; omega), HL2.out.set k _, HB2.out.setCell (Nat.le_refl _) _⟩
        case measure => simp [intOf]; omega
      · have hkz : ¬ (k : Int) < (ys.length : Int) := by omega
        have HN := Lib.hid (fun d c' (h : d + B18 * c' = c + xs.getD k 0 + ys.getD k 0) (hd : 0 ≤ d ∧ d < B18) => HS.out.step hlt h hd)
        rw [getD_len (show ys.length ≤ k by omega)] at HN
        generalize xs.getD k 0 = x at hox hbx HN
        clear hby
        go_wp2
        go_roundw
        case rel => exact ⟨k + 1, _, _, by go_num, rfl, by omega, by omega, by omega, HN.out _ _ (by rw [B18]; omega) (by rw [B18]; omega), HL2.out.set k _, HB2.out.setCell (Nat.le_refl _) _⟩
        case measure => simp [intOf]; omega
    · obtain rfl : k = xs.length := by omega
      have hox := HL2.out.cell (i := xs.length) (by omega)
      have hfr := HL2.out.frozen xs.length
      have HE := Lib.hid (HS.out.finish (by omega) ⟨hc0, hc1⟩)
      generalize os.getD xs.length 0 = x at hox
      go_wp2
      go_ret
      refine ⟨w.heap.size, os.set xs.length c, by rw [List.length_set, hol]; rfl, Nat.le_refl _, HL2.out.set xs.length c, ?_, HE.out.1, by rw [HE.out.2], HB2.out.setCell (Nat.le_refl _) _⟩
      rw [List.length_set, hol, Nat.max_eq_left (by omega)]
set_option maxRecDepth 100000 in
set_option maxHeartbeats 2000000 in
theorem add_lt (u1 u2 : Value) (xs ys : List Int) (w : World) (h1 : Rd w u1 xs) (h2 : Rd w u2 ys) (hx : Dig B18 xs) (hy : Dig B18 ys) (hle : xs.length < ys.length) :
    Calls Tryd.prog 36 #[u1, u2] w (AddPost w xs ys) := by
  obtain ⟨p1, c1, rfl, hc1, hm1, hp1⟩ := rd_form h1
  obtain ⟨p2, c2, rfl, hc2, hm2, hp2⟩ := rd_form h2
  have HP1 := Lib.hid hp1
  have HP2 := Lib.hid hp2
  have HX := Lib.hid hx
  have HY := Lib.hid hy
  have htest : (xs.length : Int) < (ys.length : Int) := by omega
  clear h1 h2 hc1 hc2 hx hy hp1 hp2
  have hmk := run_make_row' (P := Tryd.prog) 22 50 (.int .u64 0) 8 Tryd.underlying22 infoU64 rfl .i64 .i64 (ys.length + 1) (by omega) (by omega)
  rw [show ((ys.length + 1 : Nat) : Int) = (ys.length : Int) + 1 by omega] at hmk
  have hg : (w.alloc (.cells (madeCells #[Value.int .u64 0] (ys.length + 1)) 50)).heap[w.heap.size]? = some (.cells ((List.replicate (ys.length + 1) (0 : Int)).map (Value.int .u64)).toArray 50 (0, 0)) := LR.made (k := .u64) (T := 50) w (ys.length + 1)
  have HGG := Lib.hid hg
  have HBB := Lib.hid (show Below w.heap.size w (w.alloc (.cells (madeCells #[Value.int .u64 0] (ys.length + 1)) 50)) from (Below.refl _ _).alloc (Nat.le_refl _) _)
  have hsrc : ∀ o, 0 < ys.length → ∃ b off, p2 = some ⟨b, off, none⟩ ∧ ∀ i, i < ys.length → (w.alloc o).cell? ⟨b, off + i, none⟩ = some (.int .u64 (ys.getD i 0)) := fun o h => by
    obtain ⟨b, off, e, hx⟩ := HP2.out h
    exact ⟨b, off, e, fun i hi => alloc_cell (hx i hi) _⟩
  have HSR := Lib.hid hsrc
  clear hg hsrc
  go_enter Tryd.func36, Tryd.ntmps36
  go_wp2_with (with_reducible refine wpList_copy_splice rfl (.tmp 20) (.tmp 21) 22 22 rfl 50 Tryd.underlying22 sizeU64 (some ⟨w.heap.size, 0, none⟩) p2 (ys.length + 1) (ys.length + 1) ys.length c2 rfl rfl w.heap.size 0 _ 50 HGG.out (ys.map (Value.int .u64)) (min_len ys 1) (fun h0 => ⟨rfl, src_cells (HSR.out _) h0⟩) (fit_len ys 1) (one_cells ys) w.heap.size w HBB.out (Nat.le_refl _) ?_; intro w1 hrow hb1)
  have HL := Lib.hid (LU.of_splice (m := 1) rfl hrow)
  have HB1 := Lib.hid hb1
  clear hrow hb1 hmk HGG HBB HSR
  go_loopw [6, 25] (fun cv s wr => ∃ (k : Nat) (c : Int) (os : List Int), s = .int .i64 k ∧ cv = .int .u64 c ∧ k ≤ ys.length ∧ 0 ≤ c ∧ c ≤ 1 ∧ AddState ys xs os k c ∧ LU wr w.heap.size os ∧ Below w.heap.size w wr) (fun _ s _ => ys.length - (intOf s).toNat)
  case atStart => exact ⟨0, 0, ys ++ List.replicate 1 0, by go_num, rfl, by omega, by omega, by omega, AddState.start HY.out _, HL.out, HB1.out⟩
  case round =>
    obtain ⟨k, c, os, rfl, rfl, hk, hc0, hc1, hS, hL, hB⟩ := hrel
    have HS := Lib.hid hS
    have HL2 := Lib.hid hL
    have HB2 := Lib.hid hB
    have hol := hS.len
    clear hS hL hB
    by_cases hlt : k < ys.length
    · have hox := HL2.out.cell (i := k) (by omega)
      rw [HS.out.same k (Nat.le_refl _) hlt] at hox
      have hfr := HL2.out.frozen k
      have hbx := HY.out k
      have hby := HX.out k
      rw [B18] at hbx hby
      have hlz : (k : Int) < (ys.length : Int) := by omega
      by_cases hky : k < xs.length
      · obtain ⟨b2, o2, rfl, hyy⟩ := HP1.out (by omega)
        have hcy := below_cell HB2.out (hyy k hky)
        have hkz : (k : Int) < (xs.length : Int) := by omega
        have HN := Lib.hid (fun d c' (h : d + B18 * c' = c + ys.getD k 0 + xs.getD k 0) (hd : 0 ≤ d ∧ d < B18) => HS.out.step hlt h hd)
        generalize ys.getD k 0 = x at hox hbx HN
        generalize xs.getD k 0 = y at hcy hby HN
        clear hyy
        go_wp2
        go_roundw
        case rel => exact ⟨k + 1, _, _, by go_num, rfl, by omega, by omega, by omega, HN.out _ _ (by rw [B18]; omega) (by rw [B18]; omega), HL2.out.set k _, HB2.out.setCell (Nat.le_refl _) _⟩
        case measure => simp [intOf]; omega
      · have hkz : ¬ (k : Int) < (xs.length : Int) := by omega
        have HN := Lib.hid (fun d c' (h : d + B18 * c' = c + ys.getD k 0 + xs.getD k 0) (hd : 0 ≤ d ∧ d < B18) => HS.out.step hlt h hd)
        rw [getD_len (show xs.length ≤ k by omega)] at HN
        generalize ys.getD k 0 = x at hox hbx HN
        clear hby
        go_wp2
        go_roundw
        case rel => exact ⟨k + 1, _, _, by go_num, rfl, by omega, by omega, by omega, HN.out _ _ (by rw [B18]; omega) (by rw [B18]; omega), HL2.out.set k _, HB2.out.setCell (Nat.le_refl _) _⟩
        case measure => simp [intOf]; omega
    · obtain rfl : k = ys.length := by omega
      have hox := HL2.out.cell (i := ys.length) (by omega)
      have hfr := HL2.out.frozen ys.length
      have HE := Lib.hid (HS.out.finish (by omega) ⟨hc0, hc1⟩)
      generalize os.getD ys.length 0 = x at hox
      go_wp2
      go_ret
      refine ⟨w.heap.size, os.set ys.length c, by rw [List.length_set, hol]; rfl, Nat.le_refl _, HL2.out.set ys.length c, ?_, HE.out.1, by rw [HE.out.2, Int.add_comm], HB2.out.setCell (Nat.le_refl _) _⟩
      rw [List.length_set, hol, Nat.max_eq_right (by omega)]
theorem addSizes_any (u1 u2 : Value) (xs ys : List Int) (w : World) (h1 : Rd w u1 xs) (h2 : Rd w u2 ys) (hx : Dig B18 xs) (hy : Dig B18 ys) :
    Calls Tryd.prog 36 #[u1, u2] w (AddPost w xs ys) := by
  by_cases h : ys.length ≤ xs.length
  · exact add_ge u1 u2 xs ys w h1 h2 hx hy h
  · exact add_lt u1 u2 xs ys w h1 h2 hx hy (by omega)
end Go.Proofs.YticebchmafipiaaDoor
