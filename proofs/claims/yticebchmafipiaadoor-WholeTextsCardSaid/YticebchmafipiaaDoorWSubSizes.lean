/- Layer 2: whole.subSizes: the difference of two rows of limbs, place by place. -/
import Derived.Test.YticebchmafipiaaDoorWAddSizes
namespace Go.Proofs.YticebchmafipiaaDoor
open Go.ChangeShapes Go.WideShapes Go.ChangeAt Go.RowKit
set_option linter.unusedVariables false
set_option linter.unusedSimpArgs false
structure SubState (xs ys os : List Int) (k : Nat) (c : Int) : Prop where
  len : os.length = xs.length
  dig : Dig B18 os
  same : ∀ j, k ≤ j → j < xs.length → os.getD j 0 = xs.getD j 0
  diff : DiffAt B18 xs ys os k c
theorem SubState.start {xs : List Int} (hx : Dig B18 xs) (ys : List Int) : SubState xs ys xs 0 0 :=
  ⟨rfl, hx, fun j _ hj => rfl, DiffAt.zero _ _ _ _⟩
theorem SubState.step {xs ys os : List Int} {k : Nat} {c c' d : Int} (h : SubState xs ys os k c) (hk : k < xs.length) (e : d - B18 * c' = xs.getD k 0 - ys.getD k 0 - c) (hd : 0 ≤ d ∧ d < B18) : SubState xs ys (os.set k d) (k + 1) c' :=
  ⟨by rw [List.length_set]; exact h.len, h.dig.set k d hd, fun j hj hl => by rw [getD_set' _ _ _ _ (by have := h.len; omega), if_neg (by omega)]; exact h.same j (by omega) hl, h.diff.step (by have := h.len; omega) e⟩
theorem SubState.finish {xs ys os : List Int} {c : Int} (h : SubState xs ys os xs.length c) (hy : ys.length ≤ xs.length) (hge : val B18 ys ≤ val B18 xs) (hc : 0 ≤ c ∧ c ≤ 1) : val B18 os = val B18 xs - val B18 ys :=
  h.diff.done (by decide) h.len (Nat.le_refl _) hy h.dig hc hge
def SubPost (W : World) (xs ys : List Int) (e : Ending) (w' : World) : Prop :=
  ∃ g os, e = .returned (.slice (some ⟨g, 0, none⟩) os.length os.length) ∧ W.heap.size ≤ g ∧ LU w' g os ∧ os.length = xs.length ∧ Dig B18 os ∧ val B18 os = val B18 xs - val B18 ys ∧ Below W.heap.size W w'
set_option maxRecDepth 100000 in
set_option maxHeartbeats 2000000 in
theorem subSizes_any (u1 u2 : Value) (xs ys : List Int) (w : World) (h1 : Rd w u1 xs) (h2 : Rd w u2 ys) (hx : Dig B18 xs) (hy : Dig B18 ys) (hle : ys.length ≤ xs.length) (hge : val B18 ys ≤ val B18 xs) :
    Calls Tryd.prog 38 #[u1, u2] w (SubPost w xs ys) := by
  obtain ⟨p1, c1, rfl, hc1, hm1, hp1⟩ := rd_form h1
  obtain ⟨p2, c2, rfl, hc2, hm2, hp2⟩ := rd_form h2
  have HP1 := Lib.hid hp1
  have HP2 := Lib.hid hp2
  have HX := Lib.hid hx
  have HY := Lib.hid hy
  have HGE := Lib.hid hge
  clear h1 h2 hc1 hc2 hx hy hp1 hp2 hge
  have hmk := run_make_row' (P := Tryd.prog) 22 50 (.int .u64 0) 8 Tryd.underlying22 infoU64 rfl .i64 .i64 xs.length (by omega) (by omega)
  have hg : (w.alloc (.cells (madeCells #[Value.int .u64 0] xs.length) 50)).heap[w.heap.size]? = some (.cells ((List.replicate (xs.length + 0) (0 : Int)).map (Value.int .u64)).toArray 50 (0, 0)) := LR.made (k := .u64) (T := 50) w xs.length
  have HGG := Lib.hid hg
  have HBB := Lib.hid (show Below w.heap.size w (w.alloc (.cells (madeCells #[Value.int .u64 0] xs.length) 50)) from (Below.refl _ _).alloc (Nat.le_refl _) _)
  have hsrc : ∀ o, 0 < xs.length → ∃ b off, p1 = some ⟨b, off, none⟩ ∧ ∀ i, i < xs.length → (w.alloc o).cell? ⟨b, off + i, none⟩ = some (.int .u64 (xs.getD i 0)) := fun o h => by
    obtain ⟨b, off, e, hx⟩ := HP1.out h
    exact ⟨b, off, e, fun i hi => alloc_cell (hx i hi) _⟩
  have HSR := Lib.hid hsrc
  clear hg hsrc
  go_enter Tryd.func38, Tryd.ntmps38
  go_wp2_with (with_reducible refine wpList_copy_splice rfl (.tmp 12) (.tmp 13) 22 22 rfl 50 Tryd.underlying22 sizeU64 (some ⟨w.heap.size, 0, none⟩) p1 xs.length xs.length xs.length c1 rfl rfl w.heap.size 0 _ 50 HGG.out (xs.map (Value.int .u64)) (by simp) (fun h0 => ⟨rfl, src_cells (HSR.out _) h0⟩) (fit_len xs 0) (one_cells xs) w.heap.size w HBB.out (Nat.le_refl _) ?_; intro w1 hrow hb1)
  have HL := Lib.hid (LU.of_splice (m := 0) rfl hrow)
  have HB1 := Lib.hid hb1
  clear hrow hb1 hmk HGG HBB HSR
  go_loopw [6, 17] (fun cv s wr => ∃ (k : Nat) (c : Int) (os : List Int), s = .int .i64 k ∧ cv = .int .u64 c ∧ k ≤ xs.length ∧ 0 ≤ c ∧ c ≤ 1 ∧ SubState xs ys os k c ∧ LU wr w.heap.size os ∧ Below w.heap.size w wr) (fun _ s _ => xs.length - (intOf s).toNat)
  case atStart => exact ⟨0, 0, xs, by go_num, rfl, by omega, by omega, by omega, SubState.start HX.out _, by have := HL.out; simpa using this, HB1.out⟩
  case round =>
    obtain ⟨k, c, os, rfl, rfl, hk, hc0, hc1, hS, hL, hB⟩ := hrel
    have HS := Lib.hid hS
    have HL2 := Lib.hid hL
    have HB2 := Lib.hid hB
    have hol := hS.len
    clear hS hL hB
    by_cases hlt : k < xs.length
    · have hox := HL2.out.cell (i := k) (by omega)
      rw [HS.out.same k (Nat.le_refl _) hlt] at hox
      have hfr := HL2.out.frozen k
      have hbx := HX.out k
      have hby := HY.out k
      rw [B18] at hbx hby
      have hlz : (k : Int) < (xs.length : Int) := by omega
      by_cases hky : k < ys.length
      · obtain ⟨b2, o2, rfl, hyy⟩ := HP2.out (by omega)
        have hcy := below_cell HB2.out (hyy k hky)
        have hkz : (k : Int) < (ys.length : Int) := by omega
        have HN := Lib.hid (fun d c' (h : d - B18 * c' = xs.getD k 0 - ys.getD k 0 - c) (hd : 0 ≤ d ∧ d < B18) => HS.out.step hlt h hd)
        generalize xs.getD k 0 = x at hox hbx HN
        generalize ys.getD k 0 = y at hcy hby HN
        clear hyy
        by_cases hbor : x < c + y
        · go_wp2
          go_roundw
          case rel => exact ⟨k + 1, 1, _, by go_num, rfl, by omega, by omega, by omega, HN.out (x + 1000000000000000000 - (c + y)) 1 (by rw [B18]; omega) (by rw [B18]; omega), by
            have := (HL2.out.set k (x + 1000000000000000000)).set k (x + 1000000000000000000 - (c + y))
            rw [List.set_set] at this
            exact this, (HB2.out.setCell (Nat.le_refl _) _).setCell (Nat.le_refl _) _⟩
          case measure => simp [intOf]; omega
        · go_wp2
          go_roundw
          case rel => exact ⟨k + 1, 0, _, by go_num, rfl, by omega, by omega, by omega, HN.out (x - (c + y)) 0 (by rw [B18]; omega) (by rw [B18]; omega), HL2.out.set k _, HB2.out.setCell (Nat.le_refl _) _⟩
          case measure => simp [intOf]; omega
      · have hkz : ¬ (k : Int) < (ys.length : Int) := by omega
        have HN := Lib.hid (fun d c' (h : d - B18 * c' = xs.getD k 0 - ys.getD k 0 - c) (hd : 0 ≤ d ∧ d < B18) => HS.out.step hlt h hd)
        rw [getD_len (show ys.length ≤ k by omega)] at HN
        generalize xs.getD k 0 = x at hox hbx HN
        clear hby
        by_cases hbor : x < c
        · go_wp2
          go_roundw
          case rel => exact ⟨k + 1, 1, _, by go_num, rfl, by omega, by omega, by omega, HN.out (x + 1000000000000000000 - (c)) 1 (by rw [B18]; omega) (by rw [B18]; omega), by
            have := (HL2.out.set k (x + 1000000000000000000)).set k (x + 1000000000000000000 - (c))
            rw [List.set_set] at this
            exact this, (HB2.out.setCell (Nat.le_refl _) _).setCell (Nat.le_refl _) _⟩
          case measure => simp [intOf]; omega
        · go_wp2
          go_roundw
          case rel => exact ⟨k + 1, 0, _, by go_num, rfl, by omega, by omega, by omega, HN.out (x - (c)) 0 (by rw [B18]; omega) (by rw [B18]; omega), HL2.out.set k _, HB2.out.setCell (Nat.le_refl _) _⟩
          case measure => simp [intOf]; omega
    · obtain rfl : k = xs.length := by omega
      have HE := Lib.hid (HS.out.finish hle HGE.out ⟨hc0, hc1⟩)
      go_wp2
      go_ret
      exact ⟨w.heap.size, os, by rw [hol]; rfl, Nat.le_refl _, HL2.out, hol, HS.out.dig, HE.out, HB2.out⟩
end Go.Proofs.YticebchmafipiaaDoor
