/- The contract of the function that finds where the objects begin: a bit for each address. -/
import Derived.Test.YtfhjpgbnojdlkaaArena
import Derived.Test.YtfhjpgbnojdlkaaScan
import Derived.WalkLawsBesides
import Derived.LoopTactic
import Derived.BigRegion
namespace Go.Proofs.Ytfhjpgbnojdlkaa
open Go.ChangeShapes Go.WideShapes Go.ChangeAt Go.RowKit
set_option linter.unusedVariables false
set_option linter.unusedSimpArgs false
theorem infoU64 : (Try.prog.info? 46).map (fun i => (i.zero, i.size, i.bytes)) = some (some (.int .u64 0), 1, 8) := by kernel_rfl
def StartsRow (w : World) (g n : Nat) (done : List Nat) : Prop :=
  ∃ s : Nat → Nat, w.rowIs g 46 n (fun i => .int .u64 (s i)) ∧ (∀ i, s i < 18446744073709551616) ∧ ∀ x, bitAt s x = decide (x ∈ done)
def Found (W : World) (ws : List Int) (e : Ending) (w' : World) : Prop :=
  Below W.heap.size W w' ∧ ((scan ws 1 = none ∧ e = .returned (.tuple #[.slice none 0 0, .bool false])) ∨
    ∃ l g, scan ws 1 = some l ∧ e = .returned (.tuple #[.slice (some ⟨g, 0, none⟩) (ws.length / 64 + 1) (ws.length / 64 + 1), .bool true]) ∧ W.heap.size ≤ g ∧ StartsRow w' g (ws.length / 64 + 1) l)
theorem Found.no {W w' : World} {ws : List Int} (h : scan ws 1 = none) (hb : Below W.heap.size W w') : Found W ws (.returned (.tuple #[.slice none 0 0, .bool false])) w' := ⟨hb, .inl ⟨h, rfl⟩⟩
theorem Found.yes {W w' : World} {ws : List Int} {l : List Nat} {g : Nat} (h : scan ws 1 = some l) (hb : Below W.heap.size W w') (hg : W.heap.size ≤ g) (hs : StartsRow w' g (ws.length / 64 + 1) l) :
    Found W ws (.returned (.tuple #[.slice (some ⟨g, 0, none⟩) (ws.length / 64 + 1) (ws.length / 64 + 1), .bool true])) w' := ⟨hb, .inr ⟨l, g, h, rfl, hg, hs⟩⟩
theorem StartsRow.keep {w w' : World} {g n : Nat} {l : List Nat} (h : StartsRow w g n l) (hb : Below w.heap.size w w') : StartsRow w' g n l := by
  obtain ⟨s, h1, h2, h3⟩ := h
  exact ⟨s, h1.of_block (hb.block _ h1.lt), h2, h3⟩
theorem or_pow (sv : Nat) (h : sv < 18446744073709551616) (k : Nat) : bits BinOp.or IntKind.u64 (sv : Int) (IntKind.u64.wrap (2 ^ (k % 64))) = ((sv ||| 2 ^ (k % 64) : Nat) : Int) := by
  have hp : (2 : Nat) ^ (k % 64) < 18446744073709551616 := Nat.lt_of_lt_of_le (Nat.pow_lt_pow_right (by decide) (Nat.mod_lt k (by decide : 0 < 64))) (Nat.le_refl (2 ^ 64))
  have e : IntKind.u64.wrap (2 ^ (k % 64)) = ((2 ^ (k % 64) : Nat) : Int) := by
    rw [u64w]
    have : (2 : Int) ^ (k % 64) = ((2 ^ (k % 64) : Nat) : Int) := (Int.natCast_pow 2 (k % 64)).symm
    rw [this]; clear this; generalize (2 : Nat) ^ (k % 64) = q at hp ⊢; omega
  rw [e]
  exact u64_or_nat _ _ h hp
theorem StartsRow.bit {w : World} {g n : Nat} {l : List Nat} (h : StartsRow w g n l) (k : Nat) (hk : k / 64 < n) :
    ∃ sv : Nat, w.cell? ⟨g, k / 64, none⟩ = some (.int .u64 sv) ∧ w.frozen? ⟨g, k / 64, none⟩ = false ∧ sv < 18446744073709551616 ∧
      StartsRow (w.setCell ⟨g, k / 64, none⟩ (.int .u64 (bits BinOp.or IntKind.u64 (sv : Int) (IntKind.u64.wrap (2 ^ (k % 64)))))) g n (l ++ [k]) := by
  obtain ⟨s, h1, h2, h3⟩ := h
  refine ⟨s (k / 64), h1.cell hk, h1.frozen _, h2 _, setBit s k, ?_, setBit_lt h2 k, fun x => ?_⟩
  · refine (h1.set (k / 64) _).congr fun i hi => ?_
    rw [or_pow _ (h2 _)]
    unfold setBit
    split
    · rename_i e; rw [e]
    · rfl
  · rw [bitAt_setBit, h3]
    by_cases hx : x = k <;> simp [hx]
/-- The state of the loop. -/
structure FS (w : World) (v : Value) (ws : List Int) (k : Nat) (done : List Nat) (wr : World) : Prop where
  up : Upto ws k done
  le : k ≤ ws.length ∨ k = 1
  box : wr.cell? ⟨w.heap.size, 0, none⟩ = some v
  row : StartsRow wr (w.heap.size + 1) (ws.length / 64 + 1) done
  below : Below w.heap.size w wr
theorem FS.keep {w wr w1 : World} {v : Value} {ws : List Int} {k : Nat} {done : List Nat} (h : FS w v ws k done wr) (hb : Below wr.heap.size wr w1) : FS w v ws k done w1 :=
  ⟨h.up, h.le, below_cell hb h.box, h.row.keep hb, h.below.trans (hb.mono h.below.size)⟩
theorem FS.start (w : World) (v : Value) (ws : List Int) (o : Obj) (ho : (w.alloc o).cell? ⟨w.heap.size, 0, none⟩ = some v) : FS w v ws 1 [] ((w.alloc o).alloc (.cells (madeCells #[.int .u64 0] (ws.length / 64 + 1)) 46)) :=
  ⟨Upto.start ws, .inr rfl, alloc_cell ho _, ⟨fun _ => 0, by
    have := World.rowIs_made (w.alloc o) (.int .u64 0) (ws.length / 64 + 1) 46
    simpa using this, fun _ => (by decide : 0 < 18446744073709551616), fun x => by simp [bitAt]⟩, ((Below.refl _ _).alloc (Nat.le_refl _) _).alloc (by simp) _⟩
theorem FS.next {w w1 : World} {v : Value} {ws : List Int} {k : Nat} {done : List Nat} (h : FS w v ws k done w1) (hk : k < ws.length) (ho : okAt ws k = true) (x : Value)
    (hs : StartsRow (w1.setCell ⟨w.heap.size + 1, k / 64, none⟩ x) (w.heap.size + 1) (ws.length / 64 + 1) (done ++ [k])) : FS w v ws (k + sz ws k) (done ++ [k]) (w1.setCell ⟨w.heap.size + 1, k / 64, none⟩ x).drew :=
  ⟨h.up.step hk ho, .inl (okAt_sz ho).2.2.1, by
    have := h.box
    show (w1.setCell ⟨w.heap.size + 1, k / 64, none⟩ x).cell? ⟨w.heap.size, 0, none⟩ = some v
    rw [← this]; exact World.cell?_of_block (Below.heap_setCell _ _ _ _ (by simp)), hs, (h.below.setCell (by simp) x).drew⟩
set_option maxRecDepth 100000 in
set_option maxHeartbeats 1000000 in
theorem find (v : Value) (ws : List Int) (w : World) (hr : Rd w v ws) (hf : Fit ws) (hlen : ws.length ≤ 1048576) :
    Calls Try.prog 59 #[.agg #[v]] w (Found w ws) := by
  have HR := Lib.hid hr
  rcases hr with ⟨p0, rfl, rfl⟩ | ⟨b, off, c, rfl, hl, hc, hcell⟩
  · have hmk := run_make_row' (P := Try.prog) 22 46 (.int .u64 0) 8 Try.underlying22 infoU64 rfl .i64 .i64 1 (by omega) (by omega)
    rw [show ((1 : Nat) : Int) = 1 by rfl] at hmk
    go_enter Try.func59, Try.ntmps59
    go_wp2
    clear hmk
    go_loopw [5] (fun i wr => ∃ k done, i = .int .i64 (k : Nat) ∧ FS w (.slice p0 0 0) [] k done wr) (fun i _ => 0)
    case atStart => exact ⟨1, [], by go_num, FS.start w _ [] _ (by simp)⟩
    case round =>
      obtain ⟨k, done, rfl, hS⟩ := hrel
      have k1 := hS.up.2
      have hbox := hS.box
      go_wp2_with fail
      go_ret2
      exact Found.yes (hS.up.full (by simp)) hS.below (by omega) hS.row
  · have hmk := run_make_row' (P := Try.prog) 22 46 (.int .u64 0) 8 Try.underlying22 infoU64 rfl .i64 .i64 (ws.length / 64 + 1) (by omega) (by omega)
    rw [show ((ws.length / 64 + 1 : Nat) : Int) = (ws.length : Int) / 64 + 1 by omega] at hmk
    have hcellat : ∀ i, i < ws.length → ∀ wx : World, Below w.heap.size w wx → wx.cell? ⟨b, off + i, none⟩ = some (.int .u64 (ws.getD i 0)) := fun i hi wx hx => below_cell hx (hcell i hi)
    clear hcell
    go_enter Try.func59, Try.ntmps59
    go_wp2
    clear hmk
    go_loopw [5] (fun i wr => ∃ k done, i = .int .i64 (k : Nat) ∧ FS w (.slice (some ⟨b, off, none⟩) ws.length c) ws k done wr) (fun i _ => ws.length - (intOf i).toNat)
    case atStart => exact ⟨1, [], by go_num, FS.start w _ ws _ (by simp)⟩
    case round =>
      obtain ⟨k, done, rfl, hS⟩ := hrel
      have k1 := hS.up.2
      have kl := hS.le
      have hbox := hS.box
      by_cases hlt : k < ws.length
      · go_wp2_with fail
        refine (look_any _ ws _ _ (HR.out.keep hS.below) hf).mono ?_
        rintro e w1 ⟨rfl, hb1⟩
        have hS1 := hS.keep hb1
        clear hbox hS hb1
        have hbox := hS1.box
        have hh : 0 ≤ headAt ws k ∧ headAt ws k ≤ 18446744073709551615 := by unfold headAt; split; exact hf.at _; omega
        cases ht : there ws k
        · have ho : okAt ws k = false := by simp [okAt, ht]
          have hno := Lib.hid (hS1.up.bad hlt ho)
          clear ho
          go_wp2_with fail
          go_ret2
          exact Found.no hno.out hS1.below
        · have hin : k + 2 ≤ ws.length := by
            simp only [there, decide_eq_true_eq] at ht
            omega
          by_cases hp : headAt ws k < 72057594037927936
          · have hpd : decide (headAt ws k < 72057594037927936) = true := by simpa using hp
            have hcb := hcellat (k + 1) (by omega) w1 hS1.below
            by_cases hz : ws.getD (k + 1) 0 = 0
            · have ho : Hid (okAt ws k = true) := by unfold Hid; simp only [okAt, ht, hpd, hz]; rfl
              rw [hz] at hcb
              clear hz
              go_wp2_with fail
              refine (hplain _ hh _).mono ?_
              rintro e w2 ⟨rfl, rfl⟩
              go_wp2_with fail
              obtain ⟨sv, hsc, hsf, hsl, hnew⟩ := hS1.row.bit k (by omega)
              have hN := hS1.next hlt ho.out _ hnew
              have HN := Lib.hid hN
              have hsz := okAt_sz ho.out
              have HS := Lib.hid hsz.2.2.2.1
              have hs1 := hsz.2.1
              have hs2 := hsz.2.2.1
              have hs3 := hS_lo (headAt ws k)
              clear hnew hN hsz
              go_region
              go_wp2_with fail
              refine (hsize _ hh _).mono ?_
              rintro e w2 ⟨rfl, rfl⟩
              go_wp2_with fail
              go_roundw
              case rel => exact ⟨k + sz ws k, done ++ [k], by rw [← HS.out]; go_num, HN.out⟩
              case measure => rw [← HS.out]; simp [intOf]; omega
            · have hno : Hid (scan ws 1 = none) := hS1.up.bad hlt (by simp only [okAt, ht, hpd, hz]; rfl)
              generalize ws.getD (k + 1) 0 = z at *
              have hz2 : (z != 0) = true := by simpa using hz
              go_wp2_with fail
              refine (hplain _ hh _).mono ?_
              rintro e w2 ⟨rfl, rfl⟩
              go_wp2_with fail
              go_ret2
              exact Found.no hno.out hS1.below
          · have hpd : decide (headAt ws k < 72057594037927936) = false := by simpa using hp
            have hno := Lib.hid (hS1.up.bad hlt (by simp [okAt, hpd]))
            go_wp2_with fail
            refine (hplain _ hh _).mono ?_
            rintro e w2 ⟨rfl, rfl⟩
            go_wp2_with fail
            go_ret2
            exact Found.no hno.out hS1.below
      · go_wp2_with fail
        go_ret2
        exact Found.yes (hS.up.full (by omega)) hS.below (by omega) hS.row
end Go.Proofs.Ytfhjpgbnojdlkaa
