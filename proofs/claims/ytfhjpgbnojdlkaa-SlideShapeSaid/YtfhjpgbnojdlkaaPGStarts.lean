/- The contract of the function that finds where the objects begin: a bit for each address. The contract of the function that looks at tagged words: are they good, and addresses among them those of objects? The contract of the function that tells whether all words of a list are 0. -/
import Derived.Test.YtfhjpgbnojdlkaaPArena
import Derived.Test.YtfhjpgbnojdlkaaPScan
import Derived.WalkLawsBesides
import Derived.LoopTactic
import Derived.BigRegion
namespace Go.Proofs.Ytfhjpgbnojdlkaa
section
open Go.ChangeShapes Go.WideShapes Go.ChangeAt Go.RowKit
set_option linter.unusedVariables false
set_option linter.unusedSimpArgs false
theorem infoU64 : (Try.prog.info? 46).map (fun i => (i.zero, i.size, i.bytes)) = some (some (.int .u64 0), 1, 8) := by kernel_rfl
def StartsRow (w : World) (g n : Nat) (done : List Nat) : Prop :=
  ∃ s : Nat → Nat, w.rowIs g 46 n (fun i => .int .u64 (s i)) ∧ (∀ i, s i < 18446744073709551616) ∧ ∀ x, bitAt s x = decide (x ∈ done)
def Found (W : World) (ws : List Int) (e : Ending) (w' : World) : Prop :=
  Below W.heap.size W w' ∧ ((scan ws 1 = none ∧ e = .returned (.tuple #[.slice none 0 0, .bool false])) ∨
    ∃ l g, scan ws 1 = some l ∧ e = .returned (.tuple #[.slice (some ⟨g, 0, none⟩) (ws.length / 64 + 1) (ws.length / 64 + 1), .bool true]) ∧ W.heap.size ≤ g ∧ StartsRow w' g (ws.length / 64 + 1) l)
theorem Found.no {W w' : World} {ws : List Int} (h : scan ws 1 = none) (hb : Below W.heap.size W w') : Found W ws (.returned (.tuple #[.slice none 0 0, .bool false])) w' := ⟨hb, .inl ⟨h, rfl⟩⟩
theorem Found.yes {W w' : World} {ws : List Int} {l : List Nat} {g : Nat} (h : scan ws 1 = some l) (hb : Below W.heap.size W w') (hg : W.heap.size ≤ g) (hs : StartsRow w' g (ws.length / 64 + 1) l) :
    Found W ws (.returned (.tuple #[.slice (some ⟨g, 0, none⟩) (ws.length / 64 + 1) (ws.length / 64 + 1), .bool true])) w' := ⟨hb, .inr ⟨l, g, h, rfl, hg, hs⟩⟩
theorem StartsRow.keep {w w' : World} {g n : Nat} {l : List Nat} (h : StartsRow w g n l) (hb : Below w.heap.size w w') : StartsRow w' g n l := by
  obtain ⟨s, h1, h2, h3⟩ := h
  exact ⟨s, h1.of_block (hb.block _ h1.lt), h2, h3⟩
theorem or_pow (sv : Nat) (h : sv < 18446744073709551616) (k : Nat) : bits BinOp.or IntKind.u64 (sv : Int) (IntKind.u64.wrap (2 ^ (k % 64))) = ((sv ||| 2 ^ (k % 64) : Nat) : Int) := by
  have hp : (2 : Nat) ^ (k % 64) < 18446744073709551616 := Nat.lt_of_lt_of_le (Nat.pow_lt_pow_right (by decide) (Nat.mod_lt k (by decide : 0 < 64))) (Nat.le_refl (2 ^ 64))
  have e : IntKind.u64.wrap (2 ^ (k % 64)) = ((2 ^ (k % 64) : Nat) : Int) := by
    rw [u64w]
    have : (2 : Int) ^ (k % 64) = ((2 ^ (k % 64) : Nat) : Int) := (Int.natCast_pow 2 (k % 64)).symm
    rw [this]; clear this; generalize (2 : Nat) ^ (k % 64) = q at hp ⊢; omega
  rw [e]
  exact u64_or_nat _ _ h hp
theorem StartsRow.bit {w : World} {g n : Nat} {l : List Nat} (h : StartsRow w g n l) (k : Nat) (hk : k / 64 < n) :
    ∃ sv : Nat, w.cell? ⟨g, k / 64, none⟩ = some (.int .u64 sv) ∧ w.frozen? ⟨g, k / 64, none⟩ = false ∧ sv < 18446744073709551616 ∧
      StartsRow (w.setCell ⟨g, k / 64, none⟩ (.int .u64 (bits BinOp.or IntKind.u64 (sv : Int) (IntKind.u64.wrap (2 ^ (k % 64)))))) g n (l ++ [k]) := by
  obtain ⟨s, h1, h2, h3⟩ := h
  refine ⟨s (k / 64), h1.cell hk, h1.frozen _, h2 _, setBit s k, ?_, setBit_lt h2 k, fun x => ?_⟩
  · refine (h1.set (k / 64) _).congr fun i hi => ?_
    rw [or_pow _ (h2 _)]
    unfold setBit
    split
    · rename_i e; rw [e]
    · rfl
  · rw [bitAt_setBit, h3]
    by_cases hx : x = k <;> simp [hx]
/-- The state of the loop. -/
structure FS (w : World) (v : Value) (ws : List Int) (k : Nat) (done : List Nat) (wr : World) : Prop where
  up : Upto ws k done
  le : k ≤ ws.length ∨ k = 1
  box : wr.cell? ⟨w.heap.size, 0, none⟩ = some v
  row : StartsRow wr (w.heap.size + 1) (ws.length / 64 + 1) done
  below : Below w.heap.size w wr
theorem FS.keep {w wr w1 : World} {v : Value} {ws : List Int} {k : Nat} {done : List Nat} (h : FS w v ws k done wr) (hb : Below wr.heap.size wr w1) : FS w v ws k done w1 :=
  ⟨h.up, h.le, below_cell hb h.box, h.row.keep hb, h.below.trans (hb.mono h.below.size)⟩
theorem FS.start (w : World) (v : Value) (ws : List Int) (o : Obj) (ho : (w.alloc o).cell? ⟨w.heap.size, 0, none⟩ = some v) : FS w v ws 1 [] ((w.alloc o).alloc (.cells (madeCells #[.int .u64 0] (ws.length / 64 + 1)) 46)) :=
  ⟨Upto.start ws, .inr rfl, alloc_cell ho _, ⟨fun _ => 0, by
    have := World.rowIs_made (w.alloc o) (.int .u64 0) (ws.length / 64 + 1) 46
    simpa using this, fun _ => (by decide : 0 < 18446744073709551616), fun x => by simp [bitAt]⟩, ((Below.refl _ _).alloc (Nat.le_refl _) _).alloc (by simp) _⟩
theorem FS.next {w w1 : World} {v : Value} {ws : List Int} {k : Nat} {done : List Nat} (h : FS w v ws k done w1) (hk : k < ws.length) (ho : okAt ws k = true) (x : Value)
    (hs : StartsRow (w1.setCell ⟨w.heap.size + 1, k / 64, none⟩ x) (w.heap.size + 1) (ws.length / 64 + 1) (done ++ [k])) : FS w v ws (k + sz ws k) (done ++ [k]) (w1.setCell ⟨w.heap.size + 1, k / 64, none⟩ x).drew :=
  ⟨h.up.step hk ho, .inl (okAt_sz ho).2.2.1, by
    have := h.box
    show (w1.setCell ⟨w.heap.size + 1, k / 64, none⟩ x).cell? ⟨w.heap.size, 0, none⟩ = some v
    rw [← this]; exact World.cell?_of_block (Below.heap_setCell _ _ _ _ (by simp)), hs, (h.below.setCell (by simp) x).drew⟩
set_option maxRecDepth 100000 in
set_option maxHeartbeats 1000000 in
theorem find (v : Value) (ws : List Int) (w : World) (hr : Rd w v ws) (hf : Fit ws) (hlen : ws.length ≤ 1048576) :
    Calls Try.prog 59 #[.agg #[v]] w (Found w ws) := by
  have HR := Lib.hid hr
  rcases hr with ⟨p0, rfl, rfl⟩ | ⟨b, off, c, rfl, hl, hc, hcell⟩
  · have hmk := run_make_row' (P := Try.prog) 22 46 (.int .u64 0) 8 Try.underlying22 infoU64 rfl .i64 .i64 1 (by omega) (by omega)
    rw [show ((1 : Nat) : Int) = 1 by rfl] at hmk
    go_enter Try.func59, Try.ntmps59
    go_wp2
    clear hmk
    go_loopw [5] (fun i wr => ∃ k done, i = .int .i64 (k : Nat) ∧ FS w (.slice p0 0 0) [] k done wr) (fun i _ => 0)
    case atStart => exact ⟨1, [], by go_num, FS.start w _ [] _ (by simp)⟩
    case round =>
      obtain ⟨k, done, rfl, hS⟩ := hrel
      have k1 := hS.up.2
      have hbox := hS.box
      go_wp2_with fail
      go_ret2
      exact Found.yes (hS.up.full (by simp)) hS.below (by omega) hS.row
  · have hmk := run_make_row' (P := Try.prog) 22 46 (.int .u64 0) 8 Try.underlying22 infoU64 rfl .i64 .i64 (ws.length / 64 + 1) (by omega) (by omega)
    rw [show ((ws.length / 64 + 1 : Nat) : Int) = (ws.length : Int) / 64 + 1 by omega] at hmk
    have hcellat : ∀ i, i < ws.length → ∀ wx : World, Below w.heap.size w wx → wx.cell? ⟨b, off + i, none⟩ = some (.int .u64 (ws.getD i 0)) := fun i hi wx hx => below_cell hx (hcell i hi)
    clear hcell
    go_enter Try.func59, Try.ntmps59
    go_wp2
    clear hmk
    go_loopw [5] (fun i wr => ∃ k done, i = .int .i64 (k : Nat) ∧ FS w (.slice (some ⟨b, off, none⟩) ws.length c) ws k done wr) (fun i _ => ws.length - (intOf i).toNat)
    case atStart => exact ⟨1, [], by go_num, FS.start w _ ws _ (by simp)⟩
    case round =>
      obtain ⟨k, done, rfl, hS⟩ := hrel
      have k1 := hS.up.2
      have kl := hS.le
      have hbox := hS.box
      by_cases hlt : k < ws.length
      · go_wp2_with fail
        refine (look_any _ ws _ _ (HR.out.keep hS.below) hf).mono ?_
        rintro e w1 ⟨rfl, hb1⟩
        have hS1 := hS.keep hb1
        clear hbox hS hb1
        have hbox := hS1.box
        have hh : 0 ≤ headAt ws k ∧ headAt ws k ≤ 18446744073709551615 := by unfold headAt; split; exact hf.at _; omega
        cases ht : there ws k
        · have ho : okAt ws k = false := by simp [okAt, ht]
          have hno := Lib.hid (hS1.up.bad hlt ho)
          clear ho
          go_wp2_with fail
          go_ret2
          exact Found.no hno.out hS1.below
        · have hin : k + 2 ≤ ws.length := by
            simp only [there, decide_eq_true_eq] at ht
            omega
          by_cases hp : headAt ws k < 72057594037927936
          · have hpd : decide (headAt ws k < 72057594037927936) = true := by simpa using hp
            have hcb := hcellat (k + 1) (by omega) w1 hS1.below
            by_cases hz : ws.getD (k + 1) 0 = 0
            · have ho : Hid (okAt ws k = true) := by unfold Hid; simp only [okAt, ht, hpd, hz]; rfl
              rw [hz] at hcb
              clear hz
              go_wp2_with fail
              refine (hplain _ hh _).mono ?_
              rintro e w2 ⟨rfl, rfl⟩
              go_wp2_with fail
              obtain ⟨sv, hsc, hsf, hsl, hnew⟩ := hS1.row.bit k (by omega)
              have hN := hS1.next hlt ho.out _ hnew
              have HN := Lib.hid hN
              have hsz := okAt_sz ho.out
              have HS := Lib.hid hsz.2.2.2.1
              have hs1 := hsz.2.1
              have hs2 := hsz.2.2.1
              have hs3 := hS_lo (headAt ws k)
              clear hnew hN hsz
              go_region
              go_wp2_with fail
              refine (hsize _ hh _).mono ?_
              rintro e w2 ⟨rfl, rfl⟩
              go_wp2_with fail
              go_roundw
              case rel => exact ⟨k + sz ws k, done ++ [k], by rw [← HS.out]; go_num, HN.out⟩
              case measure => rw [← HS.out]; simp [intOf]; omega
            · have hno : Hid (scan ws 1 = none) := hS1.up.bad hlt (by simp only [okAt, ht, hpd, hz]; rfl)
              generalize ws.getD (k + 1) 0 = z at *
              have hz2 : (z != 0) = true := by simpa using hz
              go_wp2_with fail
              refine (hplain _ hh _).mono ?_
              rintro e w2 ⟨rfl, rfl⟩
              go_wp2_with fail
              go_ret2
              exact Found.no hno.out hS1.below
          · have hpd : decide (headAt ws k < 72057594037927936) = false := by simpa using hp
            have hno := Lib.hid (hS1.up.bad hlt (by simp [okAt, hpd]))
            go_wp2_with fail
            refine (hplain _ hh _).mono ?_
            rintro e w2 ⟨rfl, rfl⟩
            go_wp2_with fail
            go_ret2
            exact Found.no hno.out hS1.below
      · go_wp2_with fail
        go_ret2
        exact Found.yes (hS.up.full (by omega)) hS.below (by omega) hS.row
end
section
open Go.ChangeShapes Go.WideShapes Go.ChangeAt Go.RowKit
set_option linter.unusedVariables false
set_option linter.unusedSimpArgs false
def rightW (l : List Nat) (x : Int) : Bool := !decide (kindOf x = 3) && (!decide (kindOf x = 0) || decide ((x / 4).toNat ∈ l))
theorem all_take_succ (p : Int → Bool) (xs : List Int) (k : Nat) (hk : k < xs.length) : (xs.take (k + 1)).all p = ((xs.take k).all p && p (xs.getD k 0)) := by
  rw [List.take_succ_eq_append_getElem hk, List.all_append]
  simp [List.getD_eq_getElem?_getD, List.getElem?_eq_getElem hk]
theorem all_false_of (p : Int → Bool) (xs : List Int) (k : Nat) (hk : k < xs.length) (h : p (xs.getD k 0) = false) : xs.all p = false := by
  rw [List.all_eq_false]
  refine ⟨xs.getD k 0, ?_, by rw [h]; simp⟩
  simp [List.getD_eq_getElem?_getD, List.getElem?_eq_getElem hk]
theorem bit_test (sv : Nat) (h : sv < 18446744073709551616) (j : Nat) : bits BinOp.and IntKind.u64 ((sv : Int) / 2 ^ j) 1 = if sv.testBit j then 1 else 0 := by
  have e : (sv : Int) / 2 ^ j = ((sv / 2 ^ j : Nat) : Int) := by
    rw [show (2 : Int) ^ j = ((2 ^ j : Nat) : Int) from (Int.natCast_pow 2 j).symm]; exact (Int.natCast_ediv _ _).symm
  have hq : sv / 2 ^ j ≤ sv := Nat.div_le_self _ _
  rw [e, Nat.testBit_eq_decide_div_mod_eq]
  generalize sv / 2 ^ j = q at *
  have := bits_mask .u64 64 (by decide) (fun n h₀ h₁ => by rw [u64w]; omega) 1 (by decide) (q : Int) (by omega) (by omega)
  rw [show (2 : Int) ^ 1 - 1 = 1 by rfl, show (2 : Int) ^ 1 = 2 by rfl] at this
  rw [this]
  by_cases h1 : q % 2 = 1
  · rw [decide_eq_true h1, if_pos rfl]; omega
  · rw [decide_eq_false h1, if_neg (by simp)]; omega
theorem StartsRow.read {w : World} {g n : Nat} {l : List Nat} (h : StartsRow w g n l) (k : Nat) (hk : k / 64 < n) :
    ∃ sv : Nat, w.cell? ⟨g, k / 64, none⟩ = some (.int .u64 sv) ∧ bits BinOp.and IntKind.u64 ((sv : Int) / 2 ^ (k % 64)) 1 = if k ∈ l then 1 else 0 := by
  obtain ⟨s, h1, h2, h3⟩ := h
  refine ⟨s (k / 64), h1.cell hk, ?_⟩
  rw [bit_test _ (h2 _)]
  have := h3 k
  unfold bitAt at this
  rw [this]
  by_cases hm : k ∈ l <;> simp [hm]
set_option maxRecDepth 100000 in
set_option maxHeartbeats 1000000 in
theorem rightwords (v : Value) (xs : List Int) (g n : Nat) (l : List Nat) (w : World) (hr : Rd w v xs) (hf : Fit xs) (hn : n ≤ 1048576) (hs : StartsRow w g n l) (hl : ∀ x ∈ l, x / 64 < n) :
    Calls Try.prog 60 #[v, .slice (some ⟨g, 0, none⟩) n n] w fun e w' => e = .returned (.bool (xs.all (rightW l))) ∧ w = w' := by
  rcases hr with ⟨p0, rfl, rfl⟩ | ⟨b, off, c, rfl, hl1, hc, hcell⟩
  · go_enter Try.func60, Try.ntmps60
    go_wp2
    go_loop [11] (fun i => i = .int .i64 0) (fun _ => 0)
    case atStart => rfl
    case round =>
      obtain rfl := hrel
      go_wp2_with fail
      go_ret
      exact ⟨rfl, rfl⟩
  · have hcellat : ∀ k x, k < xs.length → xs.getD k 0 = x → w.cell? ⟨b, off + k, none⟩ = some (.int .u64 x) := fun i x hi hx => by rw [hcell i hi, hx]
    clear hcell
    go_enter Try.func60, Try.ntmps60
    go_wp2
    go_loop [11] (fun i => ∃ k : Nat, i = .int .i64 k ∧ k ≤ xs.length ∧ (xs.take k).all (rightW l) = true) (fun i => xs.length - (intOf i).toNat)
    case atStart => exact ⟨0, by go_num, by omega, by simp⟩
    case round =>
      obtain ⟨k, rfl, hk, hall0⟩ := hrel
      have hall := Lib.hid hall0
      clear hall0
      by_cases hlt : k < xs.length
      · have hx := hf.at k
        obtain ⟨x, hxx⟩ : ∃ x, x = xs.getD k 0 := ⟨_, rfl⟩
        have hcx := hcellat k x hlt hxx.symm
        rw [← hxx] at hx
        have HX := Lib.hid hxx
        clear hxx hcellat
        have kb := kind_lo x
        rcases (by omega : kindOf x = 3 ∨ kindOf x = 0 ∨ (kindOf x = 1 ∨ kindOf x = 2)) with hk3 | hk0 | hk12
        · have hno : Hid (xs.all (rightW l) = false) := all_false_of _ _ k hlt (by rw [← HX.out]; simp [rightW, hk3])
          go_wp2_with fail
          refine (kind_any _ (wfu_mk hx) _).mono ?_
          rintro e w2 ⟨rfl, rfl⟩
          go_wp2_with fail
          go_ret
          exact ⟨by rw [hno.out]; rfl, rfl⟩
        · obtain ⟨p1, p2, p3, p4, p5⟩ := one_addr x hk0
          have hat : atV x = x / 4 := by unfold atV; rw [if_pos hk0]
          rw [hat] at p4 p5
          clear p1 p2 p3
          by_cases hin : x / 4 / 64 < n
          · obtain ⟨a, ha⟩ := Int.eq_ofNat_of_zero_le p4
            obtain ⟨sv, hsc, hbit⟩ := hs.read a (by omega)
            have hmx : (x / 4).toNat = a := by omega
            by_cases hm : a ∈ l
            · rw [if_pos hm] at hbit
              have hyes : Hid ((xs.take (k + 1)).all (rightW l) = true) := by
                unfold Hid; rw [all_take_succ _ _ _ hlt, hall.out, ← HX.out]; simp [rightW, hk0, hmx, hm]
              clear hmx
              go_wp2_with fail
              refine (kind_any _ (wfu_mk hx) _).mono ?_
              rintro e w2 ⟨rfl, rfl⟩
              go_wp2_with fail
              refine (at_any _ (wfu_mk hx) _).mono ?_
              rintro e w2 ⟨rfl, rfl⟩
              go_wp2_with fail
              go_round
              case rel => exact ⟨k + 1, by go_num, by omega, hyes.out⟩
              case measure => simp [intOf]; omega
            · rw [if_neg hm] at hbit
              have hno : Hid (xs.all (rightW l) = false) := all_false_of _ _ k hlt (by
                rw [← HX.out]; simp [rightW, hk0, hmx, hm])
              clear hmx
              go_wp2_with fail
              refine (kind_any _ (wfu_mk hx) _).mono ?_
              rintro e w2 ⟨rfl, rfl⟩
              go_wp2_with fail
              refine (at_any _ (wfu_mk hx) _).mono ?_
              rintro e w2 ⟨rfl, rfl⟩
              go_wp2_with fail
              go_ret
              exact ⟨by rw [hno.out]; rfl, rfl⟩
          · have hno : Hid (xs.all (rightW l) = false) := all_false_of _ _ k hlt (by
              rw [← HX.out]; simp [rightW, hk0]; intro hm; have := hl _ hm; omega)
            go_wp2_with fail
            refine (kind_any _ (wfu_mk hx) _).mono ?_
            rintro e w2 ⟨rfl, rfl⟩
            go_wp2_with fail
            refine (at_any _ (wfu_mk hx) _).mono ?_
            rintro e w2 ⟨rfl, rfl⟩
            go_wp2_with fail
            go_ret
            exact ⟨by rw [hno.out]; rfl, rfl⟩
        · have hne3 : (kindOf x == 3) = false := by rw [beq_eq_false_iff_ne]; omega
          have hne0 : (kindOf x == 0) = false := by rw [beq_eq_false_iff_ne]; omega
          have hyes : Hid ((xs.take (k + 1)).all (rightW l) = true) := by
            unfold Hid; rw [all_take_succ _ _ _ hlt, hall.out, ← HX.out]; simp [rightW]; omega
          clear hk12
          go_wp2_with fail
          refine (kind_any _ (wfu_mk hx) _).mono ?_
          rintro e w2 ⟨rfl, rfl⟩
          go_wp2_with fail
          go_round
          case rel => exact ⟨k + 1, by go_num, by omega, hyes.out⟩
          case measure => simp [intOf]; omega
      · go_wp2_with fail
        go_ret
        obtain rfl : k = xs.length := by omega
        have h := hall.out
        rw [List.take_length] at h
        exact ⟨by rw [h]; rfl, rfl⟩
end
section
open Go.ChangeShapes Go.WideShapes Go.ChangeAt Go.RowKit
set_option linter.unusedVariables false
set_option linter.unusedSimpArgs false
theorem or2 (a b : Int) (h1 : 0 ≤ a ∧ a ≤ 18446744073709551615) (h2 : 0 ≤ b ∧ b ≤ 18446744073709551615) :
    0 ≤ bits BinOp.or IntKind.u64 a b ∧ bits BinOp.or IntKind.u64 a b ≤ 18446744073709551615 ∧ (bits BinOp.or IntKind.u64 a b = 0 ↔ a = 0 ∧ b = 0) := by
  rw [u64_or a b h1.1 (by omega) h2.1 (by omega)]
  have hlt : a.toNat ||| b.toNat < 2 ^ 64 := Nat.or_lt_two_pow (by omega) (by omega)
  refine ⟨by omega, by omega, ?_⟩
  have : a.toNat ||| b.toNat = 0 ↔ a.toNat = 0 ∧ b.toNat = 0 := Nat.or_eq_zero_iff
  omega
theorem or8 (x0 x1 x2 x3 x4 x5 x6 x7 : Int) (h0 : 0 ≤ x0 ∧ x0 ≤ 18446744073709551615) (h1 : 0 ≤ x1 ∧ x1 ≤ 18446744073709551615) (h2 : 0 ≤ x2 ∧ x2 ≤ 18446744073709551615) (h3 : 0 ≤ x3 ∧ x3 ≤ 18446744073709551615) (h4 : 0 ≤ x4 ∧ x4 ≤ 18446744073709551615) (h5 : 0 ≤ x5 ∧ x5 ≤ 18446744073709551615) (h6 : 0 ≤ x6 ∧ x6 ≤ 18446744073709551615) (h7 : 0 ≤ x7 ∧ x7 ≤ 18446744073709551615) :
    (bits BinOp.or IntKind.u64 (bits BinOp.or IntKind.u64 (bits BinOp.or IntKind.u64 (bits BinOp.or IntKind.u64 (bits BinOp.or IntKind.u64 (bits BinOp.or IntKind.u64 (bits BinOp.or IntKind.u64 x0 x1) x2) x3) x4) x5) x6) x7) = 0 ↔ x0 = 0 ∧ x1 = 0 ∧ x2 = 0 ∧ x3 = 0 ∧ x4 = 0 ∧ x5 = 0 ∧ x6 = 0 ∧ x7 = 0 := by
  have g1 := or2 x0 x1 h0 h1
  have g2 := or2 _ x2 ⟨g1.1, g1.2.1⟩ h2
  have g3 := or2 _ x3 ⟨g2.1, g2.2.1⟩ h3
  have g4 := or2 _ x4 ⟨g3.1, g3.2.1⟩ h4
  have g5 := or2 _ x5 ⟨g4.1, g4.2.1⟩ h5
  have g6 := or2 _ x6 ⟨g5.1, g5.2.1⟩ h6
  have g7 := or2 _ x7 ⟨g6.1, g6.2.1⟩ h7
  rw [g7.2.2, g6.2.2, g5.2.2, g4.2.2, g3.2.2, g2.2.2, g1.2.2]
  simp only [and_assoc]
theorem all_take8 (xs : List Int) (k : Nat) (hk : k + 8 ≤ xs.length) (h : (xs.take k).all (· == 0) = true) (hx : ∀ i, i < 8 → xs.getD (k + i) 0 = 0) : (xs.take (k + 8)).all (· == 0) = true := by
  have s : ∀ i, i ≤ 8 → (xs.take (k + i)).all (· == 0) = true := by
    intro i
    induction i with
    | zero => intro _; exact h
    | succ i ih =>
      intro hi
      rw [← Nat.add_assoc, all_take_succ _ _ _ (by omega), ih (by omega), hx i (by omega)]
      rfl
  exact s 8 (by omega)
theorem all_not8 (xs : List Int) (k : Nat) (hk : k + 8 ≤ xs.length) (hx : ¬ ∀ i, i < 8 → xs.getD (k + i) 0 = 0) : xs.all (· == 0) = false := by
  rcases Classical.not_forall.1 hx with ⟨i, hi⟩
  rcases Classical.not_imp.1 hi with ⟨h1, h2⟩
  exact all_false_of _ _ (k + i) (by omega) (by simpa using h2)
def lenOfV : Value → Nat | .slice _ n _ => n | _ => 0
theorem cut8 (b off k c n : Nat) (h : n ≤ c) : ∃ o', (if c - k = 8 then some (⟨b, off + k, none⟩ : Addr) else some ⟨b, off + k + 8, none⟩) = some ⟨b, o', none⟩ ∧ (k + 8 < n → o' = off + (k + 8)) := by
  by_cases e : c - k = 8
  · exact ⟨off + k, by rw [if_pos e], fun _ => by omega⟩
  · exact ⟨off + k + 8, by rw [if_neg e], fun _ => by omega⟩
set_option maxRecDepth 100000 in
set_option maxHeartbeats 2000000 in
theorem allzero (v : Value) (xs : List Int) (w : World) (hr : Rd w v xs) (hf : Fit xs) :
    Calls Try.prog 58 #[v] w fun e w' => e = .returned (.bool (xs.all (· == 0))) ∧ ∃ q, w' = w.drewN q := by
  rcases hr with ⟨p0, rfl, rfl⟩ | ⟨b, off, c, rfl, hl1, hc, hcell⟩
  · go_enter Try.func58, Try.ntmps58
    go_wp2
    go_loop [0] (fun s => s = .slice p0 0 0) (fun _ => 0)
    case atStart => rfl
    case round =>
      obtain rfl := hrel
      go_wp2_with fail
      go_loop [44] (fun i => i = .int .i64 0) (fun _ => 0)
      case atStart => rfl
      case round =>
        obtain rfl := hrel
        go_wp2_with fail
        go_ret
        exact ⟨rfl, 0, rfl⟩
  · have hcellat : ∀ k x, k < xs.length → xs.getD k 0 = x → w.cell? ⟨b, off + k, none⟩ = some (.int .u64 x) := fun i x hi hx => by rw [hcell i hi, hx]
    clear hcell
    go_enter Try.func58, Try.ntmps58
    go_wp2
    go_loopw [0] (fun s wr => ∃ k o q, s = .slice (some ⟨b, o, none⟩) (xs.length - k) (c - k) ∧ wr = w.drewN q ∧ k ≤ xs.length ∧ (k < xs.length → o = off + k) ∧ (xs.take k).all (· == 0) = true)
      (fun s _ => lenOfV s)
    case atStart => exact ⟨0, off, 0, rfl, rfl, by omega, fun _ => rfl, by simp⟩
    case round =>
      obtain ⟨k, o, q, rfl, rfl, hk, ho, hall0⟩ := hrel
      have hall := Lib.hid hall0
      clear hall0
      by_cases h8 : 8 ≤ xs.length - k
      · obtain rfl := ho (by omega)
        obtain ⟨x0, e0⟩ : ∃ x, x = xs.getD (k + 0) 0 := ⟨_, rfl⟩
        have c0 := hcellat (k + 0) x0 (by omega) e0.symm
        have f0 := hf.at (k + 0)
        rw [← e0] at f0
        obtain ⟨x1, e1⟩ : ∃ x, x = xs.getD (k + 1) 0 := ⟨_, rfl⟩
        have c1 := hcellat (k + 1) x1 (by omega) e1.symm
        have f1 := hf.at (k + 1)
        rw [← e1] at f1
        obtain ⟨x2, e2⟩ : ∃ x, x = xs.getD (k + 2) 0 := ⟨_, rfl⟩
        have c2 := hcellat (k + 2) x2 (by omega) e2.symm
        have f2 := hf.at (k + 2)
        rw [← e2] at f2
        obtain ⟨x3, e3⟩ : ∃ x, x = xs.getD (k + 3) 0 := ⟨_, rfl⟩
        have c3 := hcellat (k + 3) x3 (by omega) e3.symm
        have f3 := hf.at (k + 3)
        rw [← e3] at f3
        obtain ⟨x4, e4⟩ : ∃ x, x = xs.getD (k + 4) 0 := ⟨_, rfl⟩
        have c4 := hcellat (k + 4) x4 (by omega) e4.symm
        have f4 := hf.at (k + 4)
        rw [← e4] at f4
        obtain ⟨x5, e5⟩ : ∃ x, x = xs.getD (k + 5) 0 := ⟨_, rfl⟩
        have c5 := hcellat (k + 5) x5 (by omega) e5.symm
        have f5 := hf.at (k + 5)
        rw [← e5] at f5
        obtain ⟨x6, e6⟩ : ∃ x, x = xs.getD (k + 6) 0 := ⟨_, rfl⟩
        have c6 := hcellat (k + 6) x6 (by omega) e6.symm
        have f6 := hf.at (k + 6)
        rw [← e6] at f6
        obtain ⟨x7, e7⟩ : ∃ x, x = xs.getD (k + 7) 0 := ⟨_, rfl⟩
        have c7 := hcellat (k + 7) x7 (by omega) e7.symm
        have f7 := hf.at (k + 7)
        rw [← e7] at f7
        rw [show off + (k + 0) = off + k by omega] at c0
        rw [show off + (k + 1) = off + k + 1 by omega] at c1
        rw [show off + (k + 2) = off + k + 2 by omega] at c2
        rw [show off + (k + 3) = off + k + 3 by omega] at c3
        rw [show off + (k + 4) = off + k + 4 by omega] at c4
        rw [show off + (k + 5) = off + k + 5 by omega] at c5
        rw [show off + (k + 6) = off + k + 6 by omega] at c6
        rw [show off + (k + 7) = off + k + 7 by omega] at c7
        have hiff : (∀ i, i < 8 → xs.getD (k + i) 0 = 0) ↔ x0 = 0 ∧ x1 = 0 ∧ x2 = 0 ∧ x3 = 0 ∧ x4 = 0 ∧ x5 = 0 ∧ x6 = 0 ∧ x7 = 0 := by
          rw [e0, e1, e2, e3, e4, e5, e6, e7]
          constructor
          · intro h; exact ⟨h 0 (by omega), h 1 (by omega), h 2 (by omega), h 3 (by omega), h 4 (by omega), h 5 (by omega), h 6 (by omega), h 7 (by omega)⟩
          · rintro ⟨g0, g1, g2, g3, g4, g5, g6, g7⟩ i hi
            rcases (by omega : i = 0 ∨ i = 1 ∨ i = 2 ∨ i = 3 ∨ i = 4 ∨ i = 5 ∨ i = 6 ∨ i = 7) with rfl | rfl | rfl | rfl | rfl | rfl | rfl | rfl <;> assumption
        have hor := or8 x0 x1 x2 x3 x4 x5 x6 x7 f0 f1 f2 f3 f4 f5 f6 f7
        have Hif := Lib.hid (hor.trans hiff.symm)
        clear hiff hor e0 e1 e2 e3 e4 e5 e6 e7 hcellat ho
        have hlen8 : (8 : Int) ≤ ((xs.length - k : Nat) : Int) := by omega
        have n0 : 0 < xs.length - k := by omega
        have j0 : (0 : Int) < ((xs.length - k : Nat) : Int) := by omega
        have j1 : (1 : Int) < ((xs.length - k : Nat) : Int) := by omega
        have j2 : (2 : Int) < ((xs.length - k : Nat) : Int) := by omega
        have j3 : (3 : Int) < ((xs.length - k : Nat) : Int) := by omega
        have j4 : (4 : Int) < ((xs.length - k : Nat) : Int) := by omega
        have j5 : (5 : Int) < ((xs.length - k : Nat) : Int) := by omega
        have j6 : (6 : Int) < ((xs.length - k : Nat) : Int) := by omega
        have j7 : (7 : Int) < ((xs.length - k : Nat) : Int) := by omega
        by_cases hz : (bits BinOp.or IntKind.u64 (bits BinOp.or IntKind.u64 (bits BinOp.or IntKind.u64 (bits BinOp.or IntKind.u64 (bits BinOp.or IntKind.u64 (bits BinOp.or IntKind.u64 (bits BinOp.or IntKind.u64 x0 x1) x2) x3) x4) x5) x6) x7) = 0
        · have hyes := Lib.hid (all_take8 xs k (by omega) hall.out (Hif.out.1 hz))
          have hzb : ((bits BinOp.or IntKind.u64 (bits BinOp.or IntKind.u64 (bits BinOp.or IntKind.u64 (bits BinOp.or IntKind.u64 (bits BinOp.or IntKind.u64 (bits BinOp.or IntKind.u64 (bits BinOp.or IntKind.u64 x0 x1) x2) x3) x4) x5) x6) x7) != 0) = false := by simpa using hz
          clear hz
          go_wp2_with fail
          go_quiet (fail)
          go_wp2_with fail
          obtain ⟨o', ho1, ho2⟩ := cut8 b off k c xs.length hl1
          refine ⟨⟨k + 8, o', _, by rw [ho1, Nat.sub_sub, Nat.sub_sub], rfl, by omega, ho2, hyes.out⟩, ?_⟩
          simp only [lenOfV]
          omega
        · have hno := Lib.hid (all_not8 xs k (by omega) (fun h => hz (Hif.out.2 h)))
          have hzb : ((bits BinOp.or IntKind.u64 (bits BinOp.or IntKind.u64 (bits BinOp.or IntKind.u64 (bits BinOp.or IntKind.u64 (bits BinOp.or IntKind.u64 (bits BinOp.or IntKind.u64 (bits BinOp.or IntKind.u64 x0 x1) x2) x3) x4) x5) x6) x7) != 0) = true := by simpa using hz
          clear hz
          go_wp2_with fail
          go_quiet (fail)
          go_wp2_with fail
          go_ret
          exact ⟨by rw [hno.out]; rfl, _, World.drewN_drewN _ _ _⟩
      · have hnd : decide ((8 : Int) ≤ ((xs.length - k : Nat) : Int)) = false := by rw [decide_eq_false_iff_not]; omega
        have hmax : xs.length - k ≤ 140737488351232 := by omega
        go_wp2_with fail
        go_loop [44] (fun i => ∃ m : Nat, i = .int .i64 m ∧ m ≤ xs.length - k ∧ (xs.take (k + m)).all (· == 0) = true) (fun i => (xs.length - k) - (intOf i).toNat)
        case atStart => exact ⟨0, by go_num, by omega, hall.out⟩
        case round =>
          obtain ⟨m, rfl, hm, hall1⟩ := hrel
          have Hall := Lib.hid hall1
          clear hall1
          by_cases hlt : m < xs.length - k
          · obtain rfl := ho (by omega)
            obtain ⟨x, e⟩ : ∃ x, x = xs.getD (k + m) 0 := ⟨_, rfl⟩
            have cx := hcellat (k + m) x (by omega) e.symm
            rw [show off + (k + m) = off + k + m by omega] at cx
            have E := Lib.hid e
            clear e hcellat ho
            by_cases hx0 : x = 0
            · have hyes : Hid ((xs.take (k + (m + 1))).all (· == 0) = true) := by
                unfold Hid; rw [← Nat.add_assoc, all_take_succ _ _ _ (by omega), Hall.out, ← E.out, hx0]; rfl
              have hx1 : (x != 0) = false := by simpa using hx0
              clear hx0
              go_wp2_with fail
              go_round
              case rel => exact ⟨m + 1, by go_num, by omega, hyes.out⟩
              case measure => simp [intOf]; omega
            · have hno : Hid (xs.all (· == 0) = false) := all_false_of _ _ (k + m) (by omega) (by rw [← E.out]; simpa using hx0)
              have hx1 : (x != 0) = true := by simpa using hx0
              clear hx0
              go_wp2_with fail
              go_ret
              exact ⟨by rw [hno.out]; rfl, _, rfl⟩
          · go_wp2_with fail
            go_ret
            have h := Hall.out
            rw [List.take_of_length_le (by omega)] at h
            exact ⟨by rw [h]; rfl, _, rfl⟩
end
end Go.Proofs.Ytfhjpgbnojdlkaa
