/- Layer 2's Room and Kept, as a text of their own. -/
import Derived.Test.YtfhjpgbnojdlkaaPOwn
import Derived.Test.YtfhjpgbnojdlkaaPGCheck
import Derived.ProofKit
import Derived.OpenShut
import Derived.OwnWalk
import Derived.Outline
import Derived.Lib.Hide
import Derived.BigQuiet
import Derived.Deep.QuietTactic
import Derived.WalkSmall
import Derived.LoopTactic
import Derived.BigRegion
import Derived.WalkLawsBesides
import Derived.Deep.CutRange
import Derived.Deep.CutBlock
import Derived.Shelf.Spec.BitsCarry
import Derived.Deep.RegionWith
import Derived.Deep.RegionHeld3
import Derived.Deep.DeepCutAuto
import Derived.Lib.AppendStr
import Derived.Laws.Externs
import Derived.Deep.Cut
import Derived.Lib.ItoaNum
import Derived.Maps.AppendAt
import Derived.Laws.AppendOwnNone
import Derived.RegionTactic
import Derived.Laws.Rows
import Derived.ArgAppend
import Derived.WalkKit
import Derived.WalkSpells
namespace Go.Proofs.Ytfhjpgbnojdlkaa
open Go Go.ChangeShapes Go.WideShapes Go.ChangeAt Go.RowKit
set_option linter.unusedVariables false
set_option linter.unusedSimpArgs false
theorem getD_set' (ws : List Int) (q : Nat) (x : Int) (i : Nat) (hq : q < ws.length) : (ws.set q x).getD i 0 = if i = q then x else ws.getD i 0 := by
  simp only [List.getD_eq_getElem?_getD, List.getElem?_set]
  by_cases h : q = i
  · subst h; simp [hq]
  · rw [if_neg h, if_neg (fun e => h e.symm)]
theorem rd_form {w : World} {u : Value} {ws : List Int} (h : Rd w u ws) : ∃ p c, u = .slice p ws.length c ∧ ws.length ≤ c ∧ ws.length ≤ 17592186043904 ∧
    (0 < ws.length → ∃ b off, p = some ⟨b, off, none⟩ ∧ ∀ i, i < ws.length → w.cell? ⟨b, off + i, none⟩ = some (.int .u64 (ws.getD i 0))) := by
  rcases h with ⟨p, rfl, rfl⟩ | ⟨b, off, c, rfl, h1, h2, h3⟩
  · exact ⟨p, 0, rfl, by simp, by simp, fun h => by simp at h⟩
  · exact ⟨_, c, rfl, h1, h2, fun _ => ⟨b, off, rfl, h3⟩⟩
def BoolPost (W : World) (b : Bool) (e : Ending) (w' : World) : Prop := e = .returned (.bool b) ∧ Below W.heap.size W w'
theorem BoolPost.mk {W w' : World} {b c : Bool} (h : c = b) (hb : Below W.heap.size W w') : BoolPost W b (.returned (.bool c)) w' := ⟨by rw [h], hb⟩
/-- What copy leaves of a new row of noughts. -/
theorem sizeU64r : (Try.prog.info? 46).map (·.size) = some 1 := by kernel_rfl
abbrev U64 : TypeId := 46
abbrev LU (w : World) (g : Nat) (ws : List Int) : Prop := LR .u64 U64 w g ws
abbrev MU (w : World) (B : Nat) (u : Value) (ws : List Int) : Prop := Mine .u64 U64 w B u ws
/-- What copy leaves of a new row of noughts. -/
theorem splice_new (n m : Nat) (ws : List Int) (hl : ws.length = n) : splice ((List.replicate (n + m) (0 : Int)).map (Value.int .u64)) 0 (ws.map (Value.int .u64)) = (ws ++ List.replicate m 0).map (Value.int .u64) := by
  unfold splice
  subst hl
  simp
theorem LU.of_splice {w : World} {g n m : Nat} {ws : List Int} (hl : ws.length = n) (h : Hid (w.heap[g]? = some (.cells (splice ((List.replicate (n + m) (0 : Int)).map (Value.int .u64)) 0 (ws.map (Value.int .u64))).toArray U64 (0, 0)))) : LU w g (ws ++ List.replicate m 0) := by
  have := h.out
  rw [splice_new n m ws hl] at this
  exact this
/-- The source of a copy, cell by cell. -/
theorem src_cells {w : World} {p : Option Addr} {ws : List Int} (hp : 0 < ws.length → ∃ b off, p = some ⟨b, off, none⟩ ∧ ∀ i, i < ws.length → w.cell? ⟨b, off + i, none⟩ = some (.int .u64 (ws.getD i 0))) (h0 : 0 < (ws.map (Value.int .u64)).length) :
    ∃ ad, p = some ad ∧ ∀ j v, (ws.map (Value.int .u64))[j]? = some v → w.cell? (ad.add j) = some v := by
  obtain ⟨b, off, rfl, hc⟩ := hp (by simpa using h0)
  refine ⟨_, rfl, fun j v hj => ?_⟩
  have hj' : j < ws.length := by
    rw [List.getElem?_eq_some_iff] at hj
    simpa using hj.1
  have := hc j hj'
  rw [show (⟨b, off, none⟩ : Addr).add j = ⟨b, off + j, none⟩ by unfold Addr.add; split <;> simp_all, this]
  rw [List.getElem?_map, List.getElem?_eq_getElem hj'] at hj
  simp only [Option.map_some, Option.some.injEq] at hj
  rw [← hj, List.getD_eq_getElem?_getD, List.getElem?_eq_getElem hj']
  rfl
theorem one_cells (ws : List Int) : ∀ v ∈ ws.map (Value.int .u64), v.oneCell' = true := by simp [Value.oneCell']
theorem min_len (ws : List Int) (m : Nat) : (ws.map (Value.int .u64)).length = Nat.min ws.length (ws.length + m) := by
  rw [List.length_map]; exact (Nat.min_eq_left (by omega)).symm
theorem fit_len (ws : List Int) (m : Nat) : 0 + (ws.map (Value.int .u64)).length ≤ ((List.replicate (ws.length + m) (0 : Int)).map (Value.int .u64)).length := by
  simp
theorem list_ext_getD {xs ys : List Int} (hl : xs.length = ys.length) (h : ∀ i, i < xs.length → xs.getD i 0 = ys.getD i 0) : xs = ys := by
  apply List.ext_getElem hl
  intro i h1 h2
  have := h i h1
  simpa [List.getD_eq_getElem?_getD, h1, h2] using this
theorem sliceU : Try.prog.underlying 22 = some (.slice (Try.prog.elem 22)) := by kernel_rfl
theorem sizeU : ∀ wx, (sizeOf (Try.prog.elem 22)).run Try.prog wx = .ok 1 wx := fun wx => by kernel_rfl
theorem app_left {α : Type} {a b : List α} {d : α} {i : Nat} (h : i < a.length) : (a ++ b).getD i d = a.getD i d := by
  rw [List.getD_eq_getElem?_getD, List.getElem?_append_left h, ← List.getD_eq_getElem?_getD]
theorem app_right {α : Type} {a b : List α} {d : α} {i : Nat} (h : a.length ≤ i) : (a ++ b).getD i d = b.getD (i - a.length) d := by
  rw [List.getD_eq_getElem?_getD, List.getElem?_append_right h, ← List.getD_eq_getElem?_getD]
/-- The row and its marks. -/
def roomL (ws : List Int) : List Int := ws ++ (List.range 6).map fun i => 7770000 + ((ws.length + i : Nat) : Int)
theorem roomL_len (ws : List Int) : (roomL ws).length = ws.length + 6 := by simp [roomL]
theorem roomL_lo {ws : List Int} {i : Nat} (h : i < ws.length) : (roomL ws).getD i 0 = ws.getD i 0 := app_left h
theorem roomL_hi {ws : List Int} {i : Nat} (h : ws.length ≤ i) (h' : i < ws.length + 6) : (roomL ws).getD i 0 = 7770000 + (i : Int) := by
  rw [roomL, app_right h, List.getD_eq_getElem?_getD, List.getElem?_map, List.getElem?_range (by omega)]
  simp only [Option.map_some, Option.getD_some]
  omega
theorem ksl_to {P : Program} (t : TypeId) (ht : P.underlying t = some (.slice (P.elem t))) (hsz : ∀ wx, (sizeOf (P.elem t)).run P wx = .ok 1 wx) (b off n c hi : Nat) (h : hi ≤ c) :
    ∀ wx, (Instr.slice t (.slice (some ⟨b, off, none⟩) n c) none (some (.int .i64 (hi : Int))) none).run P wx = .ok (.slice (some ⟨b, off, none⟩) hi c) wx := fun wx => by
  rw [run_slice_h wx t _ n c ht .i64 (hi : Int) (by omega) (by omega), hsz]
  simp [Result.andThen, sliced, Addr.add]
/-- The first m places are as they should be. -/
def RoomTo (ws : List Int) (m : Nat) (os : List Int) : Prop := os.length = ws.length + 6 ∧ ∀ j, j < m → os.getD j 0 = (roomL ws).getD j 0
theorem RoomTo.start (ws : List Int) : RoomTo ws ws.length (ws ++ List.replicate 6 0) := ⟨by simp, fun j hj => by rw [app_left hj, roomL_lo hj]⟩
theorem RoomTo.step {ws os : List Int} {m : Nat} (h : RoomTo ws m os) (h1 : ws.length ≤ m) (h2 : m < ws.length + 6) : RoomTo ws (m + 1) (os.set m (7770000 + (m : Int))) := by
  have hl := h.1
  refine ⟨by rw [List.length_set]; exact hl, fun j hj => ?_⟩
  rw [getD_set' _ _ _ _ (by omega)]
  by_cases e : j = m
  · rw [if_pos e, e, roomL_hi h1 h2]
  · rw [if_neg e]; exact h.2 j (by omega)
theorem RoomTo.all {ws os : List Int} (h : RoomTo ws (ws.length + 6) os) : os = roomL ws :=
  list_ext_getD (h.1.trans (roomL_len ws).symm) fun j hj => h.2 j (by have := h.1; omega)
def RoomPost (W : World) (ws : List Int) (e : Ending) (w' : World) : Prop :=
  ∃ g, e = .returned (.slice (some ⟨g, 0, none⟩) ws.length (ws.length + 6)) ∧ LU w' g (roomL ws) ∧ W.heap.size ≤ g ∧ Below W.heap.size W w'
set_option maxRecDepth 100000 in
set_option maxHeartbeats 1000000 in
theorem room_any (u : Value) (xs : List Int) (w : World) (hr : Rd w u xs) :
    Calls Try.prog 26 #[u] w (RoomPost w xs) := by
  obtain ⟨p1, c1, rfl, hc1, hm1, hp1⟩ := rd_form hr
  have HP1 := Lib.hid hp1
  clear hr hc1 hp1
  have hmk := run_make_row' (P := Try.prog) 22 46 (.int .u64 0) 8 Try.underlying22 infoU64 rfl .i64 .i64 (xs.length + 6) (by omega) (by omega)
  rw [show ((xs.length + 6 : Nat) : Int) = (xs.length : Int) + 6 by omega] at hmk
  have hg : (w.alloc (.cells (madeCells #[Value.int .u64 0] (xs.length + 6)) 46)).heap[w.heap.size]? = some (.cells ((List.replicate (xs.length + 6) (0 : Int)).map (Value.int .u64)).toArray 46 (0, 0)) := LR.made (k := .u64) (T := 46) w (xs.length + 6)
  have HGG := Lib.hid hg
  have HBB := Lib.hid (show Below w.heap.size w (w.alloc (.cells (madeCells #[Value.int .u64 0] (xs.length + 6)) 46)) from (Below.refl _ _).alloc (Nat.le_refl _) _)
  have hsrc : ∀ o, 0 < xs.length → ∃ b off, p1 = some ⟨b, off, none⟩ ∧ ∀ i, i < xs.length → (w.alloc o).cell? ⟨b, off + i, none⟩ = some (.int .u64 (xs.getD i 0)) := fun o h => by
    obtain ⟨b, off, e, hx⟩ := HP1.out h
    exact ⟨b, off, e, fun i hi => alloc_cell (hx i hi) _⟩
  have HSR := Lib.hid hsrc
  have hw6 : IntKind.i64.wrap ((xs.length : Int) + 6) = (xs.length : Int) + 6 := IntWalk.i64_in _ (by omega)
  have hsl := ksl_to (P := Try.prog) 22 sliceU sizeU w.heap.size 0 (xs.length + 6) (xs.length + 6) xs.length (by omega)
  clear hg hsrc
  go_enter Try.func26, Try.ntmps26
  go_wp2_with (with_reducible refine wpList_copy_splice rfl (.tmp 9) (.tmp 10) 22 22 rfl 46 Try.underlying22 sizeU64r (some ⟨w.heap.size, 0, none⟩) p1 (xs.length + 6) (xs.length + 6) xs.length c1 rfl rfl w.heap.size 0 _ 46 HGG.out (xs.map (Value.int .u64)) (min_len xs 6) (fun h0 => ⟨rfl, src_cells (HSR.out _) h0⟩) (fit_len xs 6) (one_cells xs) w.heap.size w HBB.out (Nat.le_refl _) ?_; intro w1 hrow hb1)
  have HL := Lib.hid (LU.of_splice (m := 6) rfl hrow)
  have HB1 := Lib.hid hb1
  clear hrow hb1 hmk HGG HBB HSR
  go_loopw [4] (fun s wr => ∃ (m : Nat) (os : List Int), s = .int .i64 m ∧ xs.length ≤ m ∧ m ≤ xs.length + 6 ∧ RoomTo xs m os ∧ LU wr w.heap.size os ∧ Below w.heap.size w wr) (fun s _ => xs.length + 6 - (intOf s).toNat)
  case atStart => exact ⟨xs.length, _, by go_num, Nat.le_refl _, by omega, RoomTo.start xs, HL.out, HB1.out⟩
  case round =>
    obtain ⟨m, os, rfl, h1, h2, hS, hL, hB⟩ := hrel
    have HS := Lib.hid hS
    have HL2 := Lib.hid hL
    have HB2 := Lib.hid hB
    have hol := hS.1
    clear hS hL hB
    by_cases hlt : m < xs.length + 6
    · have hox := HL2.out.cell (i := m) (by omega)
      have hfr := HL2.out.frozen m
      have hlz : (m : Int) < (xs.length : Int) + 6 := by omega
      have hwu : IntKind.u64.wrap (m : Int) = (m : Int) := by rw [IntKind.wrap_u64]; omega
      have hwv : IntKind.u64.wrap (7770000 + (m : Int)) = 7770000 + (m : Int) := by rw [IntKind.wrap_u64]; omega
      go_wp2
      go_roundw
      case rel => exact ⟨m + 1, _, by go_num, by omega, by omega, HS.out.step h1 hlt, HL2.out.set m _, HB2.out.setCell (Nat.le_refl _) _⟩
      case measure => simp [intOf]; omega
    · obtain rfl : m = xs.length + 6 := by omega
      have hlz : ¬ ((xs.length : Int) + 6 < (xs.length : Int) + 6) := by omega
      have HE := Lib.hid HS.out.all
      go_wp2
      go_ret
      exact ⟨w.heap.size, rfl, by have := HL2.out; rwa [HE.out] at this, Nat.le_refl _, HB2.out⟩
set_option maxRecDepth 100000 in
set_option maxHeartbeats 1000000 in
/-- The room is as it was. -/
theorem kept_any (g : Nat) (u : Value) (xs : List Int) (w : World) (hL : LU w g (roomL xs)) (hr : Rd w u xs) :
    Calls Try.prog 27 #[.slice (some ⟨g, 0, none⟩) xs.length (xs.length + 6), u] w (BoolPost w true) := by
  obtain ⟨p1, c1, rfl, hc1, hm1, hp1⟩ := rd_form hr
  have HP1 := Lib.hid hp1
  have HLL := Lib.hid hL
  clear hr hc1 hp1 hL
  have hw6 : IntKind.i64.wrap ((xs.length : Int) + 6) = ((xs.length + 6 : Nat) : Int) := by rw [IntWalk.i64_in _ (by omega)]; omega
  have hsl := ksl_to (P := Try.prog) 22 sliceU sizeU g 0 xs.length (xs.length + 6) (xs.length + 6) (by omega)
  go_enter Try.func27, Try.ntmps27
  go_wp2_with fail
  go_loopw [6] (fun s wr => ∃ m q : Nat, s = .int .i64 m ∧ m ≤ xs.length + 6 ∧ wr = w.drewN q) (fun s _ => xs.length + 6 - (intOf s).toNat)
  case atStart => exact ⟨0, 0, by go_num, by omega, rfl⟩
  case round =>
    obtain ⟨m, q, rfl, h2, rfl⟩ := hrel
    by_cases hlt : m < xs.length + 6
    · have hox := HLL.out.cell (i := m) (by rw [roomL_len]; exact hlt)
      have hlz : (m : Int) < ((xs.length + 6 : Nat) : Int) := by omega
      by_cases hx : m < xs.length
      · obtain ⟨b1, o1, rfl, hxx⟩ := HP1.out (by omega)
        have hcx := hxx m hx
        rw [roomL_lo hx] at hox
        have hxz : (m : Int) < (xs.length : Int) := by omega
        have hxg : decide ((xs.length : Int) ≤ (m : Int)) = false := by simp; omega
        have hxh : decide (xs.length ≤ m) = false := by simp; omega
        clear hxx
        generalize xs.getD m 0 = x at hox hcx
        have hne : (x != x) = false := by simp
        go_wp2
        go_quiet (fail)
        go_wp2
        go_roundw
        case rel => exact ⟨m + 1, _, by go_num, by omega, rfl⟩
        case measure => simp [intOf]; omega
      · rw [roomL_hi (by omega) hlt] at hox
        have hxz : decide ((m : Int) < (xs.length : Int)) = false := by simp; omega
        have hxh : decide (m < xs.length) = false := by simp; omega
        have hxk : (xs.length : Int) ≤ (m : Int) := by omega
        have hwu : IntKind.u64.wrap (m : Int) = (m : Int) := by rw [IntKind.wrap_u64]; omega
        have hwv : IntKind.u64.wrap (7770000 + (m : Int)) = 7770000 + (m : Int) := by rw [IntKind.wrap_u64]; omega
        go_wp2
        go_quiet (fail)
        go_wp2
        go_roundw
        case rel => exact ⟨m + 1, _, by go_num, by omega, rfl⟩
        case measure => simp [intOf]; omega
    · obtain rfl : m = xs.length + 6 := by omega
      have hlz : ¬ (((xs.length + 6 : Nat) : Int) < ((xs.length + 6 : Nat) : Int)) := by omega
      go_wp2
      go_ret
      exact BoolPost.mk (by simp) (below_drewN (Below.refl _ _) _)
end Go.Proofs.Ytfhjpgbnojdlkaa
