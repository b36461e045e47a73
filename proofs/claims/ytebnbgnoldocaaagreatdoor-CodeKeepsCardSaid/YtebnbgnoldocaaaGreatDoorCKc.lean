/- Layer 8: the chapter's examples: code.Check at one small code, and at none; what is read. -/
import Derived.Test.YtebnbgnoldocaaaGreatDoorCKi
namespace Go.Proofs.YtebnbgnoldocaaaGreatDoor
open Go Go.ChangeShapes Go.WideShapes Go.RowKit
set_option linter.unusedVariables false
set_option linter.unusedSimpArgs false
/-- The one function and its one instruction in memory. -/
structure CkM (w : World) (bF bI : Nat) : Prop where
  f0 : w.cell? ⟨bF, 0, none⟩ = some (.string ⟨#[]⟩)
  f1 : w.cell? ⟨bF, 1, none⟩ = some (.int .i64 0)
  f2 : w.cell? ⟨bF, 2, none⟩ = some (.int .i64 1)
  f3 : w.cell? ⟨bF, 3, none⟩ = some (.int .i64 0)
  f4 : w.cell? ⟨bF, 4, none⟩ = some (.bool false)
  f5 : w.cell? ⟨bF, 5, none⟩ = some (.int .i64 0)
  f6 : w.cell? ⟨bF, 6, none⟩ = some (.slice none 0 0)
  f7 : w.cell? ⟨bF, 7, none⟩ = some (.slice none 0 0)
  f8 : w.cell? ⟨bF, 8, none⟩ = some (.slice (some ⟨bI, 0, none⟩) 1 1)
  f9 : w.cell? ⟨bF, 9, none⟩ = some (.slice none 0 0)
  i0 : w.cell? ⟨bI, 0, none⟩ = some (.int .i64 41)
  i1 : w.cell? ⟨bI, 1, none⟩ = some (.int .i64 0)
  i2 : w.cell? ⟨bI, 2, none⟩ = some (.int .i64 0)
  i3 : w.cell? ⟨bI, 3, none⟩ = some (.int .i64 0)
  i4 : w.cell? ⟨bI, 4, none⟩ = some (.int .i64 0)
  i5 : w.cell? ⟨bI, 5, none⟩ = some (.int .i64 0)
  i6 : w.cell? ⟨bI, 6, none⟩ = some (.slice none 0 0)
theorem CkM.keep {w w' : World} {bF bI : Nat} (h : CkM w bF bI) (hb : Below w.heap.size w w') : CkM w' bF bI :=
  ⟨below_cell hb h.f0, below_cell hb h.f1, below_cell hb h.f2, below_cell hb h.f3, below_cell hb h.f4, below_cell hb h.f5, below_cell hb h.f6, below_cell hb h.f7, below_cell hb h.f8, below_cell hb h.f9, below_cell hb h.i0, below_cell hb h.i1, below_cell hb h.i2, below_cell hb h.i3, below_cell hb h.i4, below_cell hb h.i5, below_cell hb h.i6⟩
/-- The function's box. -/
structure CkB (w : World) (g bI : Nat) : Prop where
  c0 : w.cell? ⟨g, 0, none⟩ = some (.string ⟨#[]⟩)
  c1 : w.cell? ⟨g, 1, none⟩ = some (.int .i64 0)
  c2 : w.cell? ⟨g, 2, none⟩ = some (.int .i64 1)
  c3 : w.cell? ⟨g, 3, none⟩ = some (.int .i64 0)
  c4 : w.cell? ⟨g, 4, none⟩ = some (.bool false)
  c5 : w.cell? ⟨g, 5, none⟩ = some (.int .i64 0)
  c6 : w.cell? ⟨g, 6, none⟩ = some (.slice none 0 0)
  c7 : w.cell? ⟨g, 7, none⟩ = some (.slice none 0 0)
  c8 : w.cell? ⟨g, 8, none⟩ = some (.slice (some ⟨bI, 0, none⟩) 1 1)
  c9 : w.cell? ⟨g, 9, none⟩ = some (.slice none 0 0)
theorem CkB.keep {w w' : World} {g bI : Nat} (h : CkB w g bI) (hb : Below w.heap.size w w') : CkB w' g bI :=
  ⟨below_cell hb h.c0, below_cell hb h.c1, below_cell hb h.c2, below_cell hb h.c3, below_cell hb h.c4, below_cell hb h.c5, below_cell hb h.c6, below_cell hb h.c7, below_cell hb h.c8, below_cell hb h.c9⟩
theorem CkB.new {w : World} {g bI : Nat} (hg : g = w.heap.size) (T : TypeId) : CkB (w.alloc (.cells #[.string ⟨#[]⟩, .int .i64 0, .int .i64 1, .int .i64 0, .bool false, .int .i64 0, .slice none 0 0, .slice none 0 0, .slice (some ⟨bI, 0, none⟩) 1 1, .slice none 0 0] T)) g bI :=
  ⟨cell_newB hg rfl, cell_newB hg rfl, cell_newB hg rfl, cell_newB hg rfl, cell_newB hg rfl, cell_newB hg rfl, cell_newB hg rfl, cell_newB hg rfl, cell_newB hg rfl, cell_newB hg rfl⟩
structure CkS (w : World) (bF bI : Nat) (wx : World) : Prop where
  low : Below w.heap.size w wx
  b : CkB wx (w.heap.size + 1) bI
  c : wx.cell? ⟨w.heap.size, 0, none⟩ = some (.slice (some ⟨bF, 0, none⟩) 1 1)
  m : CkM wx bF bI
theorem CkS.keep {w wx w' : World} {bF bI : Nat} (h : CkS w bF bI wx) (hb : Below wx.heap.size wx w') : CkS w bF bI w' := ⟨h.low.trans (hb.mono h.low.size), h.b.keep hb, below_cell hb h.c, h.m.keep hb⟩
set_option maxRecDepth 100000 in
set_option maxHeartbeats 8000000 in
theorem checkFunc1 (bF bI : Nat) (w : World) (hU : Us w) (hM : CkM w bF bI) : Calls Tryz.prog 11 #[.agg #[.slice (some ⟨bF, 0, none⟩) 1 1], .int .i64 0] w fun e w' => e = .returned (.tuple #[.int .i64 0, .bool true]) ∧ Below w.heap.size w w' := by
  have HU := Lib.hid hU
  have HM := Lib.hid hM
  have HRI := Lib.hid (fun w hU => rightIns41 (.slice (some ⟨bF, 0, none⟩) 1 1) bI w hU)
  have HRH := Lib.hid (fun w => rightHead1 bI w)
  have HD := Lib.hid (fun (wx : World) (hx : Us wx) => (show Calls Tryz.prog 10 #[.int .i64 41, .int .i64 128] wx _ from does_at wx hx does41.2.2.2.2.1))
  unfold ckF ckI at HRI
  unfold ckF at HRH
  obtain ⟨f0, f1, f2, f3, f4, f5, f6, f7, f8, f9, i0, i1, i2, i3, i4, i5, i6⟩ := hM.keep (w' := w.alloc (.cells #[.slice (some ⟨bF, 0, none⟩) 1 1] 39)) ((Below.refl _ _).alloc (Nat.le_refl _) _)
  clear hU hM
  have HS0 := Lib.hid (show CkS w bF bI ((w.alloc (.cells #[.slice (some ⟨bF, 0, none⟩) 1 1] 39)).alloc (.cells #[.string ⟨#[]⟩, .int .i64 0, .int .i64 1, .int .i64 0, .bool false, .int .i64 0, .slice none 0 0, .slice none 0 0, .slice (some ⟨bI, 0, none⟩) 1 1, .slice none 0 0] 36)) from
    ⟨by ((repeat' (first | with_reducible assumption | with_reducible exact Below.refl _ _ | with_reducible refine Below.drew ?_ | with_reducible refine Below.alloc ?_ (by first | omega | (simp; omega) | (simp; done) | fail) _ | with_reducible refine Below.setCell ?_ (by first | omega | (simp; omega) | (simp; done) | fail) _ | fail)); (first | done | fail)), CkB.new (by simp) _, alloc_cell (cell_newB rfl rfl) _, HM.out.keep (by ((repeat' (first | with_reducible assumption | with_reducible exact Below.refl _ _ | with_reducible refine Below.drew ?_ | with_reducible refine Below.alloc ?_ (by first | omega | (simp; omega) | (simp; done) | fail) _ | with_reducible refine Below.setCell ?_ (by first | omega | (simp; omega) | (simp; done) | fail) _ | fail)); (first | done | fail)))⟩)
  go_enter Tryz.func11, Tryz.ntmps11
  go_wp2_with (first
    | (go_at_call 13; (with_reducible refine (HRH.out _).mono ?_); rintro e w1 ⟨rfl, hb⟩; have HS1 := Lib.hid (HS0.out.keep hb); obtain ⟨c0, c1, c2, c3, c4, c5, c6, c7, c8, c9⟩ := HS1.out.b; clear hb)
    | fail)
  clear c0 c1 c2 c3 c4 c5 c6 c7 c8 c9 f0 f1 f2 f3 f4 f5 f6 f7 f8 f9 i0 i1 i2 i3 i4 i5 i6
  go_loopw [41] (fun s wx => ∃ k : Nat, s = .int .i64 k ∧ k ≤ 1 ∧ CkS w bF bI wx) (fun s _ => 1 - (intOf s).toNat)
  case atStart => exact ⟨0, rfl, by omega, HS1.out⟩
  case round =>
    obtain ⟨k, rfl, hk, hs⟩ := hrel
    have HS2 := Lib.hid hs
    obtain ⟨c0, c1, c2, c3, c4, c5, c6, c7, c8, c9⟩ := hs.b
    by_cases hk0 : k < 1
    · obtain rfl : k = 0 := by omega
      obtain ⟨f0, f1, f2, f3, f4, f5, f6, f7, f8, f9, i0, i1, i2, i3, i4, i5, i6⟩ := hs.m
      have hc := alloc_cell hs.c (.cells #[.int .i64 41, .int .i64 0, .int .i64 0, .int .i64 0, .int .i64 0, .int .i64 0, .slice none 0 0] 24)
      have hal := (Below.refl wr.heap.size wr).alloc (Nat.le_refl _) (.cells #[.int .i64 41, .int .i64 0, .int .i64 0, .int .i64 0, .int .i64 0, .int .i64 0, .slice none 0 0] 24)
      obtain ⟨e0, e1, e2, e3, e4, e5, e6, e7, e8, e9⟩ := hs.b.keep hal
      have HAL := Lib.hid hal
      clear hs hal hk0 hk
      go_wp2_with (first
        | (go_at_call 14; (with_reducible refine (HRI.out _ (HU.out.keep (HS2.out.keep HAL.out).low)).mono ?_); rintro e w2 ⟨rfl, hb⟩; have HS3 := Lib.hid ((HS2.out.keep HAL.out).keep hb); clear hb)
        | fail)
      go_roundw
      case rel => exact ⟨1, by go_num, by omega, HS3.out⟩
      case measure => simp [intOf]
    · obtain rfl : k = 1 := by omega
      have i0 := hs.m.i0
      clear hs
      go_wp2_with (first
        | (go_at_call 10; (with_reducible refine (HD.out _ (HU.out.keep HS2.out.low)).mono ?_); rintro e w9 ⟨rfl, rfl⟩)
        | fail)
      go_loop [69] (fun s => s = .int .i64 0) (fun _ => 0)
      case atStart => exact rfl
      case round =>
        subst hrel
        go_wp2_with fail
        go_ret2
        exact ⟨rfl, HS2.out.low⟩
set_option maxRecDepth 100000 in
set_option maxHeartbeats 8000000 in
theorem check1 (bF bI : Nat) (w : World) (hU : Us w) (hM : CkM w bF bI) : Calls Tryz.prog 9 #[.agg #[.slice (some ⟨bF, 0, none⟩) 1 1]] w fun e w' => e = .returned (.tuple #[.int .i64 0, .int .i64 0, .int .i64 0]) ∧ Below w.heap.size w w' := by
  have HU := Lib.hid hU
  have HM := Lib.hid hM
  have HCF := Lib.hid (fun w hU hM => checkFunc1 bF bI w hU hM)
  clear hU hM
  go_enter Tryz.func9, Tryz.ntmps9
  go_wp2_with fail
  go_loopw [21] (fun s wx => ∃ k : Nat, s = .int .i64 k ∧ k ≤ 1 ∧ wx.cell? ⟨w.heap.size, 0, none⟩ = some (.slice (some ⟨bF, 0, none⟩) 1 1) ∧ Below w.heap.size w wx) (fun s _ => 1 - (intOf s).toNat)
  case atStart => exact ⟨0, rfl, by omega, cell_newB rfl rfl, (Below.refl _ _).alloc (Nat.le_refl _) _⟩
  case round =>
    obtain ⟨k, rfl, hk, hc, hb⟩ := hrel
    have HB := Lib.hid hb
    have HC := Lib.hid hc
    clear hb
    by_cases hk0 : k < 1
    · obtain rfl : k = 0 := by omega
      clear hk hk0
      go_wp2_with (first
        | (go_at_call 11; (with_reducible refine (HCF.out _ (HU.out.keep HB.out) (HM.out.keep HB.out)).mono ?_); rintro e w2 ⟨rfl, hb⟩; have HB2 := Lib.hid hb; clear hb)
        | fail)
      go_roundw
      case rel => exact ⟨1, by go_num, by omega, below_cell HB2.out HC.out, HB.out.trans (HB2.out.mono HB.out.size)⟩
      case measure => simp [intOf]
    · obtain rfl : k = 1 := by omega
      go_wp2_with fail
      refine bodyPost_ret (v := .tuple #[.int .i64 0, .int .i64 0, .int .i64 0]) (by simp [results, Tryz.results9, go_sem]) rfl ⟨rfl, HB.out⟩
set_option maxRecDepth 100000 in
set_option maxHeartbeats 8000000 in
theorem check0 (w : World) : Calls Tryz.prog 9 #[.agg #[.slice none 0 0]] w fun e w' => e = .returned (.tuple #[.int .i64 (-1), .int .i64 (-1), .int .i64 3]) ∧ Below w.heap.size w w' := by
  go_enter Tryz.func9, Tryz.ntmps9
  go_wp2_with fail
  refine bodyPost_ret (v := .tuple #[.int .i64 (-1), .int .i64 (-1), .int .i64 3]) (by simp [results, Tryz.results9, go_sem]) rfl ⟨rfl, (Below.refl _ _).alloc (Nat.le_refl _) _⟩
set_option maxRecDepth 100000 in
set_option maxHeartbeats 2000000 in
theorem sameints_c (u u' : Value) (l : List Int) (w : World) (h1 : Ri w u l) (h2 : Ri w u' l) :
    Calls Tryz.prog 8 #[u, u'] w fun e w' => e = .returned (.bool true) ∧ Below w.heap.size w w' := by
  obtain ⟨p, c, rfl, hc, hm, hp⟩ := ri_form h1
  obtain ⟨p', c', rfl, hc', _, hp'⟩ := ri_form h2
  have HP := Lib.hid hp
  have HP' := Lib.hid hp'
  clear hp hp' h1 h2
  go_enter Tryz.func8, Tryz.ntmps8
  go_wp2_with fail
  go_loopw [5] (fun s wr => ∃ k q : Nat, s = .int .i64 k ∧ k ≤ l.length ∧ wr = w.drewN q) (fun s _ => l.length - (intOf s).toNat)
  case atStart => exact ⟨0, 0, by go_num, Nat.zero_le _, rfl⟩
  case round =>
    obtain ⟨k, q, rfl, hk, rfl⟩ := hrel
    by_cases hlt : k < l.length
    · obtain ⟨b, off, rfl, e1⟩ := HP.out (by omega)
      obtain ⟨b', off', rfl, e2⟩ := HP'.out (by omega)
      replace e1 := e1 k hlt
      replace e2 := e2 k hlt
      obtain ⟨x, hx⟩ : ∃ x, l.getD k 0 = x := ⟨_, rfl⟩
      rw [hx] at e1 e2
      clear hx
      have hlz : (k : Int) < (l.length : Int) := by omega
      go_wp2_with fail
      go_quiet (fail)
      go_wp2_with fail
      go_roundw
      case rel => exact ⟨k + 1, _, by go_num, by omega, rfl⟩
      case measure => simp [intOf]; omega
    · have hlz : ¬ (k : Int) < (l.length : Int) := by omega
      go_wp2_with fail
      go_ret
      exact ⟨rfl, by exact below_drewN (Below.refl _ _) _⟩
/-- The example's instruction. -/
def ckJ : InsD := ⟨21, 1, 2, 0, 0, 0, [3, 2]⟩
theorem ckJ_reads : readsD ckJ = [2, 3, 2] := by decide +kernel
end Go.Proofs.YtebnbgnoldocaaaGreatDoor
