/- Layer 8: the chapter's examples: code.Check at one small code: its one instruction. -/
import Derived.Test.YtebnbgnoldocaaaGreatDoorCKn
import Derived.Deep.QuietTactic
import Derived.BigQuiet
import Derived.WalkSmall
import Derived.Deep.RegionHeld3
namespace Go.Proofs.YtebnbgnoldocaaaGreatDoor
open Go Go.ChangeShapes Go.WideShapes Go.RowKit
set_option linter.unusedVariables false
set_option linter.unusedSimpArgs false
set_option maxRecDepth 100000 in
set_option maxHeartbeats 8000000 in
theorem rightIns41 (u : Value) (bI : Nat) (w : World) (hU : Us w) : Calls Tryz.prog 14 #[.agg #[u], ckF bI, ckI] w fun e w' => e = .returned (.bool true) ∧ Below w.heap.size w w' := by
  have HU := Lib.hid hU
  have HK := Lib.hid (fun w => rightK41 u bI w)
  have HL := Lib.hid (fun w => rightL41 u bI w)
  have H1 := Lib.hid (fun (wx : World) (hx : Us wx) => (show Calls Tryz.prog 10 #[.int .i64 41, .int .i64 1] wx _ from does_at wx hx does41.1))
  have H2 := Lib.hid (fun (wx : World) (hx : Us wx) => (show Calls Tryz.prog 10 #[.int .i64 41, .int .i64 2] wx _ from does_at wx hx does41.2.1))
  have H4 := Lib.hid (fun (wx : World) (hx : Us wx) => (show Calls Tryz.prog 10 #[.int .i64 41, .int .i64 4] wx _ from does_at wx hx does41.2.2.1))
  have H32 := Lib.hid (fun (wx : World) (hx : Us wx) => (show Calls Tryz.prog 10 #[.int .i64 41, .int .i64 32] wx _ from does_at wx hx does41.2.2.2.1))
  have HKN := Lib.hid (fun (wx : World) => (show Calls Tryz.prog 12 #[.int .i64 41] wx (fun e w' => e = .returned (.bool true) ∧ wx = w') from by have := known_any 41 wx; rw [does41.2.2.2.2.2] at this; exact this))
  clear hU
  unfold ckF ckI at HK HL ⊢
  go_enter Tryz.func14, Tryz.ntmps14
  go_wp2_with (first
    | (go_at_call 12; (with_reducible refine (HKN.out _).mono ?_); rintro e w9 ⟨rfl, rfl⟩)
    | fail)
  generalize hw2 : World.alloc (World.alloc (World.alloc w _) _) _ = w2
  have HB2 := Lib.hid (show Below w.heap.size w w2 by rw [← hw2]; ((repeat' (first | with_reducible assumption | with_reducible exact Below.refl _ _ | with_reducible refine Below.drew ?_ | with_reducible refine Below.alloc ?_ (by first | omega | (simp; omega) | (simp; done) | fail) _ | with_reducible refine Below.setCell ?_ (by first | omega | (simp; omega) | (simp; done) | fail) _ | fail)); (first | done | fail)))
  have ac0 : w2.cell? ⟨w.heap.size, 0, none⟩ = some (u) := by rw [← hw2]; exact alloc_cell (alloc_cell (cell_newB rfl rfl) _) _
  have af0 : w2.cell? ⟨w.heap.size + 1, 0, none⟩ = some (.string ⟨#[]⟩) := by rw [← hw2]; exact alloc_cell (cell_newB (by simp) rfl) _
  have af1 : w2.cell? ⟨w.heap.size + 1, 1, none⟩ = some (.int .i64 0) := by rw [← hw2]; exact alloc_cell (cell_newB (by simp) rfl) _
  have af2 : w2.cell? ⟨w.heap.size + 1, 2, none⟩ = some (.int .i64 1) := by rw [← hw2]; exact alloc_cell (cell_newB (by simp) rfl) _
  have af3 : w2.cell? ⟨w.heap.size + 1, 3, none⟩ = some (.int .i64 0) := by rw [← hw2]; exact alloc_cell (cell_newB (by simp) rfl) _
  have af4 : w2.cell? ⟨w.heap.size + 1, 4, none⟩ = some (.bool false) := by rw [← hw2]; exact alloc_cell (cell_newB (by simp) rfl) _
  have af5 : w2.cell? ⟨w.heap.size + 1, 5, none⟩ = some (.int .i64 0) := by rw [← hw2]; exact alloc_cell (cell_newB (by simp) rfl) _
  have af6 : w2.cell? ⟨w.heap.size + 1, 6, none⟩ = some (.slice none 0 0) := by rw [← hw2]; exact alloc_cell (cell_newB (by simp) rfl) _
  have af7 : w2.cell? ⟨w.heap.size + 1, 7, none⟩ = some (.slice none 0 0) := by rw [← hw2]; exact alloc_cell (cell_newB (by simp) rfl) _
  have af8 : w2.cell? ⟨w.heap.size + 1, 8, none⟩ = some (.slice (some ⟨bI, 0, none⟩) 1 1) := by rw [← hw2]; exact alloc_cell (cell_newB (by simp) rfl) _
  have af9 : w2.cell? ⟨w.heap.size + 1, 9, none⟩ = some (.slice none 0 0) := by rw [← hw2]; exact alloc_cell (cell_newB (by simp) rfl) _
  have ai0 : w2.cell? ⟨w.heap.size + 1 + 1, 0, none⟩ = some (.int .i64 41) := by rw [← hw2]; exact cell_newB (by simp) rfl
  have ai1 : w2.cell? ⟨w.heap.size + 1 + 1, 1, none⟩ = some (.int .i64 0) := by rw [← hw2]; exact cell_newB (by simp) rfl
  have ai2 : w2.cell? ⟨w.heap.size + 1 + 1, 2, none⟩ = some (.int .i64 0) := by rw [← hw2]; exact cell_newB (by simp) rfl
  have ai3 : w2.cell? ⟨w.heap.size + 1 + 1, 3, none⟩ = some (.int .i64 0) := by rw [← hw2]; exact cell_newB (by simp) rfl
  have ai4 : w2.cell? ⟨w.heap.size + 1 + 1, 4, none⟩ = some (.int .i64 0) := by rw [← hw2]; exact cell_newB (by simp) rfl
  have ai5 : w2.cell? ⟨w.heap.size + 1 + 1, 5, none⟩ = some (.int .i64 0) := by rw [← hw2]; exact cell_newB (by simp) rfl
  have ai6 : w2.cell? ⟨w.heap.size + 1 + 1, 6, none⟩ = some (.slice none 0 0) := by rw [← hw2]; exact cell_newB (by simp) rfl
  clear hw2
  have HU2 := Lib.hid (HU.out.keep HB2.out)
  have HUD := Lib.hid (HU.out.keep (HB2.out.drew))
  have dc0 : w2.drew.cell? ⟨w.heap.size, 0, none⟩ = some (u) := ac0
  have df0 : w2.drew.cell? ⟨w.heap.size + 1, 0, none⟩ = some (.string ⟨#[]⟩) := af0
  have df1 : w2.drew.cell? ⟨w.heap.size + 1, 1, none⟩ = some (.int .i64 0) := af1
  have df2 : w2.drew.cell? ⟨w.heap.size + 1, 2, none⟩ = some (.int .i64 1) := af2
  have df3 : w2.drew.cell? ⟨w.heap.size + 1, 3, none⟩ = some (.int .i64 0) := af3
  have df4 : w2.drew.cell? ⟨w.heap.size + 1, 4, none⟩ = some (.bool false) := af4
  have df5 : w2.drew.cell? ⟨w.heap.size + 1, 5, none⟩ = some (.int .i64 0) := af5
  have df6 : w2.drew.cell? ⟨w.heap.size + 1, 6, none⟩ = some (.slice none 0 0) := af6
  have df7 : w2.drew.cell? ⟨w.heap.size + 1, 7, none⟩ = some (.slice none 0 0) := af7
  have df8 : w2.drew.cell? ⟨w.heap.size + 1, 8, none⟩ = some (.slice (some ⟨bI, 0, none⟩) 1 1) := af8
  have df9 : w2.drew.cell? ⟨w.heap.size + 1, 9, none⟩ = some (.slice none 0 0) := af9
  have di0 : w2.drew.cell? ⟨w.heap.size + 1 + 1, 0, none⟩ = some (.int .i64 41) := ai0
  have di1 : w2.drew.cell? ⟨w.heap.size + 1 + 1, 1, none⟩ = some (.int .i64 0) := ai1
  have di2 : w2.drew.cell? ⟨w.heap.size + 1 + 1, 2, none⟩ = some (.int .i64 0) := ai2
  have di3 : w2.drew.cell? ⟨w.heap.size + 1 + 1, 3, none⟩ = some (.int .i64 0) := ai3
  have di4 : w2.drew.cell? ⟨w.heap.size + 1 + 1, 4, none⟩ = some (.int .i64 0) := ai4
  have di5 : w2.drew.cell? ⟨w.heap.size + 1 + 1, 5, none⟩ = some (.int .i64 0) := ai5
  have di6 : w2.drew.cell? ⟨w.heap.size + 1 + 1, 6, none⟩ = some (.slice none 0 0) := ai6
  clear ac0 af0 af1 af2 af3 af4 af5 af6 af7 af8 af9 ai0 ai1 ai2 ai3 ai4 ai5 ai6
  go_region_held3 (fun w' => w'.cell? ⟨w.heap.size, 0, none⟩ = some (u) ∧ w'.cell? ⟨w.heap.size + 1, 0, none⟩ = some (.string ⟨#[]⟩) ∧ w'.cell? ⟨w.heap.size + 1, 1, none⟩ = some (.int .i64 0) ∧ w'.cell? ⟨w.heap.size + 1, 2, none⟩ = some (.int .i64 1) ∧ w'.cell? ⟨w.heap.size + 1, 3, none⟩ = some (.int .i64 0) ∧ w'.cell? ⟨w.heap.size + 1, 4, none⟩ = some (.bool false) ∧ w'.cell? ⟨w.heap.size + 1, 5, none⟩ = some (.int .i64 0) ∧ w'.cell? ⟨w.heap.size + 1, 6, none⟩ = some (.slice none 0 0) ∧ w'.cell? ⟨w.heap.size + 1, 7, none⟩ = some (.slice none 0 0) ∧ w'.cell? ⟨w.heap.size + 1, 8, none⟩ = some (.slice (some ⟨bI, 0, none⟩) 1 1) ∧ w'.cell? ⟨w.heap.size + 1, 9, none⟩ = some (.slice none 0 0) ∧ w'.cell? ⟨w.heap.size + 1 + 1, 0, none⟩ = some (.int .i64 41) ∧ w'.cell? ⟨w.heap.size + 1 + 1, 1, none⟩ = some (.int .i64 0) ∧ w'.cell? ⟨w.heap.size + 1 + 1, 2, none⟩ = some (.int .i64 0) ∧ w'.cell? ⟨w.heap.size + 1 + 1, 3, none⟩ = some (.int .i64 0) ∧ w'.cell? ⟨w.heap.size + 1 + 1, 4, none⟩ = some (.int .i64 0) ∧ w'.cell? ⟨w.heap.size + 1 + 1, 5, none⟩ = some (.int .i64 0) ∧ w'.cell? ⟨w.heap.size + 1 + 1, 6, none⟩ = some (.slice none 0 0)) (first | ((repeat' (first | assumption | apply And.intro)); done) | fail) (first
    | (go_at_call 10; (with_reducible refine (H1.out _ HUD.out).mono ?_); rintro e w9 ⟨rfl, rfl⟩)
    | (go_at_call 10; (with_reducible refine (H2.out _ HUD.out).mono ?_); rintro e w9 ⟨rfl, rfl⟩)
    | (go_at_call 10; (with_reducible refine (H4.out _ HUD.out).mono ?_); rintro e w9 ⟨rfl, rfl⟩)
    | (go_at_call 10; (with_reducible refine (H32.out _ HUD.out).mono ?_); rintro e w9 ⟨rfl, rfl⟩)
    | (go_at_call 17; (with_reducible refine (field_no 1 _).mono ?_); rintro e w9 ⟨rfl, rfl⟩)
    | (go_at_call 17; (with_reducible refine (field_yes _).mono ?_); rintro e w9 ⟨rfl, rfl⟩)
    | (go_at_call 18; (with_reducible refine (HK.out _).mono ?_); rintro e w9 ⟨rfl, hb⟩; have kc0 := below_cell hb dc0; have kf0 := below_cell hb df0; have kf1 := below_cell hb df1; have kf2 := below_cell hb df2; have kf3 := below_cell hb df3; have kf4 := below_cell hb df4; have kf5 := below_cell hb df5; have kf6 := below_cell hb df6; have kf7 := below_cell hb df7; have kf8 := below_cell hb df8; have kf9 := below_cell hb df9; have ki0 := below_cell hb di0; have ki1 := below_cell hb di1; have ki2 := below_cell hb di2; have ki3 := below_cell hb di3; have ki4 := below_cell hb di4; have ki5 := below_cell hb di5; have ki6 := below_cell hb di6; have HB9 := Lib.hid (HB2.out.drew.trans (hb.mono HB2.out.drew.size)); clear hb)
    | (go_at_call 19; (with_reducible refine (HL.out _).mono ?_); rintro e w10 ⟨rfl, hb⟩; have mc0 := below_cell hb kc0; have mf0 := below_cell hb kf0; have mf1 := below_cell hb kf1; have mf2 := below_cell hb kf2; have mf3 := below_cell hb kf3; have mf4 := below_cell hb kf4; have mf5 := below_cell hb kf5; have mf6 := below_cell hb kf6; have mf7 := below_cell hb kf7; have mf8 := below_cell hb kf8; have mf9 := below_cell hb kf9; have mi0 := below_cell hb ki0; have mi1 := below_cell hb ki1; have mi2 := below_cell hb ki2; have mi3 := below_cell hb ki3; have mi4 := below_cell hb ki4; have mi5 := below_cell hb ki5; have mi6 := below_cell hb ki6; have HB10 := Lib.hid (HB9.out.trans (hb.mono HB9.out.size)); clear hb)
    | fail)
  go_wp2_with fail
  go_ret
  exact ⟨rfl, HB10.out⟩
end Go.Proofs.YtebnbgnoldocaaaGreatDoor
