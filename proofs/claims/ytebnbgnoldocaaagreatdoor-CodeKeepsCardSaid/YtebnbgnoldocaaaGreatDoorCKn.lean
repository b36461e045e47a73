/- Layer 8: the chapter's examples: code.Check at one small code. -/
import Derived.Test.YtebnbgnoldocaaaGreatDoorFCodeZ
import Derived.Deep.QuietTactic
import Derived.BigQuiet
import Derived.WalkSmall
import Derived.Deep.RegionHeld3
namespace Go.Proofs.YtebnbgnoldocaaaGreatDoor
open Go Go.ChangeShapes Go.WideShapes Go.RowKit
set_option linter.unusedVariables false
set_option linter.unusedSimpArgs false
theorem cell_newB {w : World} {cs : Array Value} {T : TypeId} {k b : Nat} {v : Value} (hb : b = w.heap.size) (h : cs[k]? = some v) : (w.alloc (.cells cs T)).cell? ⟨b, k, none⟩ = some v := by
  subst hb
  exact cell_new h
def ckF (bI : Nat) : Value := .agg #[.string ⟨#[]⟩, .int .i64 0, .int .i64 1, .int .i64 0, .bool false, .int .i64 0, .slice none 0 0, .slice none 0 0, .slice (some ⟨bI, 0, none⟩) 1 1, .slice none 0 0]
def ckI : Value := .agg #[.int .i64 41, .int .i64 0, .int .i64 0, .int .i64 0, .int .i64 0, .int .i64 0, .slice none 0 0]
theorem does41 : doesB 41 1 = false ∧ doesB 41 2 = true ∧ doesB 41 4 = false ∧ doesB 41 32 = false ∧ doesB 41 128 = true ∧ knownB 41 = true := by decide +kernel
set_option maxHeartbeats 1000000 in
theorem within01 (w : World) : Calls Tryz.prog 20 #[.int .i64 0, .int .i64 1] w fun e w' => e = .returned (.bool true) ∧ w = w' := by
  go_enter Tryz.func20, Tryz.ntmps20
  go_wp2_with fail
  go_ret
  exact ⟨rfl, rfl⟩
set_option maxHeartbeats 1000000 in
theorem field_no (n : Int) (w : World) : Calls Tryz.prog 17 #[.bool false, .int .i64 0, .int .i64 n] w fun e w' => e = .returned (.bool true) ∧ w = w' := by
  go_enter Tryz.func17, Tryz.ntmps17
  go_wp2_with fail
  go_ret
  exact ⟨rfl, rfl⟩
set_option maxHeartbeats 1000000 in
theorem field_yes (w : World) : Calls Tryz.prog 17 #[.bool true, .int .i64 0, .int .i64 1] w fun e w' => e = .returned (.bool true) ∧ w = w' := by
  go_enter Tryz.func17, Tryz.ntmps17
  go_wp2_with (first | (go_at_call 20; (with_reducible refine (within01 _).mono ?_); rintro e w9 ⟨rfl, rfl⟩) | fail)
  go_ret
  exact ⟨rfl, rfl⟩
set_option maxRecDepth 100000 in
set_option maxHeartbeats 4000000 in
theorem rightK41 (u : Value) (bI : Nat) (w : World) : Calls Tryz.prog 18 #[.agg #[u], ckF bI, ckI] w fun e w' => e = .returned (.bool true) ∧ Below w.heap.size w w' := by
  unfold ckF ckI
  go_enter Tryz.func18, Tryz.ntmps18
  go_wp2_with fail
  go_ret
  exact ⟨rfl, by ((repeat' (first | with_reducible assumption | with_reducible exact Below.refl _ _ | with_reducible refine Below.drew ?_ | with_reducible refine Below.alloc ?_ (by first | omega | (simp; omega) | (simp; done) | fail) _ | with_reducible refine Below.setCell ?_ (by first | omega | (simp; omega) | (simp; done) | fail) _ | fail)); (first | done | fail))⟩
set_option maxRecDepth 100000 in
set_option maxHeartbeats 4000000 in
theorem rightL41 (u : Value) (bI : Nat) (w : World) : Calls Tryz.prog 19 #[.agg #[u], ckF bI, ckI] w fun e w' => e = .returned (.bool true) ∧ Below w.heap.size w w' := by
  unfold ckF ckI
  go_enter Tryz.func19, Tryz.ntmps19
  go_wp2_with fail
  go_loop [50] (fun s => s = .int .i64 0) (fun _ => 0)
  case atStart => exact rfl
  case round =>
    subst hrel
    go_wp2_with fail
    go_ret
    exact ⟨rfl, by ((repeat' (first | with_reducible assumption | with_reducible exact Below.refl _ _ | with_reducible refine Below.drew ?_ | with_reducible refine Below.alloc ?_ (by first | omega | (simp; omega) | (simp; done) | fail) _ | with_reducible refine Below.setCell ?_ (by first | omega | (simp; omega) | (simp; done) | fail) _ | fail)); (first | done | fail))⟩
set_option maxRecDepth 100000 in
set_option maxHeartbeats 4000000 in
theorem rightHead1 (bI : Nat) (w : World) : Calls Tryz.prog 13 #[ckF bI] w fun e w' => e = .returned (.bool true) ∧ Below w.heap.size w w' := by
  unfold ckF
  go_enter Tryz.func13, Tryz.ntmps13
  go_wp2_with fail
  go_loop [46] (fun s => s = .int .i64 0) (fun _ => 0)
  case atStart => exact rfl
  case round =>
    subst hrel
    go_wp2_with fail
    go_loop [57] (fun s => s = .int .i64 0) (fun _ => 0)
    case atStart => exact rfl
    case round =>
      subst hrel
      go_wp2_with fail
      go_ret
      exact ⟨rfl, by ((repeat' (first | with_reducible assumption | with_reducible exact Below.refl _ _ | with_reducible refine Below.drew ?_ | with_reducible refine Below.alloc ?_ (by first | omega | (simp; omega) | (simp; done) | fail) _ | with_reducible refine Below.setCell ?_ (by first | omega | (simp; omega) | (simp; done) | fail) _ | fail)); (first | done | fail))⟩
end Go.Proofs.YtebnbgnoldocaaaGreatDoor
