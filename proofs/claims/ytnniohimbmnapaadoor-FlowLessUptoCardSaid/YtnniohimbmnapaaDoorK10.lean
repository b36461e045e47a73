/- Layer 10: a law's known. -/
import Derived.Test.YtnniohimbmnapaaDoorK10P
import Derived.Test.YtnniohimbmnapaaDoorFLive
import Derived.Test.YtnniohimbmnapaaDoorFHand
import Derived.Test.YtnniohimbmnapaaDoorFSound
import Derived.BigRegion
import Derived.Deep.RegionHeld3
namespace Go.Proofs.YtnniohimbmnapaaDoor
open Go Go.ChangeShapes Go.WideShapes Go.RowKit
set_option linter.unusedVariables false
set_option linter.unusedSimpArgs false
theorem cell_at {w : World} {b o : Nat} {cs : Array Value} {T : TypeId} {v : Value} (hb : b = w.heap.size) (hv : cs[o]? = some v) : (w.alloc (.cells cs T)).cell? ⟨b, o, none⟩ = some v := by
  subst hb
  unfold World.cell?
  rw [heap_alloc_new]
  exact hv
def ins10 : Array Value := #[.int .i64 39, .int .i64 1, .int .i64 0, .int .i64 0, .int .i64 2, .int .i64 0, .slice none 0 0, .int .i64 41, .int .i64 0, .int .i64 1, .int .i64 0, .int .i64 0, .int .i64 0, .slice none 0 0, .int .i64 41, .int .i64 0, .int .i64 1, .int .i64 0, .int .i64 0, .int .i64 0, .slice none 0 0]
theorem ii10 {W : World} {b : Nat} (hc : ∀ o v, ins10[o]? = some v → W.cell? ⟨b, o, none⟩ = some v) : Ii W (.slice (some ⟨b, 0, none⟩) 3 3) F10.ins :=
  .inr ⟨b, 0, 3, rfl, by decide, by decide, fun i hi => ⟨.slice none 0 0, by
    match i, hi with
    | 0, _ => exact ⟨hc _ _ rfl, hc _ _ rfl, hc _ _ rfl, hc _ _ rfl, hc _ _ rfl, hc _ _ rfl, hc _ _ rfl, .inl ⟨none, rfl, rfl⟩, by decide⟩
    | 1, _ => exact ⟨hc _ _ rfl, hc _ _ rfl, hc _ _ rfl, hc _ _ rfl, hc _ _ rfl, hc _ _ rfl, hc _ _ rfl, .inl ⟨none, rfl, rfl⟩, by decide⟩
    | 2, _ => exact ⟨hc _ _ rfl, hc _ _ rfl, hc _ _ rfl, hc _ _ rfl, hc _ _ rfl, hc _ _ rfl, hc _ _ rfl, .inl ⟨none, rfl, rfl⟩, by decide⟩⟩⟩
def rest10 : RestV := ⟨⟨#[]⟩, 0, false, 0, none, 0, 0, none, 0, 0⟩
set_option maxRecDepth 100000 in
set_option maxHeartbeats 2000000 in
theorem known10 (w : World) (hU : Us w) : Calls Tryd.prog 14 #[] w fun e w' => e = .returned (.bool true) ∧ Below w.heap.size w w' := by
  have HU := Lib.hid hU
  clear hU
  go_enter Tryd.func14, Tryd.ntmps14
  go_wp2_with fail
  obtain ⟨cF, hcF⟩ : ∃ c : Array Value, #[Value.string ⟨#[]⟩, .int .i64 0, .int .i64 2, .int .i64 0, .bool false, .int .i64 0, .slice none 0 0, .slice none 0 0, .slice (some ⟨w.heap.size, 0, none⟩) 3 3, .slice none 0 0] = c := ⟨_, rfl⟩
  generalize hW : World.alloc (World.alloc w _) _ = W
  have hsz : W.heap.size = w.heap.size + 2 := by rw [← hW]; simp
  have hbw : Below w.heap.size w W := by rw [← hW]; ((repeat' (first | with_reducible assumption | with_reducible exact Below.refl _ _ | with_reducible refine Below.drew ?_ | with_reducible refine Below.alloc ?_ (by first | omega | (simp; omega) | (simp; done) | fail) _ | with_reducible refine Below.setCell ?_ (by first | omega | (simp; omega) | (simp; done) | fail) _ | fail)); (first | done | fail))
  have hI : Ii W (.slice (some ⟨w.heap.size, 0, none⟩) 3 3) F10.ins := ii10 fun o v h => by rw [← hW]; exact alloc_cell (cell_at rfl h) _
  have hF : ∀ o v, cF[o]? = some v → W.cell? ⟨w.heap.size + 1, o, none⟩ = some v := fun o v h => by rw [← hW]; exact cell_at (by simp) (by rw [← hcF] at h; exact h)
  have f0 := hF 0 _ (by rw [← hcF]; rfl)
  have f1 := hF 1 _ (by rw [← hcF]; rfl)
  have f2 := hF 2 _ (by rw [← hcF]; rfl)
  have f3 := hF 3 _ (by rw [← hcF]; rfl)
  have f4 := hF 4 _ (by rw [← hcF]; rfl)
  have f5 := hF 5 _ (by rw [← hcF]; rfl)
  have f6 := hF 6 _ (by rw [← hcF]; rfl)
  have f7 := hF 7 _ (by rw [← hcF]; rfl)
  have f8 := hF 8 _ (by rw [← hcF]; rfl)
  have f9 := hF 9 _ (by rw [← hcF]; rfl)
  clear hF hcF hW
  refine (live_any rest10 F10 _ _ W (HU.out.keep hbw) hI (.inl ⟨none, rfl, rfl⟩) (by decide)).mono ?_
  rintro e B hL
  unfold LivePost at hL
  rw [if_pos sound10] at hL
  obtain ⟨Y, tg, FV, FF, wv, L, wt, work, sc, rfl, hlk, hok, hlv, hb⟩ := hL
  have hLe := known_rows hok hlv
  subst hLe
  have hli := hlk.live (fun e => by cases e)
  have hr0 := hlk.row 0 (by decide) (fun e => by cases e)
  have hr1 := hlk.row 1 (by decide) (fun e => by cases e)
  have c0 : B.cell? ⟨Y.bL, 0, none⟩ = some (.slice (some ⟨Y.rho 0, 0, none⟩) 1 1) := hli.cell rfl
  have c1 : B.cell? ⟨Y.bL, 1, none⟩ = some (.slice (some ⟨Y.rho 1, 0, none⟩) 1 1) := hli.cell rfl
  have c2 : B.cell? ⟨Y.rho 0, 0, none⟩ = some (.int .u64 3) := hr0.cell rfl
  have c3 : B.cell? ⟨Y.rho 1, 0, none⟩ = some (.int .u64 2) := hr1.cell rfl
  have hIB := hI.keep hb
  have HSO := Lib.hid (sound_any rest10 F10 _ (.slice none 0 0) B ((HU.out.keep hbw).keep hb) hIB (.inl ⟨none, rfl, rfl⟩))
  replace f0 := below_cell hb f0
  replace f1 := below_cell hb f1
  replace f2 := below_cell hb f2
  replace f3 := below_cell hb f3
  replace f4 := below_cell hb f4
  replace f5 := below_cell hb f5
  replace f6 := below_cell hb f6
  replace f7 := below_cell hb f7
  replace f8 := below_cell hb f8
  replace f9 := below_cell hb f9
  have HBB := Lib.hid (hbw.trans (hb.mono (by omega)))
  have HIB := Lib.hid hIB
  have HUB := Lib.hid ((HU.out.keep hbw).keep hb)
  clear hli hr0 hr1 hlk hok hlv hb hIB hI hbw
  go_wp2_with fail
  refine HSO.out.mono ?_
  rintro e C ⟨rfl, hb1⟩
  rw [sound10]
  replace f0 := below_cell hb1 f0
  replace f1 := below_cell hb1 f1
  replace f2 := below_cell hb1 f2
  replace f3 := below_cell hb1 f3
  replace f4 := below_cell hb1 f4
  replace f5 := below_cell hb1 f5
  replace f6 := below_cell hb1 f6
  replace f7 := below_cell hb1 f7
  replace f8 := below_cell hb1 f8
  replace f9 := below_cell hb1 f9
  have HH := Lib.hid (handler_any rest10 F10 (.slice (some ⟨w.heap.size, 0, none⟩) 3 3) (.slice none 0 0) 0 C (HUB.out.keep hb1) (HIB.out.keep hb1) (.inl ⟨none, rfl, rfl⟩))
  have HB1 := Lib.hid hb1
  clear hb1
  go_wp2_with fail
  refine HH.out.mono ?_
  rintro e D ⟨rfl, hb2⟩
  rw [show handlerI F10 0 = -1 from by decide]
  have HB2 := Lib.hid hb2
  clear hb2
  go_wp2_with fail
  go_ret
  exact ⟨rfl, HBB.out.trans ((HB1.out.mono HBB.out.size).trans (HB2.out.mono (Nat.le_trans HBB.out.size HB1.out.size)))⟩
end Go.Proofs.YtnniohimbmnapaaDoor
