/- The law of ArenaAllocs, walked: it answers true and changes nothing that was there. -/
import Derived.Test.YthjipckjjnglpaaAllocAny
import Derived.Test.YthjipckjjnglpaaSame13
import Derived.Test.YthjipckjjnglpaaKnown13
import Derived.Deep.RegionHeld3
namespace Go.Proofs.Ythjipckjjnglpaa
open Go.ChangeShapes Go.WideShapes Go.ChangeAt Go.RowKit
set_option linter.unusedVariables false
set_option linter.unusedSimpArgs false
set_option maxRecDepth 100000 in
set_option maxHeartbeats 1000000 in
theorem lawAllocs (v : Value) (ws : List Int) (top k t r : Int) (w : World) (hr : Rd w v ws) (ht : -9223372036854775808 ≤ top ∧ top ≤ 9223372036854775807) :
    Calls Try.prog 4 #[.agg #[v, .int .i64 top], .int .i64 k, .agg #[.int .i64 t, .int .i64 r]] w fun e w' => e = .returned (.bool true) ∧ Below w.heap.size w w' := by
  obtain ⟨vp, vc, rfl, hl⟩ := hr.bound
  have HR := Lib.hid hr
  clear hr
  go_enter Try.func4, Try.ntmps4
  go_wp2_with fail
  refine (known _).mono ?_
  rintro e w1 ⟨rfl, hb1⟩
  have hB1 : Below w.heap.size w w1 := (((Below.refl _ _).alloc (Nat.le_refl _) _).alloc (by simp) _).trans (hb1.mono (by simp; omega))
  have hx0 : w1.cell? ⟨w.heap.size, 0, none⟩ = some (.slice vp ws.length vc) := below_cell hb1 (alloc_cell (by simp) _)
  have hx1 : w1.cell? ⟨w.heap.size, 1, none⟩ = some (.int .i64 top) := below_cell hb1 (alloc_cell (by simp) _)
  have hy0 : w1.cell? ⟨w.heap.size + 1, 0, none⟩ = some (.int .i64 t) := below_cell hb1 (by simp)
  have hy1 : w1.cell? ⟨w.heap.size + 1, 1, none⟩ = some (.int .i64 r) := below_cell hb1 (by simp)
  clear hb1
  go_wp2_with fail
  go_quiet (fail)
  go_wp2_with fail
  refine (refalloc_any _ ws top k t r _ (HR.out.keep (below_drewN hB1 _)) ht).mono ?_
  rintro e w2 ⟨vw, rfl, hrw, hb2⟩
  have hB2 : Below w.heap.size w w2 := (below_drewN hB1 _).trans (hb2.mono hB1.size)
  have hx0 := below_cell hb2 hx0
  have hx1 := below_cell hb2 hx1
  obtain ⟨pw, cw, rfl, hlw⟩ := hrw.bound
  have HW := Lib.hid hrw
  have HB2 := Lib.hid hB2
  generalize hW2 : w2.heap.size = n2 at *
  clear hb2 hrw hB1 hy0 hy1 hB2
  have hx0' := fun o => alloc_cell hx0 o
  have hx1' := fun o => alloc_cell hx1 o
  generalize hL : resL ws top k t r = L at *
  generalize hTT : resTop ws top k t r = tp at *
  generalize hAA : resAt ws top k t r = at0 at *
  generalize hEE : allocErr ws.length top k t r = er at *
  go_wp2_with fail
  generalize hw3 : World.alloc w2 _ = w3
  have hB3 : Below w.heap.size w w3 := by rw [← hw3]; exact HB2.out.alloc HB2.out.size _
  have hz0 : w3.cell? ⟨n2, 0, none⟩ = some (.slice pw L.length cw) := by rw [← hw3, ← hW2]; simp
  have hz1 : w3.cell? ⟨n2, 1, none⟩ = some (.int .i64 tp) := by rw [← hw3, ← hW2]; simp
  have hRW : Rd w3 (.slice pw L.length cw) L := by rw [← hw3]; exact HW.out.alloc _
  have HW3 := Lib.hid hRW
  have HB3 := Lib.hid hB3
  clear hx0 hx1 hx0' hx1' hw3 hW2 HB2 HW hB3 hRW
  refine (copy13_any _ ws top _ (HR.out.keep HB3.out)).mono ?_
  rintro e w4 ⟨v', rfl, hown, hb4⟩
  obtain ⟨p4, c4, rfl, _⟩ := (own_rd hown hl).bound
  have HO := Lib.hid hown
  have H4 := Lib.hid hb4
  have hz0 := fun o => alloc_cell (below_cell hb4 hz0) o
  have hz1 := fun o => alloc_cell (below_cell hb4 hz1) o
  clear hown hb4
  go_wp2_with fail
  refine (alloc_any w3 w4 _ ws top k t r _ H4.out HO.out hl ht).mono ?_
  rintro e w5 ⟨rfl, g0, g1, g2, hb5⟩
  have hz0 := below_cell hb5 ‹w3.cell? ⟨n2, 0, none⟩ = _›
  have hz1 := below_cell hb5 ‹w3.cell? ⟨n2, 1, none⟩ = _›
  rw [hTT] at g1
  rw [hL] at g2
  rw [hAA, hEE]
  have G2 := Lib.hid g2
  have HW5 := Lib.hid (HW3.out.keep hb5)
  have HB5 := Lib.hid (HB3.out.trans (hb5.mono HB3.out.size))
  clear hb5 g2
  generalize hW4 : w4.heap.size = n4 at *
  clear HO H4
  go_wp2_with fail
  refine (alloc_nil k t r _).mono ?_
  rintro e w6 ⟨rfl, q6, rfl⟩
  have her : 0 ≤ er ∧ er ≤ 5 := by rw [← hEE]; rcases err_cases ws.length top k t r with ⟨h, _⟩ | h | h <;> omega
  go_wp2_with fail
  refine (same13 _ _ L tp _ (G2.out.keep (below_drewN (Below.refl _ _) _)) (HW5.out.keep (below_drewN (Below.refl _ _) _))).mono ?_
  rintro e w7 ⟨rfl, hb7⟩
  have hB7 := (below_drewN HB5.out q6).trans (hb7.mono (by have := HB5.out.size; simpa using this))
  clear hb7
  go_wp2_with fail
  go_ret
  exact ⟨rfl, hB7⟩
end Go.Proofs.Ythjipckjjnglpaa
