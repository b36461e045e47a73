/- Layer 20: right; rows of words as registers. -/
import Derived.Test.YtilonacjmihglaaPK20
import Derived.Test.YtilonacjmihglaaPFormOf
import Derived.Test.YtilonacjmihglaaPRoomS
import Derived.Test.YtilonacjmihglaaPCopy
import Derived.Test.YtilonacjmihglaaPSame13
import Derived.Test.YtilonacjmihglaaPGRefAll
namespace Go.Proofs.Ytilonacjmihglaa
open Go Go.ChangeShapes Go.WideShapes Go.ChangeAt Go.RowKit
set_option linter.unusedVariables false
set_option linter.unusedSimpArgs false
set_option maxRecDepth 100000 in
set_option maxHeartbeats 1000000 in
theorem right20_any (v : Value) (ws : List Int) (top : Int) (w : World) (hr : Rd w v ws) (hf : Fit ws) (ht : -9223372036854775808 ≤ top ∧ top ≤ 9223372036854775807) :
    Calls Try.prog 5 #[.agg #[v, .int .i64 top]] w fun e w' => e = .returned (.bool (memOk ws top)) ∧ Below w.heap.size w w' := by
  have HL := Lib.hid (fun (wx : World) (hx : Below w.heap.size w wx) => refall_any v ws top wx (hr.keep hx) hf ht)
  obtain ⟨p, c, rfl, hm⟩ := rd_form0 hr
  clear hr hf
  go_enter Try.func5, Try.ntmps5
  go_wp2_with fail
  refine (HL.out _ (by ((repeat' (first | with_reducible assumption | with_reducible exact Below.refl _ _ | with_reducible refine Below.drew ?_ | with_reducible refine Below.alloc ?_ (by first | omega | (simp; omega) | (simp; done) | fail) _ | with_reducible refine Below.setCell ?_ (by first | omega | (simp; omega) | (simp; done) | fail) _ | fail)); (first | done | fail)))).mono ?_
  rintro e w2 ⟨hb2, u, rfl, ho⟩
  have HB2 := Lib.hid (Below.trans (show Below w.heap.size w _ by ((repeat' (first | with_reducible assumption | with_reducible exact Below.refl _ _ | with_reducible refine Below.drew ?_ | with_reducible refine Below.alloc ?_ (by first | omega | (simp; omega) | (simp; done) | fail) _ | with_reducible refine Below.setCell ?_ (by first | omega | (simp; omega) | (simp; done) | fail) _ | fail)); (first | done | fail))) (hb2.mono (by simp)))
  obtain ⟨pu, cu, rfl, _⟩ := ri_form (ri_own ho (by have := objs_len ws top; omega))
  clear hb2 ho
  go_wp2_with fail
  go_ret
  exact ⟨rfl, HB2.out⟩
theorem ints_nat {ls : List Int} (hf : Fit ls) : ints (ls.map Int.toNat) = ls := by
  unfold ints
  rw [List.map_map]
  conv => rhs; rw [← List.map_id ls]
  refine List.map_congr_left fun x hx => ?_
  obtain ⟨i, hi, rfl⟩ := List.getElem_of_mem hx
  have := hf i
  rw [List.getD_eq_getElem?_getD, List.getElem?_eq_getElem hi] at this
  simp only [Option.getD_some] at this
  simp only [Function.comp, id]
  omega
theorem rw_of {w : World} {v : Value} {ls : List Int} (h : Rd w v ls) (hf : Fit ls) : Rw w v (ls.map Int.toNat) := by
  refine ⟨by rw [ints_nat hf]; exact h, fun i => ?_⟩
  have h1 := ints_getD (ls.map Int.toNat) i
  rw [ints_nat hf] at h1
  have := hf i
  omega
end Go.Proofs.Ytilonacjmihglaa
