/- Layer 10: the statement on Sound, Handler and Ways: the walk. -/
import Derived.Test.YtnniohimbmnapaaDoorK10
import Derived.Test.YtnniohimbmnapaaDoorFRefS
import Derived.Test.YtnniohimbmnapaaDoorFRefW
import Derived.Test.YtnniohimbmnapaaDoorFRefW0
import Derived.Test.YtnniohimbmnapaaDoorFWaysN
import Derived.Deep.QuietTactic
import Derived.BigQuiet
import Derived.WalkSmall
namespace Go.Proofs.YtnniohimbmnapaaDoor
open Go Go.ChangeShapes Go.WideShapes Go.RowKit
set_option linter.unusedVariables false
set_option linter.unusedSimpArgs false
theorem Box10.all {w : World} {g : Nat} {r : RestV} {F : FuncD} {iv rv : Value} (h : Box10 w g r F iv rv) :
    w.cell? ⟨g, 0, none⟩ = some (.string r.name) ∧ w.cell? ⟨g, 1, none⟩ = some (.int .i64 F.params) ∧ w.cell? ⟨g, 2, none⟩ = some (.int .i64 F.regs) ∧ w.cell? ⟨g, 3, none⟩ = some (.int .i64 r.frees) ∧ w.cell? ⟨g, 4, none⟩ = some (.bool r.gen) ∧ w.cell? ⟨g, 5, none⟩ = some (.int .i64 r.bound) ∧ w.cell? ⟨g, 6, none⟩ = some (.slice r.np r.nn r.nc) ∧ w.cell? ⟨g, 7, none⟩ = some (.slice r.cp r.cn r.cc) ∧ w.cell? ⟨g, 8, none⟩ = some iv ∧ w.cell? ⟨g, 9, none⟩ = some rv :=
  ⟨h.c0, h.c1, h.c2, h.c3, h.c4, h.c5, h.c6, h.c7, h.c8, h.c9⟩
/-- Where the ways from any place lead. -/
def waysA (F : FuncD) (x : Int) : List (Int × List Int) := if inB x F.ins.length then waysD F x.toNat else []
theorem waysA_le (F : FuncD) (x : Int) : (waysA F x).length ≤ 3 := by
  unfold waysA
  split
  · exact waysD_le F _
  · simp
theorem inB_nat {x n : Int} (h : inB x n = true) : ∃ k : Nat, x = k ∧ (k : Int) < n := by
  unfold inB at h
  simp at h
  exact ⟨x.toNat, by omega, by omega⟩
theorem ways_all (r : RestV) (F : FuncD) (iv rv : Value) (x : Int) (w : World) (hU : Us w) (hI : Ii w iv F.ins) (hR : Rg w rv F.regions) :
    Calls Tryd.prog 19 #[funcV r F iv rv, .int .i64 x] w (LPost w ((waysA F x).map (·.1))) := by
  unfold waysA
  cases h : inB x F.ins.length with
  | true =>
    obtain ⟨k, rfl, hk⟩ := inB_nat h
    simp only [if_true, Int.toNat_natCast]
    exact ways_any r F iv rv k w hU hI hR (by omega)
  | false =>
    simp only [Bool.false_eq_true, if_false]
    exact (ways_none r F iv rv x w hI hR h).mono fun e w' ⟨he, hb⟩ => ⟨_, he, OW.nil _ _, hb⟩
theorem rways_all (r : RestV) (F : FuncD) (iv rv : Value) (x : Int) (w : World) (hU : Us w) (hI : Ii w iv F.ins) (hR : Rg w rv F.regions) :
    Calls Tryd.prog 20 #[funcV r F iv rv, .int .i64 x] w (WPost w (waysA F x)) := by
  unfold waysA
  cases h : inB x F.ins.length with
  | true =>
    obtain ⟨k, rfl, hk⟩ := inB_nat h
    simp only [if_true, Int.toNat_natCast]
    exact rways_any r F iv rv k w hU hI hR (by omega)
  | false =>
    simp only [Bool.false_eq_true, if_false]
    exact (rways_none r F iv rv x w hI hR h).mono fun e w' ⟨he, hb⟩ => ⟨_, he, WO.nil _ _, hb⟩
set_option maxRecDepth 100000 in
set_option maxHeartbeats 8000000 in
theorem law_ways (r : RestV) (F : FuncD) (iv rv : Value) (x : Int) (w : World) (hU : Us w) (hI : Ii w iv F.ins) (hR : Rg w rv F.regions) :
    Calls Tryd.prog 3 #[funcV r F iv rv, .int .i64 x] w fun e w' => e = .returned (.bool true) ∧ Below w.heap.size w w' := by
  have HSO := sound_any r F iv rv
  have HSR := rsound_any r F iv rv
  have HHF := handler_any r F iv rv x
  have HHR := rhandler_any r F iv rv x
  have HWF := ways_all r F iv rv x
  have HWR := rways_all r F iv rv x
  obtain ⟨p, c, rfl, _, _, _⟩ := ii_form hI
  obtain ⟨p2, c2, rfl, _, _, _⟩ := rg_form hR
  unfold funcV SPost at HSO HSR
  unfold funcV at HHF HHR HWF HWR ⊢
  replace HSO := Lib.hid HSO
  replace HSR := Lib.hid HSR
  replace HHF := Lib.hid HHF
  replace HHR := Lib.hid HHR
  replace HWF := Lib.hid HWF
  replace HWR := Lib.hid HWR
  go_enter Tryd.func3, Tryd.ntmps3
  go_wp2_with fail
  have HX := Lib.hid (Box10.new w r F (.slice p F.ins.length c) (.slice p2 F.regions.length c2) 27)
  have HB0 := Lib.hid (show Below w.heap.size w (w.alloc (.cells #[.string r.name, .int .i64 F.params, .int .i64 F.regs, .int .i64 r.frees, .bool r.gen, .int .i64 r.bound, .slice r.np r.nn r.nc, .slice r.cp r.cn r.cc, .slice p F.ins.length c, .slice p2 F.regions.length c2] 27)) from by ((repeat' (first | with_reducible assumption | with_reducible exact Below.refl _ _ | with_reducible refine Below.drew ?_ | with_reducible refine Below.alloc ?_ (by first | omega | (simp; omega) | (simp; done) | fail) _ | with_reducible refine Below.setCell ?_ (by first | omega | (simp; omega) | (simp; done) | fail) _ | fail)); (first | done | fail)))
  have hz : (w.alloc (.cells #[.string r.name, .int .i64 F.params, .int .i64 F.regs, .int .i64 r.frees, .bool r.gen, .int .i64 r.bound, .slice r.np r.nn r.nc, .slice r.cp r.cn r.cc, .slice p F.ins.length c, .slice p2 F.regions.length c2] 27)).heap.size = w.heap.size + 1 := by simp
  generalize w.alloc (.cells #[.string r.name, .int .i64 F.params, .int .i64 F.regs, .int .i64 r.frees, .bool r.gen, .int .i64 r.bound, .slice r.np r.nn r.nc, .slice r.cp r.cn r.cc, .slice p F.ins.length c, .slice p2 F.regions.length c2] 27) = W0 at HX HB0 hz ⊢
  have hg0 : w.heap.size < W0.heap.size := by omega
  obtain ⟨g0, hge⟩ : ∃ g0, w.heap.size = g0 := ⟨_, rfl⟩
  rw [hge] at HX HB0 hg0 ⊢
  have HGE := Lib.hid hge
  have HU := Lib.hid (hU.low (hge ▸ hU.1) HB0.out)
  have HI := Lib.hid (hI.keep (hge ▸ HB0.out))
  have HR := Lib.hid (hR.keep (hge ▸ HB0.out))
  clear hz hge hU hI hR
  obtain ⟨sb, hsb⟩ : ∃ b, soundB F = b := ⟨_, rfl⟩
  rw [hsb] at HSO HSR
  obtain ⟨hh, hhe⟩ : ∃ q, handlerI F x = q := ⟨_, rfl⟩
  rw [hhe] at HHF HHR
  clear hsb hhe
  have n1 : (sb != sb) = false := by cases sb <;> rfl
  have n2 : (hh != hh) = false := by simp
  have hT := (HX.out.keep ((Below.refl W0.heap.size W0).drew) hg0).all
  go_region_held3 (fun w' => w'.cell? ⟨g0, 0, none⟩ = some (.string r.name) ∧ w'.cell? ⟨g0, 1, none⟩ = some (.int .i64 F.params) ∧ w'.cell? ⟨g0, 2, none⟩ = some (.int .i64 F.regs) ∧ w'.cell? ⟨g0, 3, none⟩ = some (.int .i64 r.frees) ∧ w'.cell? ⟨g0, 4, none⟩ = some (.bool r.gen) ∧ w'.cell? ⟨g0, 5, none⟩ = some (.int .i64 r.bound) ∧ w'.cell? ⟨g0, 6, none⟩ = some (.slice r.np r.nn r.nc) ∧ w'.cell? ⟨g0, 7, none⟩ = some (.slice r.cp r.cn r.cc) ∧ w'.cell? ⟨g0, 8, none⟩ = some (.slice p F.ins.length c) ∧ w'.cell? ⟨g0, 9, none⟩ = some (.slice p2 F.regions.length c2))
    (first | go_keep | (exact (HX.out.keep hE hg0).all) | (exact (HX.out.keep hD hg0).all) | (exact (HX.out.keep hC hg0).all) | (exact (HX.out.keep hB hg0).all) | (exact (HX.out.keep hA hg0).all) | fail)
    (first
      | (go_at_call 14; (with_reducible refine (known10 _ (HU.out.keep (by ((repeat' (first | with_reducible assumption | with_reducible exact Below.refl _ _ | with_reducible refine Below.drew ?_ | with_reducible refine Below.alloc ?_ (by first | omega | (simp; omega) | (simp; done) | fail) _ | with_reducible refine Below.setCell ?_ (by first | omega | (simp; omega) | (simp; done) | fail) _ | fail)); (first | done | fail))))).mono ?_); rintro e wA ⟨rfl, hb⟩; have hA : Below W0.heap.size W0 wA := Below.trans (by ((repeat' (first | with_reducible assumption | with_reducible exact Below.refl _ _ | with_reducible refine Below.drew ?_ | with_reducible refine Below.alloc ?_ (by first | omega | (simp; omega) | (simp; done) | fail) _ | with_reducible refine Below.setCell ?_ (by first | omega | (simp; omega) | (simp; done) | fail) _ | fail)); (first | done | fail)) : Below W0.heap.size W0 _) hb; have hsA := hA.size; clear hb)
      | (go_at_call 15; (with_reducible refine (HSO.out _ (HU.out.keep (by ((repeat' (first | with_reducible assumption | with_reducible exact Below.refl _ _ | with_reducible refine Below.drew ?_ | with_reducible refine Below.alloc ?_ (by first | omega | (simp; omega) | (simp; done) | fail) _ | with_reducible refine Below.setCell ?_ (by first | omega | (simp; omega) | (simp; done) | fail) _ | fail)); (first | done | fail)))) (HI.out.keep (by ((repeat' (first | with_reducible assumption | with_reducible exact Below.refl _ _ | with_reducible refine Below.drew ?_ | with_reducible refine Below.alloc ?_ (by first | omega | (simp; omega) | (simp; done) | fail) _ | with_reducible refine Below.setCell ?_ (by first | omega | (simp; omega) | (simp; done) | fail) _ | fail)); (first | done | fail)))) (HR.out.keep (by ((repeat' (first | with_reducible assumption | with_reducible exact Below.refl _ _ | with_reducible refine Below.drew ?_ | with_reducible refine Below.alloc ?_ (by first | omega | (simp; omega) | (simp; done) | fail) _ | with_reducible refine Below.setCell ?_ (by first | omega | (simp; omega) | (simp; done) | fail) _ | fail)); (first | done | fail))))).mono ?_); rintro e wB ⟨rfl, hb⟩; have hB : Below W0.heap.size W0 wB := Below.trans (by ((repeat' (first | with_reducible assumption | with_reducible exact Below.refl _ _ | with_reducible refine Below.drew ?_ | with_reducible refine Below.alloc ?_ (by first | omega | (simp; omega) | (simp; done) | fail) _ | with_reducible refine Below.setCell ?_ (by first | omega | (simp; omega) | (simp; done) | fail) _ | fail)); (first | done | fail)) : Below W0.heap.size W0 _) (hb.mono (by first | omega | (simp; omega))); have hsB := hB.size; clear hb)
      | (go_at_call 16; (with_reducible refine (HSR.out _ (HU.out.keep (by ((repeat' (first | with_reducible assumption | with_reducible exact Below.refl _ _ | with_reducible refine Below.drew ?_ | with_reducible refine Below.alloc ?_ (by first | omega | (simp; omega) | (simp; done) | fail) _ | with_reducible refine Below.setCell ?_ (by first | omega | (simp; omega) | (simp; done) | fail) _ | fail)); (first | done | fail)))) (HI.out.keep (by ((repeat' (first | with_reducible assumption | with_reducible exact Below.refl _ _ | with_reducible refine Below.drew ?_ | with_reducible refine Below.alloc ?_ (by first | omega | (simp; omega) | (simp; done) | fail) _ | with_reducible refine Below.setCell ?_ (by first | omega | (simp; omega) | (simp; done) | fail) _ | fail)); (first | done | fail)))) (HR.out.keep (by ((repeat' (first | with_reducible assumption | with_reducible exact Below.refl _ _ | with_reducible refine Below.drew ?_ | with_reducible refine Below.alloc ?_ (by first | omega | (simp; omega) | (simp; done) | fail) _ | with_reducible refine Below.setCell ?_ (by first | omega | (simp; omega) | (simp; done) | fail) _ | fail)); (first | done | fail))))).mono ?_); rintro e wC ⟨rfl, hb⟩; have hC : Below W0.heap.size W0 wC := Below.trans (by ((repeat' (first | with_reducible assumption | with_reducible exact Below.refl _ _ | with_reducible refine Below.drew ?_ | with_reducible refine Below.alloc ?_ (by first | omega | (simp; omega) | (simp; done) | fail) _ | with_reducible refine Below.setCell ?_ (by first | omega | (simp; omega) | (simp; done) | fail) _ | fail)); (first | done | fail)) : Below W0.heap.size W0 _) (hb.mono (by first | omega | (simp; omega))); have hsC := hC.size; clear hb)
      | (go_at_call 17; (with_reducible refine (HHF.out _ (HU.out.keep (by ((repeat' (first | with_reducible assumption | with_reducible exact Below.refl _ _ | with_reducible refine Below.drew ?_ | with_reducible refine Below.alloc ?_ (by first | omega | (simp; omega) | (simp; done) | fail) _ | with_reducible refine Below.setCell ?_ (by first | omega | (simp; omega) | (simp; done) | fail) _ | fail)); (first | done | fail)))) (HI.out.keep (by ((repeat' (first | with_reducible assumption | with_reducible exact Below.refl _ _ | with_reducible refine Below.drew ?_ | with_reducible refine Below.alloc ?_ (by first | omega | (simp; omega) | (simp; done) | fail) _ | with_reducible refine Below.setCell ?_ (by first | omega | (simp; omega) | (simp; done) | fail) _ | fail)); (first | done | fail)))) (HR.out.keep (by ((repeat' (first | with_reducible assumption | with_reducible exact Below.refl _ _ | with_reducible refine Below.drew ?_ | with_reducible refine Below.alloc ?_ (by first | omega | (simp; omega) | (simp; done) | fail) _ | with_reducible refine Below.setCell ?_ (by first | omega | (simp; omega) | (simp; done) | fail) _ | fail)); (first | done | fail))))).mono ?_); rintro e wD ⟨rfl, hb⟩; have hD : Below W0.heap.size W0 wD := Below.trans (by ((repeat' (first | with_reducible assumption | with_reducible exact Below.refl _ _ | with_reducible refine Below.drew ?_ | with_reducible refine Below.alloc ?_ (by first | omega | (simp; omega) | (simp; done) | fail) _ | with_reducible refine Below.setCell ?_ (by first | omega | (simp; omega) | (simp; done) | fail) _ | fail)); (first | done | fail)) : Below W0.heap.size W0 _) (hb.mono (by first | omega | (simp; omega))); have hsD := hD.size; clear hb)
      | (go_at_call 18; (with_reducible refine (HHR.out _ (HU.out.keep (by ((repeat' (first | with_reducible assumption | with_reducible exact Below.refl _ _ | with_reducible refine Below.drew ?_ | with_reducible refine Below.alloc ?_ (by first | omega | (simp; omega) | (simp; done) | fail) _ | with_reducible refine Below.setCell ?_ (by first | omega | (simp; omega) | (simp; done) | fail) _ | fail)); (first | done | fail)))) (HI.out.keep (by ((repeat' (first | with_reducible assumption | with_reducible exact Below.refl _ _ | with_reducible refine Below.drew ?_ | with_reducible refine Below.alloc ?_ (by first | omega | (simp; omega) | (simp; done) | fail) _ | with_reducible refine Below.setCell ?_ (by first | omega | (simp; omega) | (simp; done) | fail) _ | fail)); (first | done | fail)))) (HR.out.keep (by ((repeat' (first | with_reducible assumption | with_reducible exact Below.refl _ _ | with_reducible refine Below.drew ?_ | with_reducible refine Below.alloc ?_ (by first | omega | (simp; omega) | (simp; done) | fail) _ | with_reducible refine Below.setCell ?_ (by first | omega | (simp; omega) | (simp; done) | fail) _ | fail)); (first | done | fail))))).mono ?_); rintro e wE ⟨rfl, hb⟩; have hE : Below W0.heap.size W0 wE := Below.trans (by ((repeat' (first | with_reducible assumption | with_reducible exact Below.refl _ _ | with_reducible refine Below.drew ?_ | with_reducible refine Below.alloc ?_ (by first | omega | (simp; omega) | (simp; done) | fail) _ | with_reducible refine Below.setCell ?_ (by first | omega | (simp; omega) | (simp; done) | fail) _ | fail)); (first | done | fail)) : Below W0.heap.size W0 _) (hb.mono (by first | omega | (simp; omega))); have hsE := hE.size; clear hb)
      | fail)
  have HE := Lib.hid hE
  have hsz := hsE
  obtain ⟨x0, x1, x2, x3, x4, x5, x6, x7, x8, x9⟩ := (HX.out.keep hE hg0).all
  have HU2 := Lib.hid (HU.out.keep hE)
  have HI2 := Lib.hid (HI.out.keep hE)
  have HR2 := Lib.hid (HR.out.keep hE)
  clear hT hA hB hC hD hE hsA hsB hsC hsD hsE n1 n2
  go_wp2_with (first
    | (go_at_call 19; (with_reducible refine (HWF.out _ HU2.out HI2.out HR2.out).mono ?_); rintro e wF ⟨uF, rfl, hu, hb⟩; obtain ⟨z0, z1, z2, z3, z4, z5, z6, z7, z8, z9⟩ := (HX.out.keep (HE.out.trans (hb.mono hsz)) hg0).all; have HUF := Lib.hid hu; have HBF := Lib.hid hb; clear hu hb)
    | (go_at_call 20; (with_reducible refine (HWR.out _ (HU2.out.keep HBF.out) (HI2.out.keep HBF.out) (HR2.out.keep HBF.out)).mono ?_); rintro e wG ⟨uG, rfl, hu, hb⟩; have HUG := Lib.hid hu; have HBG := Lib.hid hb; obtain ⟨pF, cF, rfl⟩ := own_form HUF.out; obtain ⟨pG, cG, rfl, hcG⟩ := way_form HUG.out; have HCG := Lib.hid hcG; clear hu hb hcG x0 x1 x2 x3 x4 x5 x6 x7 x8 x9 z0 z1 z2 z3 z4 z5 z6 z7 z8 z9)
    | fail)
  go_loopw [7] (fun s wx => ∃ k : Nat, s = .int .i64 k ∧ k ≤ (waysA F x).length ∧ Below wG.heap.size wG wx) (fun s _ => (waysA F x).length - (intOf s).toNat)
  case atStart => exact ⟨0, rfl, Nat.zero_le _, Below.refl _ _⟩
  case round =>
    obtain ⟨k, rfl, hk, hb⟩ := hrel
    have HB := Lib.hid hb
    have h3 := waysA_le F x
    by_cases hlt : k < (waysA F x).length
    · obtain ⟨bG, u, rfl, e1, _, _⟩ := HCG.out k hlt
      have hoi := (HUF.out.keep HBG.out).keep hb
      obtain ⟨bF, oF, rfl, e2⟩ := oi_cell hoi (by simp; omega) (k := k) (by simpa using hlt)
      replace e1 := below_cell hb e1
      rw [show ((waysA F x).map (·.1)).getD k 0 = ((waysA F x).getD k wayZ).1 by rw [List.getD_eq_getElem?_getD, List.getD_eq_getElem?_getD, List.getElem?_map, List.getElem?_eq_getElem hlt]; rfl] at e2
      generalize ((waysA F x).getD k wayZ).1 = tw at e1 e2
      have ne : (tw != tw) = false := by simp
      have hlz : (k : Int) < ((waysA F x).length : Int) := by omega
      clear hoi hb
      go_wp2_with fail
      go_quiet (fail)
      go_wp2_with fail
      go_roundw
      case rel => exact ⟨k + 1, by go_num, by omega, by exact below_drewN HB.out _⟩
      case measure => simp [intOf]; omega
    · have hlz : ¬ (k : Int) < ((waysA F x).length : Int) := by omega
      clear hb
      go_wp2_with fail
      go_ret
      have h1 := HB0.out
      have h2 := HE.out
      have h3 := HBF.out
      have h4 := HBG.out
      have h5 := HB.out
      have s1 := h1.size
      have s3 := h3.size
      have s4 := h4.size
      rw [HGE.out]
      exact ⟨rfl, (((h1.trans (h2.mono (by omega))).trans (h3.mono (by omega))).trans (h4.mono (by omega))).trans (h5.mono (by omega))⟩
end Go.Proofs.YtnniohimbmnapaaDoor
