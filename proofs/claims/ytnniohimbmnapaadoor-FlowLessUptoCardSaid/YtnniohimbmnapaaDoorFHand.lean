/- Layer 10: the handler of an instruction. -/
import Derived.Test.YtnniohimbmnapaaDoorFMem
namespace Go.Proofs.YtnniohimbmnapaaDoor
open Go.ChangeShapes Go.WideShapes Go.RowKit
set_option linter.unusedVariables false
set_option linter.unusedSimpArgs false
def regB (x : Int) (r : RegD) : Bool := decide (r.lo ≤ x) && decide (x < r.hi)
def firstReg (rs : List RegD) (x : Int) : Int := match rs.findIdx? (regB x) with
  | some n => n
  | none => -1
def handlerI (F : FuncD) (x : Int) : Int := if inB x F.ins.length && allocB (F.ins.getD x.toNat insZ).op then firstReg F.regions x else -1
theorem firstReg_at {rs : List RegD} {x : Int} {k : Nat} (hk : k < rs.length) (hb : regB x (rs.getD k regZ) = true) (hno : ∀ j, j < k → regB x (rs.getD j regZ) = false) : firstReg rs x = k := by
  unfold firstReg
  have : rs.findIdx? (regB x) = some k := by
    rw [List.findIdx?_eq_some_iff_getElem]
    refine ⟨hk, ?_, fun j hj => ?_⟩
    · rw [List.getD_eq_getElem?_getD, List.getElem?_eq_getElem hk] at hb; exact hb
    · have := hno j hj
      rw [List.getD_eq_getElem?_getD, List.getElem?_eq_getElem (by omega)] at this
      simpa using this
  rw [this]
theorem firstReg_no {rs : List RegD} {x : Int} (hno : ∀ j, j < rs.length → regB x (rs.getD j regZ) = false) : firstReg rs x = -1 := by
  unfold firstReg
  have : rs.findIdx? (regB x) = none := by
    rw [List.findIdx?_eq_none_iff]
    intro r hr
    obtain ⟨j, hj, rfl⟩ := List.mem_iff_getElem.1 hr
    have := hno j hj
    rwa [List.getD_eq_getElem?_getD, List.getElem?_eq_getElem hj] at this
  rw [this]
theorem ret_iF {a b : Int} (h : a = b) : Ending.returned (.int .i64 a) = .returned (.int .i64 b) := by rw [h]
structure Box10 (w : World) (g : Nat) (r : RestV) (F : FuncD) (iv rv : Value) : Prop where
  c0 : w.cell? ⟨g, 0, none⟩ = some (.string r.name)
  c1 : w.cell? ⟨g, 1, none⟩ = some (.int .i64 F.params)
  c2 : w.cell? ⟨g, 2, none⟩ = some (.int .i64 F.regs)
  c3 : w.cell? ⟨g, 3, none⟩ = some (.int .i64 r.frees)
  c4 : w.cell? ⟨g, 4, none⟩ = some (.bool r.gen)
  c5 : w.cell? ⟨g, 5, none⟩ = some (.int .i64 r.bound)
  c6 : w.cell? ⟨g, 6, none⟩ = some (.slice r.np r.nn r.nc)
  c7 : w.cell? ⟨g, 7, none⟩ = some (.slice r.cp r.cn r.cc)
  c8 : w.cell? ⟨g, 8, none⟩ = some iv
  c9 : w.cell? ⟨g, 9, none⟩ = some rv
theorem Box10.new (w : World) (r : RestV) (F : FuncD) (iv rv : Value) (T : TypeId) : Box10 (w.alloc (.cells #[.string r.name, .int .i64 F.params, .int .i64 F.regs, .int .i64 r.frees, .bool r.gen, .int .i64 r.bound, .slice r.np r.nn r.nc, .slice r.cp r.cn r.cc, iv, rv] T)) w.heap.size r F iv rv :=
  ⟨cell_new rfl, cell_new rfl, cell_new rfl, cell_new rfl, cell_new rfl, cell_new rfl, cell_new rfl, cell_new rfl, cell_new rfl, cell_new rfl⟩
theorem Box10.keep {w w' : World} {g B : Nat} {r : RestV} {F : FuncD} {iv rv : Value} (h : Box10 w g r F iv rv) (hb : Below B w w') (hg : g < B) : Box10 w' g r F iv rv :=
  ⟨(hb.cell (p := ⟨g, 0, none⟩) hg).trans h.c0, (hb.cell (p := ⟨g, 1, none⟩) hg).trans h.c1, (hb.cell (p := ⟨g, 2, none⟩) hg).trans h.c2, (hb.cell (p := ⟨g, 3, none⟩) hg).trans h.c3, (hb.cell (p := ⟨g, 4, none⟩) hg).trans h.c4, (hb.cell (p := ⟨g, 5, none⟩) hg).trans h.c5, (hb.cell (p := ⟨g, 6, none⟩) hg).trans h.c6, (hb.cell (p := ⟨g, 7, none⟩) hg).trans h.c7, (hb.cell (p := ⟨g, 8, none⟩) hg).trans h.c8, (hb.cell (p := ⟨g, 9, none⟩) hg).trans h.c9⟩
set_option maxRecDepth 100000 in
set_option maxHeartbeats 2000000 in
theorem handler_any (r : RestV) (F : FuncD) (iv rv : Value) (x : Int) (w : World) (hU : Us w) (hI : Ii w iv F.ins) (hR : Rg w rv F.regions) :
    Calls Tryd.prog 17 #[funcV r F iv rv, .int .i64 x] w fun e w' => e = .returned (.int .i64 (handlerI F x)) ∧ Below w.heap.size w w' := by
  obtain ⟨p, c, rfl, hc, hm, hp⟩ := ii_form hI
  obtain ⟨p2, c2, rfl, hc2, hm2, hp2⟩ := rg_form hR
  have HU := Lib.hid hU
  have HP := Lib.hid hp
  have HP2 := Lib.hid hp2
  have HW := Lib.hid (within_any x F.ins.length (w.alloc (.cells #[.string r.name, .int .i64 F.params, .int .i64 F.regs, .int .i64 r.frees, .bool r.gen, .int .i64 r.bound, .slice r.np r.nn r.nc, .slice r.cp r.cn r.cc, .slice p F.ins.length c, .slice p2 F.regions.length c2] 27)))
  clear hU hI hR hp hp2
  cases hin : inB x F.ins.length with
  | false =>
    rw [hin] at HW
    have HD := Lib.hid (show handlerI F x = -1 by unfold handlerI; rw [hin]; rfl)
    clear hin
    unfold funcV
    go_enter Tryd.func17, Tryd.ntmps17
    go_wp2_with (go_at_call 45; (with_reducible refine HW.out.mono ?_); rintro e w9 ⟨rfl, rfl⟩)
    go_ret
    exact ⟨by rw [HD.out]; rfl, by ((repeat' (first | with_reducible assumption | with_reducible exact Below.refl _ _ | with_reducible refine Below.drew ?_ | with_reducible refine Below.alloc ?_ (by first | omega | (simp; omega) | (simp; done) | fail) _ | with_reducible refine Below.setCell ?_ (by first | omega | (simp; omega) | (simp; done) | fail) _ | fail)); (first | done | fail))⟩
  | true =>
    rw [hin] at HW
    have hx : 0 ≤ x ∧ x < (F.ins.length : Int) := by unfold inB at hin; simpa using hin
    obtain ⟨n, rfl⟩ := Int.eq_ofNat_of_zero_le hx.1
    have hn : n < F.ins.length := by omega
    have hnz : (n : Int) < (F.ins.length : Int) := by omega
    obtain ⟨b, off, rfl, hcell⟩ := HP.out (by omega)
    obtain ⟨lv, ⟨hop, _⟩⟩ := hcell n hn
    have HA := Lib.hid (show handlerI F n = if allocB (F.ins.getD n insZ).op then firstReg F.regions n else -1 by unfold handlerI; rw [hin, Int.toNat_natCast]; simp)
    obtain ⟨op, hoe⟩ : ∃ op, (F.ins.getD n insZ).op = op := ⟨_, rfl⟩
    rw [hoe] at hop HA
    have hops := alloc_cell hop (.cells #[.string r.name, .int .i64 F.params, .int .i64 F.regs, .int .i64 r.frees, .bool r.gen, .int .i64 r.bound, .slice r.np r.nn r.nc, .slice r.cp r.cn r.cc, .slice (some ⟨b, off, none⟩) F.ins.length c, .slice p2 F.regions.length c2] 27)
    have HAL := Lib.hid (allocates_any op _ (HU.out.keep ((Below.refl _ _).alloc (Nat.le_refl _) (.cells #[.string r.name, .int .i64 F.params, .int .i64 F.regs, .int .i64 r.frees, .bool r.gen, .int .i64 r.bound, .slice r.np r.nn r.nc, .slice r.cp r.cn r.cc, .slice (some ⟨b, off, none⟩) F.ins.length c, .slice p2 F.regions.length c2] 27))))
    clear hx hin hop hcell hoe
    cases hal : allocB op with
    | false =>
      rw [hal] at HAL HA
      clear hal
      unfold funcV
      go_enter Tryd.func17, Tryd.ntmps17
      go_wp2_with (first | (go_at_call 45; (with_reducible refine HW.out.mono ?_); rintro e w9 ⟨rfl, rfl⟩) | (go_at_call 48; (with_reducible refine HAL.out.mono ?_); rintro e w9 ⟨rfl, rfl⟩))
      go_ret
      exact ⟨by rw [HA.out]; rfl, by ((repeat' (first | with_reducible assumption | with_reducible exact Below.refl _ _ | with_reducible refine Below.drew ?_ | with_reducible refine Below.alloc ?_ (by first | omega | (simp; omega) | (simp; done) | fail) _ | with_reducible refine Below.setCell ?_ (by first | omega | (simp; omega) | (simp; done) | fail) _ | fail)); (first | done | fail))⟩
    | true =>
      rw [hal] at HAL HA
      clear hal
      unfold funcV
      go_enter Tryd.func17, Tryd.ntmps17
      go_wp2_with (first | (go_at_call 45; (with_reducible refine HW.out.mono ?_); rintro e w9 ⟨rfl, rfl⟩) | (go_at_call 48; (with_reducible refine HAL.out.mono ?_); rintro e w9 ⟨rfl, rfl⟩))
      clear hops
      go_loopw [5, 6, 26] (fun _ _ s wx => ∃ k : Nat, s = .int .i64 k ∧ k ≤ F.regions.length ∧ (∀ j, j < k → regB n (F.regions.getD j regZ) = false) ∧ Below w.heap.size w wx) (fun _ _ s _ => F.regions.length - (intOf s).toNat)
      case atStart => exact ⟨0, rfl, Nat.zero_le _, fun j h => by omega, (Below.refl _ _).alloc (Nat.le_refl _) _⟩
      case round =>
        obtain ⟨k, rfl, hk, hno, hb⟩ := hrel
        have HN := Lib.hid hno
        have HB := Lib.hid hb
        have hsz := hb.size
        clear hno hb
        by_cases hlt : k < F.regions.length
        · obtain ⟨b2, off2, rfl, hcell⟩ := HP2.out (by omega)
          obtain ⟨e0, e1, e2, e3⟩ := (hcell k hlt).keep HB.out
          have HK := Lib.hid (show F.regions.getD k regZ = F.regions.getD k regZ from rfl)
          obtain ⟨⟨lo, hi, to, d⟩, hrk⟩ : ∃ q, F.regions.getD k regZ = q := ⟨_, rfl⟩
          rw [hrk] at e0 e1 e2 e3
          have HRK := Lib.hid hrk
          have hlz : (k : Int) < (F.regions.length : Int) := by omega
          clear hcell hrk HK
          by_cases hq : lo ≤ (n : Int)
          · by_cases hq2 : (n : Int) < hi
            · have HY := Lib.hid (firstReg_at hlt (show regB n (F.regions.getD k regZ) = true by rw [HRK.out]; simp [regB, hq, hq2]) HN.out)
              go_wp2_with fail
              go_ret
              exact ⟨ret_iF (by rw [HA.out, if_pos trivial, HY.out]), by have hb := HB.out; ((repeat' (first | with_reducible assumption | with_reducible exact Below.refl _ _ | with_reducible refine Below.drew ?_ | with_reducible refine Below.alloc ?_ (by first | omega | (simp; omega) | (simp; done) | fail) _ | with_reducible refine Below.setCell ?_ (by first | omega | (simp; omega) | (simp; done) | fail) _ | fail)); (first | done | fail))⟩
            · have HNO := Lib.hid (show regB n (F.regions.getD k regZ) = false by rw [HRK.out]; simp [regB, hq2])
              go_wp2_with fail
              go_roundw
              case rel => exact ⟨k + 1, by go_num, by omega, fun j h2 => by
                by_cases e : j = k
                · subst e; exact HNO.out
                · exact HN.out j (by omega), by have hb := HB.out; ((repeat' (first | with_reducible assumption | with_reducible exact Below.refl _ _ | with_reducible refine Below.drew ?_ | with_reducible refine Below.alloc ?_ (by first | omega | (simp; omega) | (simp; done) | fail) _ | with_reducible refine Below.setCell ?_ (by first | omega | (simp; omega) | (simp; done) | fail) _ | fail)); (first | done | fail))⟩
              case measure => simp [intOf]; omega
          · have HNO := Lib.hid (show regB n (F.regions.getD k regZ) = false by rw [HRK.out]; simp [regB, hq])
            go_wp2_with fail
            go_roundw
            case rel => exact ⟨k + 1, by go_num, by omega, fun j h2 => by
              by_cases e : j = k
              · subst e; exact HNO.out
              · exact HN.out j (by omega), by have hb := HB.out; ((repeat' (first | with_reducible assumption | with_reducible exact Below.refl _ _ | with_reducible refine Below.drew ?_ | with_reducible refine Below.alloc ?_ (by first | omega | (simp; omega) | (simp; done) | fail) _ | with_reducible refine Below.setCell ?_ (by first | omega | (simp; omega) | (simp; done) | fail) _ | fail)); (first | done | fail))⟩
            case measure => simp [intOf]; omega
        · have hlz : ¬ (k : Int) < (F.regions.length : Int) := by omega
          have HY := Lib.hid (firstReg_no (rs := F.regions) (x := n) fun j h1 => HN.out j (by omega))
          go_wp2_with fail
          go_ret
          exact ⟨ret_iF (by rw [HA.out, if_pos trivial, HY.out]), HB.out⟩
end Go.Proofs.YtnniohimbmnapaaDoor
