/- Layer 10: the document's Reach. -/
import Derived.Test.YtnniohimbmnapaaDoorRead
namespace Go.Proofs.YtnniohimbmnapaaDoor
open Go Go.ChangeShapes Go.WideShapes Go.RowKit
set_option linter.unusedVariables false
set_option linter.unusedSimpArgs false
theorem blk_arr {A : World} {b : Nat} {arr : Array Value} {l : List Value} {T : TypeId} (h : b = A.heap.size) (e : arr.toList = l) : Blk (A.alloc (.cells arr T)) b l T := by
  subst h e
  unfold Blk
  rw [Array.toArray_toList]
  exact heap_alloc_new A _
/-- What the rounds of one pass hold. -/
structure PR (G : Gr) (out0 out : List Bool) (more : Bool) (x : Nat) : Prop where
  pinv : PInv G out
  same : more = false → out = out0 ∧ ∀ y, y < x → out0.getD y true = true → ∀ w ∈ G.ways y, out0.getD w.1 true = true
  less : more = true → falses out < falses out0
theorem PR.begin {G : Gr} {out : List Bool} (h : PInv G out) : PR G out out false 0 := ⟨h, fun _ => ⟨rfl, fun y hy => by omega⟩, fun h => by cases h⟩
theorem PR.pass {G : Gr} {out0 out : List Bool} {more : Bool} {x : Nat} (h : PR G out0 out more x) (hx : out.getD x true = false) : PR G out0 out more (x + 1) := by
  refine ⟨h.pinv, fun hm => ⟨(h.same hm).1, fun y hy hh => ?_⟩, h.less⟩
  obtain ⟨e, hc⟩ := h.same hm
  by_cases e2 : y = x
  · subst e2
    rw [← e, hx] at hh
    cases hh
  · exact hc y (by omega) hh
/-- The same within the ways of x. -/
structure PK (G : Gr) (out0 out : List Bool) (more : Bool) (x k : Nat) : Prop where
  pr : PR G out0 out more x
  at_ : out.getD x true = true
  done : more = false → ∀ i, i < k → out0.getD ((G.ways x).getD i (0, [])).1 true = true
theorem PK.begin {G : Gr} {out0 out : List Bool} {more : Bool} {x : Nat} (h : PR G out0 out more x) (hx : out.getD x true = true) : PK G out0 out more x 0 := ⟨h, hx, fun _ i hi => by omega⟩
theorem PK.has {G : Gr} {out0 out : List Bool} {more : Bool} {x k tw : Nat} (h : PK G out0 out more x k) (hw : ((G.ways x).getD k (0, [])).1 = tw) (ho : out.getD tw true = true) : PK G out0 out more x (k + 1) :=
  ⟨h.pr, h.at_, fun hm i hi => by
    by_cases e : i = k
    · subst e; rw [hw, ← (h.pr.same hm).1]; exact ho
    · exact h.done hm i (by omega)⟩
theorem PK.add {G : Gr} {out0 out : List Bool} {more : Bool} {x k tw : Nat} (hG : G.Ok) (h : PK G out0 out more x k) (hx : x < G.n) (hk : k < (G.ways x).length) (hw : ((G.ways x).getD k (0, [])).1 = tw) (ho : out.getD tw true = false) : PK G out0 (out.set tw true) true x (k + 1) := by
  have hm : (G.ways x).getD k (0, []) ∈ G.ways x := by rw [List.getD_eq_getElem?_getD, List.getElem?_eq_getElem hk]; simp
  have ht := hG.to_lt x hx _ hm
  have hr : Rc G tw := hw ▸ Rc.way (h.pr.pinv.sound x hx h.at_) hm
  rw [hw] at ht
  have hf := falses_set out tw ho
  refine ⟨⟨h.pr.pinv.set hr ht, (fun h => by cases h), fun _ => ?_⟩, ?_, (fun h => by cases h)⟩
  · cases more with
    | false => have := (h.pr.same rfl).1; subst this; omega
    | true => have := h.pr.less rfl; omega
  · rw [getD_setL _ _ _ _ _ (by rw [h.pr.pinv.len]; exact ht)]
    split
    · rfl
    · exact h.at_
theorem PK.end_ {G : Gr} {out0 out : List Bool} {more : Bool} {x k : Nat} (h : PK G out0 out more x k) (hk : (G.ways x).length ≤ k) : PR G out0 out more (x + 1) := by
  refine ⟨h.pr.pinv, fun hm => ⟨(h.pr.same hm).1, fun y hy hh w hw => ?_⟩, h.pr.less⟩
  by_cases e : y = x
  · subst e
    obtain ⟨i, hi, rfl⟩ := List.getElem_of_mem hw
    have := h.done hm i (by omega)
    have e : (G.ways y).getD i (0, []) = (G.ways y)[i] := by rw [List.getD_eq_getElem?_getD, List.getElem?_eq_getElem hi]; rfl
    rwa [e] at this
  · exact (h.pr.same hm).2 y (by omega) hh w hw
/-- A slice of bools of one's own. -/
def RBl (w : World) (v : Value) (out : List Bool) : Prop := ∃ b, v = .slice (some ⟨b, 0, none⟩) out.length out.length ∧ Blk w b (out.map Value.bool) 4
theorem RBl.keep {w w' : World} {v : Value} {out : List Bool} (h : RBl w v out) (hb : Below w.heap.size w w') : RBl w' v out := by
  obtain ⟨b, h1, h2⟩ := h
  exact ⟨b, h1, h2.block (hb.block _ h2.lt)⟩
/-- Which instructions are reached. -/
def ReachX (F : FuncD) (out : List Bool) : Prop := out.length = F.ins.length ∧ ∀ y, y < F.ins.length → (out.getD y true = true ↔ Rc (grOf F) y)
def RPost (F : FuncD) (w : World) (e : Ending) (B : World) : Prop := ∃ v out, e = .returned v ∧ RBl B v out ∧ ReachX F out ∧ Below w.heap.size w B
set_option maxRecDepth 100000 in
set_option maxHeartbeats 8000000 in
theorem rreach_any (r : RestV) (F : FuncD) (iv rv : Value) (hs : soundB F = true) (hnn : F.ins.length ≤ 1048576) (w : World) (hU : Us w) (hI : Ii w iv F.ins) (hR : Rg w rv F.regions) :
    Calls Tryd.prog 22 #[funcV r F iv rv] w (RPost F w) := by
  have HWR := rways_any r F iv rv
  obtain ⟨p, c, rfl, _, _, _⟩ := ii_form hI
  obtain ⟨p2, c2, rfl, _, _, _⟩ := rg_form hR
  unfold funcV at HWR ⊢
  replace HWR := Lib.hid HWR
  have HX := Lib.hid (Box10.new w r F (.slice p F.ins.length c) (.slice p2 F.regions.length c2) 27)
  have HB0 := Lib.hid (show Below w.heap.size w (w.alloc (.cells #[.string r.name, .int .i64 F.params, .int .i64 F.regs, .int .i64 r.frees, .bool r.gen, .int .i64 r.bound, .slice r.np r.nn r.nc, .slice r.cp r.cn r.cc, .slice p F.ins.length c, .slice p2 F.regions.length c2] 27)) from by ((repeat' (first | with_reducible assumption | with_reducible exact Below.refl _ _ | with_reducible refine Below.drew ?_ | with_reducible refine Below.alloc ?_ (by first | omega | (simp; omega) | (simp; done) | fail) _ | with_reducible refine Below.setCell ?_ (by first | omega | (simp; omega) | (simp; done) | fail) _ | fail)); (first | done | fail)))
  have HU := Lib.hid hU
  have HI := Lib.hid hI
  have HR := Lib.hid hR
  have HSF := Lib.hid (soundF hs)
  have hnp := HSF.out.pos
  have hmk := fun wx => mk_row (T := 38) Tryd.underlying38 infoBoolL rfl F.ins.length (by omega) (by omega) wx
  clear hU hI hR hs
  have hblk := blk_false (w.alloc (.cells #[.string r.name, .int .i64 F.params, .int .i64 F.regs, .int .i64 r.frees, .bool r.gen, .int .i64 r.bound, .slice r.np r.nn r.nc, .slice r.cp r.cn r.cc, .slice p F.ins.length c, .slice p2 F.regions.length c2] 27)) F.ins.length
  rw [World.size_alloc] at hblk
  have hcz := hblk.cell (i := 0) (v := .bool false) (by rw [List.getElem?_map, List.getElem?_replicate, if_pos hnp]; rfl)
  have hfz := hblk.frozen 0
  have HK0 := Lib.hid (show Blk ((w.alloc (.cells #[.string r.name, .int .i64 F.params, .int .i64 F.regs, .int .i64 r.frees, .bool r.gen, .int .i64 r.bound, .slice r.np r.nn r.nc, .slice r.cp r.cn r.cc, .slice p F.ins.length c, .slice p2 F.regions.length c2] 27)).alloc (.cells ((Array.replicate F.ins.length (Value.bool false)).setIfInBounds 0 (.bool true)) 4)) (w.heap.size + 1) (((List.replicate F.ins.length false).set 0 true).map Value.bool) 4 from blk_arr (by simp) (by simp [List.map_set]))
  have HP0 := Lib.hid (show PInv (grOf F) ((List.replicate F.ins.length false).set 0 true) from
    have h := RInv.start (G := grOf F) hnp
    ⟨h.len, h.sound, h.zero⟩)
  clear hblk
  go_enter Tryd.func22, Tryd.ntmps22
  go_wp2_with fail
  have hz : (w.alloc (.cells #[.string r.name, .int .i64 F.params, .int .i64 F.regs, .int .i64 r.frees, .bool r.gen, .int .i64 r.bound, .slice r.np r.nn r.nc, .slice r.cp r.cn r.cc, .slice p F.ins.length c, .slice p2 F.regions.length c2] 27)).heap.size = w.heap.size + 1 := by simp
  have HLS := Lib.hid (show Below (w.heap.size + 1) (w.alloc (.cells #[.string r.name, .int .i64 F.params, .int .i64 F.regs, .int .i64 r.frees, .bool r.gen, .int .i64 r.bound, .slice r.np r.nn r.nc, .slice r.cp r.cn r.cc, .slice p F.ins.length c, .slice p2 F.regions.length c2] 27)) ((w.alloc (.cells #[.string r.name, .int .i64 F.params, .int .i64 F.regs, .int .i64 r.frees, .bool r.gen, .int .i64 r.bound, .slice r.np r.nn r.nc, .slice r.cp r.cn r.cc, .slice p F.ins.length c, .slice p2 F.regions.length c2] 27)).alloc (.cells ((Array.replicate F.ins.length (Value.bool false)).setIfInBounds 0 (.bool true)) 4)) from (Below.refl (w.heap.size + 1) _).alloc (by simp) _)
  clear hcz hfz hmk
  generalize w.alloc (.cells #[.string r.name, .int .i64 F.params, .int .i64 F.regs, .int .i64 r.frees, .bool r.gen, .int .i64 r.bound, .slice r.np r.nn r.nc, .slice r.cp r.cn r.cc, .slice p F.ins.length c, .slice p2 F.regions.length c2] 27) = w1 at HX HB0 HK0 HLS hz ⊢
  obtain ⟨bO, hbO⟩ : ∃ bO, w.heap.size + 1 = bO := ⟨_, rfl⟩
  rw [hbO] at HK0 HLS hz ⊢
  have hbw : w.heap.size < bO := by omega
  go_loopw [4] (fun s4 wx => ∃ (out : List Bool) (more : Bool), s4 = .bool more ∧ PInv (grOf F) out ∧ (more = false → ∀ x, x < F.ins.length → out.getD x true = true → ∀ w ∈ (grOf F).ways x, out.getD w.1 true = true) ∧ Blk wx bO (out.map Value.bool) 4 ∧ Below bO w1 wx) (fun s4 wx => 2 * falsesO wx.heap[bO]? + (match s4 with | .bool true => 1 | _ => 0))
  case atStart => exact ⟨_, true, rfl, HP0.out, (fun h => by cases h), HK0.out, HLS.out⟩
  case round =>
    obtain ⟨out0, more, rfl, hpi, hcl, hbk, hlow⟩ := hrel
    have HPI := Lib.hid hpi
    have HCL := Lib.hid hcl
    have HBK := Lib.hid hbk
    have HLOW := Lib.hid hlow
    have hbl := hbk.lt
    clear hpi hcl hbk hlow
    cases more with
    | false =>
      go_wp2_with fail
      go_ret
      have hl : out0.length = F.ins.length := HPI.out.len
      refine ⟨_, out0, rfl, ⟨bO, by rw [hl]; rfl, HBK.out⟩, ⟨HPI.out.len, HPI.out.done hnp HSF.out.gr (HCL.out (by simp))⟩, HB0.out.trans (HLOW.out.mono (by omega))⟩
    | true =>
      go_wp2_with fail
      obtain ⟨wS, rfl⟩ : ∃ wS : World, wS = wr := ⟨_, rfl⟩
      go_loopw [4, 5] (fun s4 s5 wx => ∃ (out : List Bool) (more : Bool) (x : Nat), s4 = .bool more ∧ s5 = .int .i64 x ∧ x ≤ F.ins.length ∧ PR (grOf F) out0 out more x ∧ Blk wx bO (out.map Value.bool) 4 ∧ Below bO w1 wx) (fun _ s5 _ => F.ins.length - (intOf s5).toNat)
      case atStart => exact ⟨out0, false, 0, rfl, rfl, Nat.zero_le _, PR.begin HPI.out, HBK.out, HLOW.out⟩
      case round =>
        obtain ⟨out, more, x, rfl, rfl, hx, hpr, hbk2, hlow2⟩ := hrel
        have HPR := Lib.hid hpr
        have HBK2 := Lib.hid hbk2
        have HLOW2 := Lib.hid hlow2
        have hbl2 := hbk2.lt
        obtain ⟨x0, x1, x2, x3, x4, x5, x6, x7, x8, x9⟩ := (HX.out.keep hlow2 hbw).all
        by_cases hlt : x < F.ins.length
        · obtain ⟨d, hd⟩ : ∃ d, out.getD x true = d := ⟨_, rfl⟩
          have hcd := hbk2.bool (i := x) (by rw [hpr.pinv.len]; exact hlt) hd
          have hxz : (x : Int) < (F.ins.length : Int) := by omega
          have hlw : Below w.heap.size w wr := HB0.out.trans (hlow2.mono (by omega))
          cases d with
          | false =>
            have HPA := Lib.hid (hpr.pass hd)
            clear hd hpr hbk2 hlow2 hlw
            go_wp2_with fail
            go_roundw
            case rel => exact ⟨out, more, x + 1, rfl, by go_num, by omega, HPA.out, HBK2.out, HLOW2.out⟩
            case measure => simp [intOf]; omega
          | true =>
            have HPB := Lib.hid (PK.begin hpr hd)
            have HWY := Lib.hid (HWR.out x wr (HU.out.keep hlw) (HI.out.keep hlw) (HR.out.keep hlw) hlt)
            clear hd hpr hbk2 hlow2 hlw
            go_wp2_with (first
              | (go_at_call 20; (with_reducible refine HWY.out.mono ?_); rintro e wD ⟨uD, rfl, hwo, hbD⟩; have HWO := Lib.hid hwo; obtain ⟨pD, cD, rfl, hcD⟩ := way_form hwo; have HBD := Lib.hid hbD; clear hwo hcD hbD x0 x1 x2 x3 x4 x5 x6 x7 x8 x9)
              | fail)
            obtain ⟨wC, rfl⟩ : ∃ wC : World, wC = wr := ⟨_, rfl⟩
            have hsD := HBD.out.size
            have hwlN := waysN_len F x
            have hw3 := waysD_le F x
            have HBKD := Lib.hid (HBK2.out.block (HBD.out.block _ hbl2))
            go_loopw [4, 7] (fun s4 s7 wx => ∃ (out : List Bool) (more : Bool) (k : Nat), s4 = .bool more ∧ s7 = .int .i64 k ∧ k ≤ (waysD F x).length ∧ PK (grOf F) out0 out more x k ∧ Blk wx bO (out.map Value.bool) 4 ∧ Kw (fun b => b ≠ bO) wD wx) (fun _ s7 _ => (waysD F x).length - (intOf s7).toNat)
            case atStart => exact ⟨out, more, 0, rfl, rfl, Nat.zero_le _, HPB.out, HBKD.out, Kw.refl _ _⟩
            case round =>
              obtain ⟨out3, more3, k, rfl, rfl, hk, hpk, hbk3, hkw⟩ := hrel
              have HPK := Lib.hid hpk
              have HBK3 := Lib.hid hbk3
              have HKW := Lib.hid hkw
              have hsz3 := hkw.size
              by_cases hkl : k < (waysD F x).length
              · obtain ⟨bD, u, rfl, g1, g2, g3⟩ := way_cell (HWO.out.off (w' := wr) fun g' h1 h2 => hkw.block g' (by omega) h2) hkl
                obtain ⟨tw, ws, hwn, hwd, htw, hws⟩ := HSF.out.at_ hlt hkl
                rw [hwd] at g1
                have hw1 : (((grOf F).ways x).getD k (0, [])).1 = tw := by show ((waysN F x).getD k (0, [])).1 = tw; rw [hwn]
                obtain ⟨d, hd⟩ : ∃ d, out3.getD tw true = d := ⟨_, rfl⟩
                have hol : out3.length = F.ins.length := hpk.pr.pinv.len
                have hcd3 := hbk3.bool (i := tw) (by rw [hol]; exact htw) hd
                have hfd3 := hbk3.frozen tw
                have hkz : (k : Int) < ((waysD F x).length : Int) := by omega
                have htz : (tw : Int) < (F.ins.length : Int) := by omega
                cases d with
                | true =>
                  have HH := Lib.hid (hpk.has hw1 hd)
                  clear hwn hwd hws hw1 hd hpk hbk3 hkw g2 g3 hol
                  go_wp2_with fail
                  go_roundw
                  case rel => exact ⟨out3, more3, k + 1, rfl, by go_num, by omega, HH.out, HBK3.out, HKW.out⟩
                  case measure => simp [intOf]; omega
                | false =>
                  have HH := Lib.hid (hpk.add HSF.out.gr hlt (by show k < (waysN F x).length; omega) hw1 hd)
                  clear hwn hwd hws hw1 hd hpk hbk3 hkw g2 g3 hol
                  go_wp2_with fail
                  go_roundw
                  case rel => exact ⟨out3.set tw true, true, k + 1, rfl, by go_num, by omega, HH.out, by rw [List.map_set]; exact HBK3.out.set tw _, HKW.out.setCell _ _ (fun h => h rfl)⟩
                  case measure => simp [intOf]; omega
              · have hkz : ¬ (k : Int) < ((waysD F x).length : Int) := by omega
                have HE := Lib.hid (hpk.end_ (by show (waysN F x).length ≤ k; omega))
                have HLW := Lib.hid (show Below bO w1 wr from (HLOW2.out.trans (HBD.out.mono (by omega))).trans (hkw.below (by omega) (fun b hb => by omega)))
                clear hpk hbk3 hkw
                go_wp2_with fail
                go_roundw
                case rel => exact ⟨out3, more3, x + 1, rfl, by go_num, by omega, HE.out, HBK3.out, HLW.out⟩
                case measure => simp [intOf]; omega
        · have hxz : ¬ (x : Int) < (F.ins.length : Int) := by omega
          have hf1 := falses_blk HBK.out
          have hf2 := falses_blk hbk2
          have HF1 := Lib.hid hf1
          have HF2 := Lib.hid hf2
          clear hpr hbk2 hlow2 hf1 hf2
          go_wp2_with fail
          go_roundw
          case rel => exact ⟨out, more, rfl, HPR.out.pinv, fun hm y hy hh => by
            obtain ⟨e, hc⟩ := HPR.out.same hm
            rw [e] at hh ⊢
            exact hc y (by omega) hh, HBK2.out, HLOW2.out⟩
          case measure =>
            rw [HF1.out, HF2.out]
            cases more with
            | false => have := (HPR.out.same rfl).1; subst this; simp
            | true => have := HPR.out.less rfl; simp; omega
end Go.Proofs.YtnniohimbmnapaaDoor
