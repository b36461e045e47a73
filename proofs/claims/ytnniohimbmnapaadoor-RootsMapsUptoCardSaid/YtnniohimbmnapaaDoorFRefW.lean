/- Layer 10: the document's Ways, in range. -/
import Derived.Test.YtnniohimbmnapaaDoorFRefH
import Derived.Test.YtnniohimbmnapaaDoorFWo
import Derived.Test.YtnniohimbmnapaaDoorLk
import Derived.Deep.RegionHeld3
namespace Go.Proofs.YtnniohimbmnapaaDoor
open Go Go.ChangeShapes Go.WideShapes Go.RowKit
set_option linter.unusedVariables false
set_option linter.unusedSimpArgs false
theorem blk_at {A : World} {b : Nat} {cs : List Value} {T : TypeId} (h : b = A.heap.size) : Blk (A.alloc (.cells cs.toArray T)) b cs T := by
  subst h
  exact heap_alloc_new A _
def insC (i : InsD) (lv : Value) : List Value := [.int .i64 i.op, .int .i64 i.d, .int .i64 i.a, .int .i64 i.b, .int .i64 i.t, .int .i64 i.k, lv]
/-- What the rounds of Ways hold. -/
structure RW (F : FuncD) (r : RestV) (iv rv : Value) (i : InsD) (lv : Value) (x : Nat) (pG : Option Addr) (cG : Nat) (w wx : World) (k : Nat) (v : Value) : Prop where
  box : Box10 wx w.heap.size r F iv rv
  b7 : Blk wx (w.heap.size + 1) (insC i lv) 50
  g : OI wx (w.heap.size + 2) (.slice pG (goeL F x).length cG) (goeL F x)
  row : WO wx (w.heap.size + 2) v ((waysD F x).take k)
  low : Below w.heap.size w wx
theorem Box10.off {w w' : World} {g : Nat} {r : RestV} {F : FuncD} {iv rv : Value} (h : Box10 w g r F iv rv) (hb : w'.heap[g]? = w.heap[g]?) : Box10 w' g r F iv rv :=
  have e : ∀ j, w'.cell? ⟨g, j, none⟩ = w.cell? ⟨g, j, none⟩ := fun j => World.cell?_of_block (a := ⟨g, j, none⟩) hb
  ⟨(e 0).trans h.c0, (e 1).trans h.c1, (e 2).trans h.c2, (e 3).trans h.c3, (e 4).trans h.c4, (e 5).trans h.c5, (e 6).trans h.c6, (e 7).trans h.c7, (e 8).trans h.c8, (e 9).trans h.c9⟩
theorem RW.push {F : FuncD} {r : RestV} {iv rv : Value} {i : InsD} {lv : Value} {x : Nat} {pG : Option Addr} {cG : Nat} {w wx W4 w5 : World} {k : Nat} {v v' u : Value} {to : Int} {ws : List Int} {us : List (Int × Value)} (h : RW F r iv rv i lv x pG cG w wx k v) (hb : Below wx.heap.size wx W4)
    (hk : k < (goeL F x).length) (hto : (goeL F x).getD k 0 = to) (hws : wrL F x k = ws) (hu : OI W4 (w.heap.size + 2) u ws) (h1 : us.length = k) (h2 : wx.ownsRow (w.heap.size + 2) 36 2 v k (flat us))
    (h3 : ∀ j, j < k → (us.getD j usZ).1 = (((waysD F x).take k).getD j wayZ).1 ∧ OI wx (w.heap.size + 2) (us.getD j usZ).2 (((waysD F x).take k).getD j wayZ).2)
    (ha : ApdS 2 W4 w5 (w.heap.size + 2) 36 v v' (k + 1) (flat us ++ [.int .i64 to, u])) : RW F r iv rv i lv x pG cG w w5 (k + 1) v' := by
  have hl : k < (waysD F x).length := by rw [ways_len]; omega
  have hlen : ((waysD F x).take k).length = k := by rw [List.length_take]; omega
  have hs := hb.size
  have hx2 := h.b7.lt
  have hrow : ∀ g, v.ownBlock = some g → w.heap.size + 2 ≤ g := fun g hg => (World.ownsRow.lt h2 g hg).1
  have hst : ∀ g, g < w.heap.size + 2 → w5.heap[g]? = wx.heap[g]? := fun g hg =>
    (ha.grown.block g (by omega) (fun e => by have := hrow g e.symm; omega)).trans (hb.block g (by omega))
  refine ⟨h.box.off (hst _ (by omega)), h.b7.block (hst _ (by omega)), World.ownsRow.kept (h.g.keep hb) ha.grown (own_ne h.g h2 (by decide)), ?_, (h.low.trans (hb.mono h.low.size)).trans (ha.below (by have := h.low.size; omega) fun g hg => by have := hrow g hg; omega)⟩
  rw [ways_take hk, hto, hws]
  refine WO.snoc (w := W4) (us := us) (by rw [hlen]; exact h1) (by rw [hlen]; exact ownsRow_keep h2 hb) (fun j hj => ?_) hu (by rw [hlen]; exact ha)
  rw [hlen] at hj
  exact ⟨(h3 j hj).1, (h3 j hj).2.keep hb⟩
theorem RW.openRow {F : FuncD} {r : RestV} {iv rv : Value} {i : InsD} {lv : Value} {x : Nat} {pG : Option Addr} {cG : Nat} {w wx : World} {k : Nat} {v : Value} (h : RW F r iv rv i lv x pG cG w wx k v) (hk : k ≤ (waysD F x).length) :
    ∃ us pv cv, v = .slice pv k cv ∧ us.length = k ∧ wx.ownsRow (w.heap.size + 2) 36 2 v k (flat us) ∧
      ∀ j, j < k → (us.getD j usZ).1 = (((waysD F x).take k).getD j wayZ).1 ∧ OI wx (w.heap.size + 2) (us.getD j usZ).2 (((waysD F x).take k).getD j wayZ).2 := by
  have hlen : ((waysD F x).take k).length = k := by rw [List.length_take]; omega
  obtain ⟨us, h1, h2, h3⟩ := h.row
  rw [hlen] at h1 h2 h3
  obtain ⟨p, c, hv, _⟩ := way_form h.row
  rw [hlen] at hv
  exact ⟨us, p, c, hv, h1, h2, h3⟩
theorem oi_cell {w : World} {B : Nat} {p : Option Addr} {n c : Nat} {ls : List Int} (h : OI w B (.slice p n c) ls) (hl : ls.length ≤ 17592186044416) {k : Nat} (hk : k < ls.length) : ∃ b o, p = some ⟨b, o, none⟩ ∧ w.cell? ⟨b, o + k, none⟩ = some (.int .i64 (ls.getD k 0)) := by
  obtain ⟨p', c', he, _, _, hp⟩ := ri_form (h.mine.ri hl)
  simp only [Value.slice.injEq] at he
  obtain ⟨rfl, _, rfl⟩ := he
  obtain ⟨b, o, e, hc⟩ := hp (by omega)
  exact ⟨b, o, e, hc k hk⟩
theorem way_one (to : Int) (u : Value) (h : u.oneCell' = true) : ∀ q ∈ [Value.int .i64 to, u], q.oneCell' = true := by
  intro q hq
  simp only [List.mem_cons, List.not_mem_nil, or_false] at hq
  rcases hq with rfl | rfl
  · rfl
  · exact h
theorem oi_one {w : World} {B : Nat} {u : Value} {ls : List Int} (h : OI w B u ls) : u.oneCell' = true := by
  obtain ⟨p, c, rfl⟩ := own_form h
  rfl
theorem owns_form {w : World} {B sz n : Nat} {T : TypeId} {v : Value} {xs : List Value} (h : w.ownsRow B T sz v n xs) : ∃ p c, v = .slice p n c := by
  rcases h.2 with ⟨rfl, rfl⟩ | ⟨g, c, cur, rfl, _⟩
  · exact ⟨none, 0, rfl⟩
  · exact ⟨_, c, rfl⟩
theorem ways_with {F : FuncD} {x n : Nat} (h : handlerI F x = n) : waysD F x = (waysD F x).take (goeL F x).length ++ [((F.regions.getD n regZ).to, [(F.regions.getD n regZ).d])] := by
  have h1 := ways_han (F := F) (x := x) (by omega)
  rw [h, Int.toNat_natCast] at h1
  have hl : (goeL F x).length < (waysD F x).length := by omega
  have h2 := List.take_succ_eq_append_getElem hl
  rw [List.take_of_length_le (by omega)] at h2
  have h3 := h1.2
  rw [List.getD_eq_getElem?_getD, List.getElem?_eq_getElem hl] at h3
  simp only [Option.getD_some] at h3
  rw [h3] at h2
  exact h2
theorem ways_without {F : FuncD} {x : Nat} (h : ¬ 0 ≤ handlerI F x) : (waysD F x).take (goeL F x).length = waysD F x := by
  rw [← ways_nohan h, List.take_length]
set_option maxRecDepth 100000 in
set_option maxHeartbeats 8000000 in
theorem rways_any (r : RestV) (F : FuncD) (iv rv : Value) (x : Nat) (w : World) (hU : Us w) (hI : Ii w iv F.ins) (hR : Rg w rv F.regions) (hx : x < F.ins.length) :
    Calls Tryd.prog 20 #[funcV r F iv rv, .int .i64 x] w (WPost w (waysD F x)) := by
  have HH := rhandler_any r F iv rv x
  unfold funcV at HH ⊢
  replace HH := Lib.hid HH
  have HI := Lib.hid hI
  have HR := Lib.hid hR
  have HU := Lib.hid hU
  obtain ⟨p, c, rfl, hc, hm, hp⟩ := ii_form hI
  obtain ⟨p2, c2, rfl, hc2, hm2, hp2⟩ := rg_form hR
  obtain ⟨b, off, rfl, hcell⟩ := hp (by omega)
  obtain ⟨lv, hat⟩ := hcell x hx
  have hg0 : goeL F x = goesD (F.ins.getD x insZ) x := rfl
  have hw0 : ∀ k, wrL F x k = if k = 0 ∧ (F.ins.getD x insZ).op ≠ 18 then writesD (F.ins.getD x insZ) else [] := fun k => rfl
  generalize F.ins.getD x insZ = i at hat hg0 hw0
  obtain ⟨e0, e1, e2, e3, e4, e5, e6, e7, hll⟩ := hat
  obtain ⟨p7, c7, rfl, _, _, _⟩ := ri_form e7
  have HL := Lib.hid e7
  have HG0 := Lib.hid hg0
  have HW0 := Lib.hid hw0
  have HP2 := Lib.hid hp2
  clear hcell hp hp2 hI hR hU e7 hg0 hw0
  have hxl : (x : Int) < (F.ins.length : Int) := by omega
  have HGC := rgoes_any i (.slice p7 i.l.length c7) x (by omega) (by omega)
  have HWC := rwrites_any i (.slice p7 i.l.length c7)
  unfold insV at HGC HWC
  replace HGC := Lib.hid HGC
  replace HWC := Lib.hid HWC
  have a0 := alloc_cell e0 (.cells #[.string r.name, .int .i64 F.params, .int .i64 F.regs, .int .i64 r.frees, .bool r.gen, .int .i64 r.bound, .slice r.np r.nn r.nc, .slice r.cp r.cn r.cc, .slice (some ⟨b, off, none⟩) F.ins.length c, .slice p2 F.regions.length c2] 27)
  have a1 := alloc_cell e1 (.cells #[.string r.name, .int .i64 F.params, .int .i64 F.regs, .int .i64 r.frees, .bool r.gen, .int .i64 r.bound, .slice r.np r.nn r.nc, .slice r.cp r.cn r.cc, .slice (some ⟨b, off, none⟩) F.ins.length c, .slice p2 F.regions.length c2] 27)
  have a2 := alloc_cell e2 (.cells #[.string r.name, .int .i64 F.params, .int .i64 F.regs, .int .i64 r.frees, .bool r.gen, .int .i64 r.bound, .slice r.np r.nn r.nc, .slice r.cp r.cn r.cc, .slice (some ⟨b, off, none⟩) F.ins.length c, .slice p2 F.regions.length c2] 27)
  have a3 := alloc_cell e3 (.cells #[.string r.name, .int .i64 F.params, .int .i64 F.regs, .int .i64 r.frees, .bool r.gen, .int .i64 r.bound, .slice r.np r.nn r.nc, .slice r.cp r.cn r.cc, .slice (some ⟨b, off, none⟩) F.ins.length c, .slice p2 F.regions.length c2] 27)
  have a4 := alloc_cell e4 (.cells #[.string r.name, .int .i64 F.params, .int .i64 F.regs, .int .i64 r.frees, .bool r.gen, .int .i64 r.bound, .slice r.np r.nn r.nc, .slice r.cp r.cn r.cc, .slice (some ⟨b, off, none⟩) F.ins.length c, .slice p2 F.regions.length c2] 27)
  have a5 := alloc_cell e5 (.cells #[.string r.name, .int .i64 F.params, .int .i64 F.regs, .int .i64 r.frees, .bool r.gen, .int .i64 r.bound, .slice r.np r.nn r.nc, .slice r.cp r.cn r.cc, .slice (some ⟨b, off, none⟩) F.ins.length c, .slice p2 F.regions.length c2] 27)
  have a6 := alloc_cell e6 (.cells #[.string r.name, .int .i64 F.params, .int .i64 F.regs, .int .i64 r.frees, .bool r.gen, .int .i64 r.bound, .slice r.np r.nn r.nc, .slice r.cp r.cn r.cc, .slice (some ⟨b, off, none⟩) F.ins.length c, .slice p2 F.regions.length c2] 27)
  clear e0 e1 e2 e3 e4 e5 e6
  go_enter Tryd.func20, Tryd.ntmps20
  go_wp2_with (first | (go_at_call 47; (with_reducible refine (HGC.out _ (HL.out.keep (by ((repeat' (first | with_reducible assumption | with_reducible exact Below.refl _ _ | with_reducible refine Below.drew ?_ | with_reducible refine Below.alloc ?_ (by first | omega | (simp; omega) | (simp; done) | fail) _ | with_reducible refine Below.setCell ?_ (by first | omega | (simp; omega) | (simp; done) | fail) _ | fail)); (first | done | fail))))).mono ?_); rintro e w2 ⟨uG, rfl, hu, hb2⟩; have HOG := Lib.hid hu; have HB2 := Lib.hid hb2; clear hu hb2) | fail)
  rw [← HG0.out] at HOG
  obtain ⟨pG, cG, rfl⟩ := own_form HOG.out
  have hgl : (goeL F x).length ≤ 2 := by rw [HG0.out]; exact goesD_len i x
  have HRW := Lib.hid (show RW F r (.slice (some ⟨b, off, none⟩) F.ins.length c) (.slice p2 F.regions.length c2) i (.slice p7 i.l.length c7) x pG cG w w2 0 (.slice none 0 0) from
    ⟨(Box10.new w r F _ _ 27).off ((HB2.out.block _ (by simp only [World.size_alloc]; omega)).trans (Below.heap_alloc _ _ _ (by simp))),
     (blk_at (by simp) : Blk _ _ (insC i (.slice p7 i.l.length c7)) 50).block (HB2.out.block _ (by simp)),
     HOG.out.low (by simp only [World.size_alloc]; omega), WO.nil _ _, (by ((repeat' (first | with_reducible assumption | with_reducible exact Below.refl _ _ | with_reducible refine Below.drew ?_ | with_reducible refine Below.alloc ?_ (by first | omega | (simp; omega) | (simp; done) | fail) _ | with_reducible refine Below.setCell ?_ (by first | omega | (simp; omega) | (simp; done) | fail) _ | fail)); (first | done | fail)) : Below w.heap.size w _).trans (HB2.out.mono (by simp only [World.size_alloc]; omega))⟩)
  go_loopw [7, 8] (fun v s wx => ∃ k : Nat, s = .int .i64 k ∧ k ≤ (goeL F x).length ∧ RW F r (.slice (some ⟨b, off, none⟩) F.ins.length c) (.slice p2 F.regions.length c2) i (.slice p7 i.l.length c7) x pG cG w wx k v) (fun _ s _ => (goeL F x).length - (intOf s).toNat)
  case atStart => exact ⟨0, rfl, Nat.zero_le _, HRW.out⟩
  case round =>
    obtain ⟨k, rfl, hk, hrw⟩ := hrel
    have hsz := hrw.low.size
    have hwl := ways_len F x
    obtain ⟨us, pv, cv, rfl, hu1, hu2, hu3⟩ := hrw.openRow (by omega)
    have HU1 := Lib.hid hu1
    have HU2 := Lib.hid hu2
    have HU3 := Lib.hid hu3
    have HR1 := Lib.hid hrw
    clear hu1 hu2 hu3 hwl HRW
    by_cases hlt : k < (goeL F x).length
    · obtain ⟨bG, oG, rfl, hcG⟩ := oi_cell hrw.g (by omega) hlt
      obtain ⟨to, hto⟩ : ∃ to, (goeL F x).getD k 0 = to := ⟨_, rfl⟩
      rw [hto] at hcG
      have HTO := Lib.hid hto
      have hltz : (k : Int) < ((goeL F x).length : Int) := by omega
      have hWK := HW0.out k
      have q0 := alloc_cell (hrw.b7.cell (i := 0) rfl) (.cells #[.int .i64 to, .slice none 0 0] 36)
      have q1 := alloc_cell (hrw.b7.cell (i := 1) rfl) (.cells #[.int .i64 to, .slice none 0 0] 36)
      have q2 := alloc_cell (hrw.b7.cell (i := 2) rfl) (.cells #[.int .i64 to, .slice none 0 0] 36)
      have q3 := alloc_cell (hrw.b7.cell (i := 3) rfl) (.cells #[.int .i64 to, .slice none 0 0] 36)
      have q4 := alloc_cell (hrw.b7.cell (i := 4) rfl) (.cells #[.int .i64 to, .slice none 0 0] 36)
      have q5 := alloc_cell (hrw.b7.cell (i := 5) rfl) (.cells #[.int .i64 to, .slice none 0 0] 36)
      have q6 := alloc_cell (hrw.b7.cell (i := 6) rfl) (.cells #[.int .i64 to, .slice none 0 0] 36)
      have HSZ := Lib.hid hsz
      clear hto hrw
      by_cases hkop : k = 0 ∧ i.op ≠ 18
      · rw [if_pos hkop] at hWK
        have hkb : ((k : Int) == 0) = true := by simp [hkop.1]
        have hob : (i.op != 18) = true := by simp [hkop.2]
        have HWK := Lib.hid hWK
        clear hWK hkop
        go_wp2_with (first
          | (go_at_call 29; (with_reducible refine (HWC.out _ (HL.out.keep ((HR1.out.low).alloc HSZ.out _)) hll).mono ?_); rintro e w3 ⟨uW, rfl, hu, hb3⟩; have HOW := Lib.hid hu; have HB3 := Lib.hid hb3; have hbx := (Blk.new wr [.int .i64 to, .slice none 0 0] 36).block (hb3.block _ (by simp)); obtain ⟨pW, cW, rfl⟩ := own_form hu; have HBX := Lib.hid hbx; have d0 := hbx.cell (i := 0) rfl; have d1 := hbx.cell (i := 1) rfl; have f1 := hbx.frozen 1; have d2 := (hbx.set 1 (.slice pW (writesD i).length cW)).cell (i := 0) rfl; have d3 := (hbx.set 1 (.slice pW (writesD i).length cW)).cell (i := 1) rfl; clear hu hb3 hbx)
          | (at_builtin; refine wpList_appS rfl (.tmp 49) (.tmp 51) rfl Tryd.underlying33 infoWay rfl (by decide) rfl (v := .slice pv k cv) (base := w.heap.size + 2) (n := k) (m := 1) (xs := flat us) (news := [.int .i64 to, .slice pW (writesD i).length cW]) (ownsRow_keep HU2.out (((Below.refl wr.heap.size wr).alloc (Nat.le_refl _) _).trans (HB3.out.mono (by simp)) |>.setCell (Nat.le_refl _) _ |>.alloc (by have := HB3.out.size; simp at this ⊢; omega) _)) rfl (by exact srcS_top (by first | rfl | (simp; done)) rfl) (way_one _ _ rfl) (by unfold maxLen; omega) (by omega) (by have := HSZ.out; have := HR1.out.b7.lt; have := HB3.out.size; simp at this ⊢; omega) ?_; intro v' w5 hap; obtain ⟨pv', cv', rfl⟩ := owns_form hap.own; have HAP := Lib.hid hap; clear hap)
          | fail)
        go_roundw
        case rel => exact ⟨k + 1, by go_num, by omega, HR1.out.push (W4 := (w3.setCell ⟨wr.heap.size, 1, none⟩ (.slice pW (writesD i).length cW)).alloc (.cells #[.int .i64 to, .slice pW (writesD i).length cW] 36)) (((Below.refl wr.heap.size wr).alloc (Nat.le_refl _) _).trans (HB3.out.mono (by simp)) |>.setCell (Nat.le_refl _) _ |>.alloc (by have := HB3.out.size; simp at this ⊢; omega) _) hlt HTO.out HWK.out (OW.low (OW.keep (w := w3.setCell ⟨wr.heap.size, 1, none⟩ (.slice pW (writesD i).length cW)) (OW.block HOW.out fun g hg => Below.heap_setCell _ _ _ g (by have := (HOW.out.lt hg).1; rw [World.size_alloc] at this; dsimp only; omega)) ((Below.refl _ _).alloc (Nat.le_refl _) _)) (by have := HR1.out.b7.lt; rw [World.size_alloc]; omega)) HU1.out HU2.out HU3.out HAP.out⟩
        case measure => simp [intOf]; omega
      · rw [if_neg hkop] at hWK
        have HWK := Lib.hid hWK
        have HKO := Lib.hid hkop
        clear hWK hkop
        by_cases hk0 : k = 0
        · have hkb : ((k : Int) == 0) = true := by simp [hk0]
          have hob : (i.op != 18) = false := by
            have := HKO.out
            simp only [hk0, true_and, ne_eq, Decidable.not_not] at this
            simp [this]
          clear hk0
          go_wp2_with (first
            | (at_builtin; refine wpList_appS rfl (.tmp 49) (.tmp 51) rfl Tryd.underlying33 infoWay rfl (by decide) rfl (v := .slice pv k cv) (base := w.heap.size + 2) (n := k) (m := 1) (xs := flat us) (news := [.int .i64 to, .slice none 0 0]) (ownsRow_keep HU2.out (by ((repeat' (first | with_reducible assumption | with_reducible exact Below.refl _ _ | with_reducible refine Below.drew ?_ | with_reducible refine Below.alloc ?_ (by first | omega | (simp; omega) | (simp; done) | fail) _ | with_reducible refine Below.setCell ?_ (by first | omega | (simp; omega) | (simp; done) | fail) _ | fail)); (first | done | fail)))) rfl (by exact srcS_top (by first | rfl | (simp; done)) rfl) (way_one _ _ rfl) (by unfold maxLen; omega) (by omega) (by have := HSZ.out; have := HR1.out.b7.lt; simp; omega) ?_; intro v' w5 hap; obtain ⟨pv', cv', rfl⟩ := owns_form hap.own; have HAP := Lib.hid hap; clear hap)
            | fail)
          go_roundw
          case rel => exact ⟨k + 1, by go_num, by omega, HR1.out.push (W4 := (wr.alloc (.cells #[.int .i64 to, .slice none 0 0] 36)).alloc (.cells #[.int .i64 to, .slice none 0 0] 36)) (by ((repeat' (first | with_reducible assumption | with_reducible exact Below.refl _ _ | with_reducible refine Below.drew ?_ | with_reducible refine Below.alloc ?_ (by first | omega | (simp; omega) | (simp; done) | fail) _ | with_reducible refine Below.setCell ?_ (by first | omega | (simp; omega) | (simp; done) | fail) _ | fail)); (first | done | fail))) hlt HTO.out HWK.out (OW.nil _ _) HU1.out HU2.out HU3.out HAP.out⟩
          case measure => simp [intOf]; omega
        · have hkb : ((k : Int) == 0) = false := by rw [beq_eq_false_iff_ne]; omega
          go_wp2_with (first
            | (at_builtin; refine wpList_appS rfl (.tmp 49) (.tmp 51) rfl Tryd.underlying33 infoWay rfl (by decide) rfl (v := .slice pv k cv) (base := w.heap.size + 2) (n := k) (m := 1) (xs := flat us) (news := [.int .i64 to, .slice none 0 0]) (ownsRow_keep HU2.out (by ((repeat' (first | with_reducible assumption | with_reducible exact Below.refl _ _ | with_reducible refine Below.drew ?_ | with_reducible refine Below.alloc ?_ (by first | omega | (simp; omega) | (simp; done) | fail) _ | with_reducible refine Below.setCell ?_ (by first | omega | (simp; omega) | (simp; done) | fail) _ | fail)); (first | done | fail)))) rfl (by exact srcS_top (by first | rfl | (simp; done)) rfl) (way_one _ _ rfl) (by unfold maxLen; omega) (by omega) (by have := HSZ.out; have := HR1.out.b7.lt; simp; omega) ?_; intro v' w5 hap; obtain ⟨pv', cv', rfl⟩ := owns_form hap.own; have HAP := Lib.hid hap; clear hap)
            | fail)
          go_roundw
          case rel => exact ⟨k + 1, by go_num, by omega, HR1.out.push (W4 := (wr.alloc (.cells #[.int .i64 to, .slice none 0 0] 36)).alloc (.cells #[.int .i64 to, .slice none 0 0] 36)) (by ((repeat' (first | with_reducible assumption | with_reducible exact Below.refl _ _ | with_reducible refine Below.drew ?_ | with_reducible refine Below.alloc ?_ (by first | omega | (simp; omega) | (simp; done) | fail) _ | with_reducible refine Below.setCell ?_ (by first | omega | (simp; omega) | (simp; done) | fail) _ | fail)); (first | done | fail))) hlt HTO.out HWK.out (OW.nil _ _) HU1.out HU2.out HU3.out HAP.out⟩
          case measure => simp [intOf]; omega
    · have hke : k = (goeL F x).length := by omega
      subst hke
      have hltz : ¬ (((goeL F x).length : Nat) : Int) < (((goeL F x).length : Nat) : Int) := by omega
      obtain ⟨x0, x1, x2, x3, x4, x5, x6, x7, x8, x9⟩ := hrw.box
      have HSZ := Lib.hid hsz
      have HHC := Lib.hid (HH.out wr (HU.out.keep hrw.low) (HI.out.keep hrw.low) (HR.out.keep hrw.low))
      clear hrw
      by_cases h0 : 0 ≤ handlerI F x
      · obtain ⟨n, hn, hnl⟩ := handler_lt h0
        have HN := Lib.hid (ways_with hn)
        rw [hn] at HHC
        obtain ⟨b2, o2, rfl, hcr⟩ := HP2.out (by omega)
        have HCR := Lib.hid ((hcr n hnl).keep HR1.out.low)
        have HCR0 := Lib.hid (hcr n hnl)
        have hnz : (n : Int) < (F.regions.length : Int) := by omega
        generalize F.regions.getD n regZ = rg at HCR HCR0 HN
        clear hcr h0 hn
        go_wp2_with (first
          | (go_at_call 18; (with_reducible refine HHC.out.mono ?_); rintro e wH ⟨rfl, hbH⟩; have HBH := Lib.hid hbH; clear hbH)
          | fail)
        have z9 := below_cell HBH.out x9
        have z2 := below_cell HBH.out HCR.out.2.2.1
        have z3 := below_cell HBH.out HCR.out.2.2.2
        have hb2 := World.block_lt_of_cell? w _ HCR0.out.2.2.1
        have hsH := HBH.out.size
        have hsr := HSZ.out
        have hlr := HR1.out.b7.lt
        go_region_held3 (fun w' => w'.cell? ⟨w.heap.size, 9, none⟩ = some (.slice (some ⟨b2, o2, none⟩) F.regions.length c2) ∧ w'.cell? ⟨b2, o2 + n * 4 + 2, none⟩ = some (.int .i64 rg.to) ∧ w'.cell? ⟨b2, o2 + n * 4 + 3, none⟩ = some (.int .i64 rg.d)) (first | go_keep | (with_reducible exact ⟨alloc_cell z9 _, alloc_cell z2 _, alloc_cell z3 _⟩) | (with_reducible exact ⟨alloc_cell (alloc_cell z9 _) _, alloc_cell (alloc_cell z2 _) _, alloc_cell (alloc_cell z3 _) _⟩) | (with_reducible exact HKV.out) | fail)
         (first
          | (refine step_appS rfl (.tmp 58) (.tmp 73) rfl Tryd.underlying33 infoWay rfl (by decide) rfl (v := .slice pv (goeL F x).length cv) (base := w.heap.size + 2) (n := (goeL F x).length) (m := 1) (xs := flat us) (news := [.int .i64 rg.to, .slice (some ⟨wH.heap.size, 0, none⟩) 1 1]) (ownsRow_keep HU2.out (((HBH.out.drew).alloc HBH.out.size _).alloc (by simp; omega) _)) rfl (by exact srcS_top (by first | rfl | (simp; done)) rfl) (way_one _ _ rfl) (by unfold maxLen; omega) (by omega) (by simp; omega) ?_; intro v' w5 hap; obtain ⟨pv', cv', rfl⟩ := owns_form hap.own; have HAP := Lib.hid hap; have hbv := hap.below (B := w.heap.size + 2) (by simp; omega) (fun g hg => (World.ownsRow.lt HU2.out g hg).1); have HKV := Lib.hid (show w5.cell? ⟨w.heap.size, 9, none⟩ = some (.slice (some ⟨b2, o2, none⟩) F.regions.length c2) ∧ w5.cell? ⟨b2, o2 + n * 4 + 2, none⟩ = some (.int .i64 rg.to) ∧ w5.cell? ⟨b2, o2 + n * 4 + 3, none⟩ = some (.int .i64 rg.d) from ⟨(hbv.cell (p := ⟨w.heap.size, 9, none⟩) (by dsimp only; omega)).trans (alloc_cell (alloc_cell z9 _) _), (hbv.cell (p := ⟨b2, o2 + n * 4 + 2, none⟩) (by dsimp only at hb2 ⊢; omega)).trans (alloc_cell (alloc_cell z2 _) _), (hbv.cell (p := ⟨b2, o2 + n * 4 + 3, none⟩) (by dsimp only at hb2 ⊢; omega)).trans (alloc_cell (alloc_cell z3 _) _)⟩); clear hap hbv)
          | fail)
        go_wp2_with fail
        go_ret
        have hlen : ((waysD F x).take (goeL F x).length).length = (goeL F x).length := by rw [List.length_take, ways_len]; omega
        have hW4 := ((HBH.out.drew).alloc HBH.out.size (.cells #[.int .i64 rg.d] 3)).alloc (by simp; omega) (.cells #[.int .i64 rg.to, .slice (some ⟨wH.heap.size, 0, none⟩) 1 1] 36)
        have hWO := WO.snoc (us := us) (ls := (waysD F x).take (goeL F x).length) (by rw [hlen]; exact HU1.out) (by rw [hlen]; exact ownsRow_keep HU2.out hW4) (fun j hj => by rw [hlen] at hj; exact ⟨(HU3.out j hj).1, (HU3.out j hj).2.keep hW4⟩) (ws := [rg.d]) (OW.keep (own_one (w := wH.drew) rfl (by simp; omega)) ((Below.refl _ _).alloc (Nat.le_refl _) _)) (by rw [hlen]; exact HAP.out)
        rw [← HN.out] at hWO
        exact ⟨_, rfl, hWO.low (by omega), (HR1.out.low.trans (hW4.mono HR1.out.low.size)).trans (HAP.out.below (by simp; omega) (fun g hg => by have := (World.ownsRow.lt HU2.out g hg).1; omega))⟩
      · have HN := Lib.hid (ways_without h0)
        have h0z : handlerI F x < 0 := by omega
        clear h0
        go_wp2_with (first
          | (go_at_call 18; (with_reducible refine HHC.out.mono ?_); rintro e wH ⟨rfl, hbH⟩; have HBH := Lib.hid hbH; clear hbH)
          | fail)
        go_ret
        refine ⟨_, rfl, ?_, HR1.out.low.trans (HBH.out.mono HR1.out.low.size)⟩
        have hr := HR1.out.row
        rw [HN.out] at hr
        exact (hr.keep HBH.out).low (by omega)
end Go.Proofs.YtnniohimbmnapaaDoor
