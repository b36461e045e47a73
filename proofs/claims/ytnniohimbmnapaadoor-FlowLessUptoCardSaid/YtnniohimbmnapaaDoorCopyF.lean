/- The document's CopyFunc: a function as new memory: the walk. -/
import Derived.Test.YtnniohimbmnapaaDoorCopyB
namespace Go.Proofs.YtnniohimbmnapaaDoor
open Go Go.ChangeShapes Go.WideShapes Go.RowKit
set_option linter.unusedVariables false
set_option linter.unusedSimpArgs false
def cfC (r : RestV) (F : FuncD) (vN vC vI vR : Value) : List Value := [.string r.name, .int .i64 F.params, .int .i64 F.regs, .int .i64 r.frees, .bool r.gen, .int .i64 r.bound, vN, vC, vI, vR]
def cfZ : List Value := [.string ⟨#[]⟩, .int .i64 0, .int .i64 0, .int .i64 0, .bool false, .int .i64 0, .slice none 0 0, .slice none 0 0, .slice none 0 0, .slice none 0 0]
/-- The boxes of the argument and of the result. -/
structure CS (w : World) (r : RestV) (F : FuncD) (vN vC vI vR : Value) (wx : World) : Prop where
  b1 : Bx wx w.heap.size (cfC r F vN vC vI vR) 27
  b2 : Bx wx (w.heap.size + 1) cfZ 27
  low : Below w.heap.size w wx
  sz : w.heap.size + 2 ≤ wx.heap.size
section
variable {w wx w' : World} {r : RestV} {F : FuncD} {vN vC vI vR : Value}
theorem CS.new : CS w r F vN vC vI vR ((w.alloc (.cells #[.string r.name, .int .i64 F.params, .int .i64 F.regs, .int .i64 r.frees, .bool r.gen, .int .i64 r.bound, vN, vC, vI, vR] 27)).alloc (.cells #[.string ⟨#[]⟩, .int .i64 0, .int .i64 0, .int .i64 0, .bool false, .int .i64 0, .slice none 0 0, .slice none 0 0, .slice none 0 0, .slice none 0 0] 27)) := by
  refine ⟨(Bx.new w (cfC r F vN vC vI vR) 27).al _, ?_, by ((repeat' (first | with_reducible assumption | with_reducible exact Below.refl _ _ | with_reducible refine Below.drew ?_ | with_reducible refine Below.alloc ?_ (by first | omega | (simp; omega) | (simp; done) | fail) _ | with_reducible refine Below.setCell ?_ (by first | omega | (simp; omega) | (simp; done) | fail) _ | fail)); (first | done | fail)), by simp⟩
  have := Bx.new (w.alloc (.cells #[.string r.name, .int .i64 F.params, .int .i64 F.regs, .int .i64 r.frees, .bool r.gen, .int .i64 r.bound, vN, vC, vI, vR] 27)) cfZ 27
  simpa [cfZ] using this
theorem CS.keep (h : CS w r F vN vC vI vR wx) (hb : Below wx.heap.size wx w') : CS w r F vN vC vI vR w' :=
  ⟨h.b1.keep hb, h.b2.keep hb, h.low.trans (hb.mono h.low.size), Nat.le_trans h.sz hb.size⟩
theorem CS.app {B n sz : Nat} {T : TypeId} {v v' : Value} {xs : List Value} (h : CS w r F vN vC vI vR wx) (ha : ApdS sz wx w' B T v v' n xs) (hv : ∀ g, v.ownBlock = some g → w.heap.size + 2 ≤ g) : CS w r F vN vC vI vR w' :=
  ⟨h.b1.grown ha.grown fun e => by have := hv _ e; omega, h.b2.grown ha.grown fun e => by have := hv _ e; omega,
    h.low.grown ha.grown h.low.size fun g hg => by have := hv g hg; omega, Nat.le_trans h.sz ha.grown.size⟩
theorem CS.setN (h : CS w r F vN vC vI vR wx) (v : Value) : CS w r F v vC vI vR (wx.setCell ⟨w.heap.size, 6, none⟩ v) :=
  ⟨h.b1.set 6 v, h.b2.block (Below.heap_setCell _ _ _ _ (by simp)), h.low.setCell (Nat.le_refl _) _, by simpa using h.sz⟩
theorem CS.setC (h : CS w r F vN vC vI vR wx) (v : Value) : CS w r F vN v vI vR (wx.setCell ⟨w.heap.size, 7, none⟩ v) :=
  ⟨h.b1.set 7 v, h.b2.block (Below.heap_setCell _ _ _ _ (by simp)), h.low.setCell (Nat.le_refl _) _, by simpa using h.sz⟩
theorem CS.setI (h : CS w r F vN vC vI vR wx) (v : Value) : CS w r F vN vC v vR (wx.setCell ⟨w.heap.size, 8, none⟩ v) :=
  ⟨h.b1.set 8 v, h.b2.block (Below.heap_setCell _ _ _ _ (by simp)), h.low.setCell (Nat.le_refl _) _, by simpa using h.sz⟩
theorem CS.setR (h : CS w r F vN vC vI vR wx) (v : Value) : CS w r F vN vC vI v (wx.setCell ⟨w.heap.size, 9, none⟩ v) :=
  ⟨h.b1.set 9 v, h.b2.block (Below.heap_setCell _ _ _ _ (by simp)), h.low.setCell (Nat.le_refl _) _, by simpa using h.sz⟩
theorem CS.al (h : CS w r F vN vC vI vR wx) (o : Obj) : CS w r F vN vC vI vR (wx.alloc o) := h.keep ((Below.refl _ _).alloc (Nat.le_refl _) _)
end
/-- A row stays where a store below it and an append to an empty new row follow. -/
theorem row_next {w1 w2 : World} {B sz n b j m c : Nat} {T T' : TypeId} {v u : Value} {xs : List Value} (h : w1.ownsRow B T sz v n xs) (hb : b < B) (hg : ((w1.setCell ⟨b, j, none⟩ u).alloc (.cells #[] T')).grownBy w2 (Value.slice (some ⟨w1.heap.size, 0, none⟩) m c).ownBlock) : w2.ownsRow B T sz v n xs := by
  refine World.ownsRow.kept (ownS_keep (ownS_set h (a := ⟨b, j, none⟩) hb u) ((Below.refl _ _).alloc (Nat.le_refl _) (.cells #[] T'))) hg ?_
  cases hv : v.ownBlock with
  | none => exact .inl rfl
  | some g =>
    have := (World.ownsRow.lt h g hv).2
    right
    simp only [Value.ownBlock, ne_eq, Option.some.injEq]
    omega
/-- What CopyFunc answers; the regions are owned. -/
def CfPost2 (w : World) (r : RestV) (F : FuncD) (nx cx : List Value) (e : Ending) (w' : World) : Prop :=
  ∃ (r' : RestV) (iv rv : Value), e = .returned (funcV r' F iv rv) ∧ r'.name = r.name ∧ r'.frees = r.frees ∧ r'.gen = r.gen ∧ r'.bound = r.bound ∧ r'.nn = r.nn ∧ r'.cn = r.cn ∧ Nm w' r' nx ∧ Cn w' r' cx ∧ Rg w' rv F.regions ∧ IO w' w.heap.size iv F.ins ∧ Below w.heap.size w w' ∧ w'.ownsRow w.heap.size 64 4 rv F.regions.length (flatR F.regions)
structure CI (w : World) (r : RestV) (F : FuncD) (nx cx : List Value) (p1 : Option Addr) (c1 : Nat) (p2 : Option Addr) (c2 : Nat) (p3 : Option Addr) (c3 : Nat) (wx : World) (k : Nat) (v : Value) : Prop where
  cs : CS w r F (.slice p1 r.nn c1) (.slice p2 r.cn c2) v (.slice p3 F.regions.length c3) wx
  nm : wx.ownsRow (w.heap.size + 2) 9 1 (.slice p1 r.nn c1) r.nn nx
  cn : wx.ownsRow (w.heap.size + 2) 84 2 (.slice p2 r.cn c2) r.cn cx
  rg : wx.ownsRow (w.heap.size + 2) 64 4 (.slice p3 F.regions.length c3) F.regions.length (flatR F.regions)
  row : IO wx (w.heap.size + 2) v (F.ins.take k)
set_option maxRecDepth 100000 in
set_option maxHeartbeats 8000000 in
theorem copyf_any2 (r : RestV) (F : FuncD) (iv rv : Value) (nx cx : List Value) (w : World) (hI : Ii w iv F.ins) (hR : Rg w rv F.regions) (hN : Nm w r nx) (hC : Cn w r cx) (hnn : F.ins.length ≤ 1048576) (hnr : F.regions.length ≤ 1048576) (hll : ∀ i, i < F.ins.length → (F.ins.getD i insZ).l.length ≤ 1048576) :
    Calls Tryd.prog 28 #[funcV r F iv rv] w (CfPost2 w r F nx cx) := by
  obtain ⟨p, c, rfl, hc, hm, hp⟩ := ii_form hI
  obtain ⟨p2, c2, rfl, hc2, hm2, hp2⟩ := rg_form hR
  have HI := Lib.hid hI
  have HR := Lib.hid hR
  have HN := Lib.hid hN
  have HC := Lib.hid hC
  have HL := Lib.hid hll
  have hnn6 := hN.2.2.1
  have hcn6 := hC.2.2.1
  have HP := Lib.hid hp
  clear hI hR hN hC hll hp hp2
  unfold funcV
  have HS0 := Lib.hid (CS.new (w := w) (r := r) (F := F) (vN := .slice r.np r.nn r.nc) (vC := .slice r.cp r.cn r.cc) (vI := .slice p F.ins.length c) (vR := .slice p2 F.regions.length c2))
  go_enter Tryd.func28, Tryd.ntmps28
  go_wp2_with (first
    | (at_builtin; refine wpList_appS rfl (.tmp 6) (.tmp 8) rfl Tryd.underlying22 infoStr rfl (by decide) rfl (v := .slice (some ⟨w.heap.size + 1 + 1, 0, none⟩) 0 0) (base := w.heap.size + 2) (n := 0) (m := r.nn) (xs := []) (news := nx) (ownS_fresh (by simp) (by simp)) rfl (HN.out.keep (by ((repeat' (first | with_reducible assumption | with_reducible exact Below.refl _ _ | with_reducible refine Below.drew ?_ | with_reducible refine Below.alloc ?_ (by first | omega | (simp; omega) | (simp; done) | fail) _ | with_reducible refine Below.setCell ?_ (by first | omega | (simp; omega) | (simp; done) | fail) _ | fail)); (first | done | fail)))).src HN.out.ones (by unfold maxLen; omega) (by omega) (by first | (simp; done) | (simp; omega)) ?_; intro v1 w1 hap1; simp only [Nat.zero_add, List.nil_append] at hap1; obtain ⟨p1, c1, rfl, hz1⟩ := ownS_form hap1.own; have hs1 := (HS0.out.al _).app hap1 (fun g hg => (by simp [Value.ownBlock] at hg; omega)); have q6 := hs1.b1.cell (i := 6) rfl; have f6 := hs1.b1.frozen 6; have hs2 := hs1.setN (.slice p1 r.nn c1); have q7 := alloc_cell (hs2.b1.cell (i := 7) rfl) (.cells #[] 84); have HS1 := Lib.hid hs2; have HZ1 := Lib.hid hz1; have HW1 := Lib.hid hap1.own; clear hap1 hs1 hs2 hz1)
    | (at_builtin; refine wpList_appS rfl (.tmp 11) (.tmp 13) rfl Tryd.underlying23 infoCon rfl (by decide) rfl (v := .slice (some ⟨w1.heap.size, 0, none⟩) 0 0) (base := w.heap.size + 2) (n := 0) (m := r.cn) (xs := []) (news := cx) (ownS_fresh HS1.out.sz (by simp)) rfl (HC.out.keep (HS1.out.al _).low).src HC.out.ones (by unfold maxLen; omega) (by omega) (HS1.out.al _).sz ?_; intro v2 w2 hap2; simp only [Nat.zero_add, List.nil_append] at hap2; obtain ⟨p2', c2', rfl, hz2⟩ := ownS_form hap2.own; have hsz1 := HS1.out.sz; have hs1 := (HS1.out.al _).app hap2 (fun g hg => (by simp [Value.ownBlock] at hg hsz1; omega)); have q7' := hs1.b1.cell (i := 7) rfl; have f7 := hs1.b1.frozen 7; have hs2 := hs1.setC (.slice p2' r.cn c2'); have q9 := alloc_cell (hs2.b1.cell (i := 9) rfl) (.cells #[] 64); have HS2 := Lib.hid hs2; have HZ2 := Lib.hid hz2; have HW1b := Lib.hid (row_next HW1.out (by simp) hap2.grown); have HW2 := Lib.hid hap2.own; clear hap2 hs1 hs2 hz2 hsz1)
    | (at_builtin; refine wpList_appS rfl (.tmp 16) (.tmp 18) rfl Tryd.underlying25 infoRgn rfl (by decide) rfl (v := .slice (some ⟨w2.heap.size, 0, none⟩) 0 0) (base := w.heap.size + 2) (n := 0) (m := F.regions.length) (xs := []) (news := flatR F.regions) (ownS_fresh HS2.out.sz (by simp)) rfl (HR.out.keep (HS2.out.al _).low).src (flatR_ones _) (by unfold maxLen; omega) (by omega) (HS2.out.al _).sz ?_; intro v3 w3 hap3; simp only [Nat.zero_add, List.nil_append] at hap3; obtain ⟨p3, c3, rfl, hz3⟩ := ownS_form hap3.own; have hsz2 := HS2.out.sz; have hs1 := (HS2.out.al _).app hap3 (fun g hg => (by simp [Value.ownBlock] at hg hsz2; omega)); have q9' := hs1.b1.cell (i := 9) rfl; have f9 := hs1.b1.frozen 9; have hs2 := hs1.setR (.slice p3 F.regions.length c3); have q8 := hs2.b1.cell (i := 8) rfl; have f8 := hs2.b1.frozen 8; have HS3 := Lib.hid (hs2.setI (.slice none 0 0)); have HW1c := Lib.hid (ownS_set (ownS_set (row_next HW1b.out (by simp) hap3.grown) (a := ⟨w.heap.size, 9, none⟩) (by simp) (.slice p3 F.regions.length c3)) (a := ⟨w.heap.size, 8, none⟩) (by simp) (.slice none 0 0)); have HW2c := Lib.hid (ownS_set (ownS_set (row_next HW2.out (by simp) hap3.grown) (a := ⟨w.heap.size, 9, none⟩) (by simp) (.slice p3 F.regions.length c3)) (a := ⟨w.heap.size, 8, none⟩) (by simp) (.slice none 0 0)); have HW3c := Lib.hid (ownS_set (ownS_set hap3.own (a := ⟨w.heap.size, 9, none⟩) (by simp) (.slice p3 F.regions.length c3)) (a := ⟨w.heap.size, 8, none⟩) (by simp) (.slice none 0 0)); clear hap3 hs1 hs2 hsz2)
    | fail)
  have HCI := Lib.hid (show CI w r F nx cx p1 c1 p2' c2' p3 c3 _ 0 (.slice none 0 0) from ⟨HS3.out, HW1c.out, HW2c.out, HW3c.out, IO.nil _ _⟩)
  clear HS0 HS1 HS2 HS3 HW1 HW2 HW1b HW1c HW2c HW3c q6 q7 q7' q8 q9 q9' f6 f7 f8 f9
  go_loopw [4] (fun s4 wx => ∃ (k : Nat) (v : Value), s4 = .int .i64 k ∧ k ≤ F.ins.length ∧ CI w r F nx cx p1 c1 p2' c2' p3 c3 wx k v) (fun s4 _ => F.ins.length - (intOf s4).toNat)
  case atStart => exact ⟨0, _, rfl, Nat.zero_le _, HCI.out⟩
  case round =>
    obtain ⟨k, v, rfl, hk, hci⟩ := hrel
    clear HCI
    by_cases hlt : k < F.ins.length
    · have hkz : (k : Int) < (F.ins.length : Int) := by omega
      obtain ⟨b, off, rfl, hcell⟩ := HP.out (by omega)
      obtain ⟨lv, hat⟩ := hcell k hlt
      have hl1 := HL.out k hlt
      obtain ⟨ik, hik⟩ : ∃ ik, F.ins.getD k insZ = ik := ⟨_, rfl⟩
      rw [hik] at hat hl1
      obtain ⟨e0, e1, e2, e3, e4, e5, e6, e7, hll⟩ := hat.keep hci.cs.low
      obtain ⟨p7, c7, rfl, _, _, _⟩ := ri_form e7
      obtain ⟨us, h1, h2, h3⟩ := hci.row
      have htl : (F.ins.take k).length = k := by rw [List.length_take]; omega
      rw [htl] at h1 h2 h3
      obtain ⟨pv, cv, rfl, hzv⟩ := ownS_form h2
      have HCI := Lib.hid hci
      have H1 := Lib.hid h1
      have H2 := Lib.hid h2
      have H3 := Lib.hid h3
      have HIK := Lib.hid hik
      have HE7 := Lib.hid e7
      have hsz := hci.cs.sz
      have HZV := Lib.hid hzv
      clear hci h1 h2 h3 hik e7 hat hcell hzv
      go_wp2_with (first
        | (at_builtin; refine wpList_app rfl (.tmp 34) (.tmp 36) rfl Tryd.underlying31 infoInt rfl rfl (v := .slice (some ⟨wr.heap.size + 1, 0, none⟩) 0 0) (base := wr.heap.size + 1) (n := 0) (m := ik.l.length) (xs := []) (news := ik.l.map (Value.int .i64)) (ownS_fresh (by simp) (by simp)) rfl (HE7.out.keep (by ((repeat' (first | with_reducible assumption | with_reducible exact Below.refl _ _ | with_reducible refine Below.drew ?_ | with_reducible refine Below.alloc ?_ (by first | omega | (simp; omega) | (simp; done) | fail) _ | with_reducible refine Below.setCell ?_ (by first | omega | (simp; omega) | (simp; done) | fail) _ | fail)); (first | done | fail)))).src (ones_int _) (by unfold maxLen; omega) (by omega) (by simp) ?_; intro v5 w5 hap5; simp only [Nat.zero_add, List.nil_append] at hap5; obtain ⟨p5, c5, rfl, hz5⟩ := ownS_form hap5.own; have hb5 : Below wr.heap.size wr w5 := (((Below.refl wr.heap.size wr).alloc (Nat.le_refl _) _).alloc (by simp) _).grown hap5.grown (by simp; omega) (fun g hg => (by simp [Value.ownBlock] at hg; omega)); have hx5 := ((Bx.new wr [.int .i64 ik.op, .int .i64 ik.d, .int .i64 ik.a, .int .i64 ik.b, .int .i64 ik.t, .int .i64 ik.k, .slice p7 ik.l.length c7] 50).al _).grown hap5.grown (fun e => (by simp [Value.ownBlock] at e)); have f56 := hx5.frozen 6; have q56 := hx5.cell (i := 6) rfl; have hx6 := hx5.set 6 (.slice p5 ik.l.length c5); have g0 := hx6.cell (i := 0) rfl; have g1 := hx6.cell (i := 1) rfl; have g2 := hx6.cell (i := 2) rfl; have g3 := hx6.cell (i := 3) rfl; have g4 := hx6.cell (i := 4) rfl; have g5 := hx6.cell (i := 5) rfl; have g6 := hx6.cell (i := 6) rfl; have hb6 := hb5.setCell (p := ⟨wr.heap.size, 6, none⟩) (Nat.le_refl _) (.slice p5 ik.l.length c5); have g8 := (HCI.out.cs.keep hb6).b1.cell (i := 8) rfl; have HB6 := Lib.hid hb6; have HOI := Lib.hid (ownS_set hap5.own (a := ⟨wr.heap.size, 6, none⟩) (by simp) (.slice p5 ik.l.length c5)); have hsz6 := hb6.size; have HSZ6 := Lib.hid hsz6; clear hap5 hb5 hb6 hx5 hx6 hz5 hsz6)
        | (at_builtin; refine wpList_appS rfl (.tmp 40) (.tmp 42) rfl Tryd.underlying24 infoIn rfl (by decide) rfl (v := .slice pv k cv) (base := w.heap.size + 2) (n := k) (m := 1) (xs := flatI us) (news := flatI [(ik, .slice p5 ik.l.length c5)]) (ownS_keep H2.out (HB6.out.alloc HSZ6.out _)) rfl (by exact srcS_top (by first | rfl | (simp; done)) rfl) (insV_ones _ _ _ _) (by unfold maxLen; omega) (by omega) (by have := HSZ6.out; simp at this ⊢; omega) ?_; intro v6 w6 hap6; obtain ⟨p6, c6, rfl, hz6⟩ := ownS_form hap6.own; have hbY := HB6.out.alloc HSZ6.out (.cells #[.int .i64 ik.op, .int .i64 ik.d, .int .i64 ik.a, .int .i64 ik.b, .int .i64 ik.t, .int .i64 ik.k, .slice p5 ik.l.length c5] 50); have hcs6 := (HCI.out.cs.keep hbY).app hap6 (fun g hg => (World.ownsRow.lt H2.out g hg).1); have q8 := hcs6.b1.cell (i := 8) rfl; have f8 := hcs6.b1.frozen 8; have HBY := Lib.hid hbY; have HCS6 := Lib.hid hcs6; have HAP6 := Lib.hid hap6; clear hap6 hbY hcs6 hz6)
        | fail)
      go_roundw
      case rel =>
        refine ⟨k + 1, _, by go_num, by omega, HCS6.out.setI _, ownS_set (ownS_grown (ownS_keep HCI.out.nm HBY.out) (ownS_keep H2.out HBY.out) (by decide) HAP6.out.grown) (by simp) _, ownS_set (ownS_grown (ownS_keep HCI.out.cn HBY.out) (ownS_keep H2.out HBY.out) (by decide) HAP6.out.grown) (by simp) _, ownS_set (ownS_grown (ownS_keep HCI.out.rg HBY.out) (ownS_keep H2.out HBY.out) (by decide) HAP6.out.grown) (by simp) _, ?_⟩
        have htk : F.ins.take (k + 1) = F.ins.take k ++ [ik] := by
          rw [List.take_succ_eq_append_getElem hlt, ← HIK.out, List.getD_eq_getElem?_getD, List.getElem?_eq_getElem hlt]; rfl
        rw [htk]
        refine IO.set (IO.snoc (w := (w5.setCell ⟨wr.heap.size, 6, none⟩ (.slice p5 ik.l.length c5)).alloc (.cells #[.int .i64 ik.op, .int .i64 ik.d, .int .i64 ik.a, .int .i64 ik.b, .int .i64 ik.t, .int .i64 ik.k, .slice p5 ik.l.length c5] 50)) (us := us) (v := .slice pv k cv) (u := .slice p5 ik.l.length c5) (by rw [htl]; exact H1.out) (by rw [htl]; exact ownS_keep H2.out HBY.out) (fun i hi => ?_) ?_ (by rw [htl]; exact HAP6.out)) (by simp) _
        · rw [htl] at hi
          exact ⟨(H3.out i hi).1, (H3.out i hi).2.keep HBY.out⟩
        · have ho : OI (w5.setCell ⟨wr.heap.size, 6, none⟩ (.slice p5 ik.l.length c5)) (wr.heap.size + 1) (.slice p5 ik.l.length c5) ik.l := by
            have := HOI.out
            unfold OI OW
            simpa using this
          exact (ho.keep ((Below.refl _ _).alloc (Nat.le_refl _) _)).low (by omega)
      case measure => simp [intOf]; omega
    · have hkz : ¬ (k : Int) < (F.ins.length : Int) := by omega
      obtain rfl : k = F.ins.length := by omega
      obtain ⟨pv, cv, rfl, hzv⟩ : ∃ pv cv, v = .slice pv F.ins.length cv ∧ (pv = none → cv = 0) := by
        obtain ⟨us, h1, h2, h3⟩ := hci.row
        rw [List.take_length] at h2
        exact ownS_form h2
      obtain ⟨x0, x1, x2, x3, x4, x5, x6, x7, x8, x9⟩ : Box10 wr w.heap.size { r with np := p1, nc := c1, cp := p2', cc := c2' } F (.slice pv F.ins.length cv) (.slice p3 F.regions.length c3) :=
        ⟨hci.cs.b1.cell (i := 0) rfl, hci.cs.b1.cell (i := 1) rfl, hci.cs.b1.cell (i := 2) rfl, hci.cs.b1.cell (i := 3) rfl, hci.cs.b1.cell (i := 4) rfl, hci.cs.b1.cell (i := 5) rfl, hci.cs.b1.cell (i := 6) rfl, hci.cs.b1.cell (i := 7) rfl, hci.cs.b1.cell (i := 8) rfl, hci.cs.b1.cell (i := 9) rfl⟩
      have y0 := hci.cs.b2.cell (i := 0) rfl
      have fy0 := hci.cs.b2.frozen 0
      have y1 := hci.cs.b2.cell (i := 1) rfl
      have fy1 := hci.cs.b2.frozen 1
      have y2 := hci.cs.b2.cell (i := 2) rfl
      have fy2 := hci.cs.b2.frozen 2
      have y3 := hci.cs.b2.cell (i := 3) rfl
      have fy3 := hci.cs.b2.frozen 3
      have y4 := hci.cs.b2.cell (i := 4) rfl
      have fy4 := hci.cs.b2.frozen 4
      have y5 := hci.cs.b2.cell (i := 5) rfl
      have fy5 := hci.cs.b2.frozen 5
      have y6 := hci.cs.b2.cell (i := 6) rfl
      have fy6 := hci.cs.b2.frozen 6
      have y7 := hci.cs.b2.cell (i := 7) rfl
      have fy7 := hci.cs.b2.frozen 7
      have y8 := hci.cs.b2.cell (i := 8) rfl
      have fy8 := hci.cs.b2.frozen 8
      have y9 := hci.cs.b2.cell (i := 9) rfl
      have fy9 := hci.cs.b2.frozen 9
      have HB := Lib.hid ((((((((((hci.cs.b2.set 0 (.string r.name)).set 1 (.int .i64 F.params)).set 2 (.int .i64 F.regs)).set 3 (.int .i64 r.frees)).set 4 (.bool r.gen)).set 5 (.int .i64 r.bound)).set 6 (.slice p1 r.nn c1)).set 7 (.slice p2' r.cn c2')).set 8 (.slice pv F.ins.length cv)).set 9 (.slice p3 F.regions.length c3))
      have HLOW := Lib.hid ((((((((((hci.cs.low.setCell (p := ⟨w.heap.size + 1, 0, none⟩) (by simp) (.string r.name)).setCell (p := ⟨w.heap.size + 1, 1, none⟩) (by simp) (.int .i64 F.params)).setCell (p := ⟨w.heap.size + 1, 2, none⟩) (by simp) (.int .i64 F.regs)).setCell (p := ⟨w.heap.size + 1, 3, none⟩) (by simp) (.int .i64 r.frees)).setCell (p := ⟨w.heap.size + 1, 4, none⟩) (by simp) (.bool r.gen)).setCell (p := ⟨w.heap.size + 1, 5, none⟩) (by simp) (.int .i64 r.bound)).setCell (p := ⟨w.heap.size + 1, 6, none⟩) (by simp) (.slice p1 r.nn c1)).setCell (p := ⟨w.heap.size + 1, 7, none⟩) (by simp) (.slice p2' r.cn c2')).setCell (p := ⟨w.heap.size + 1, 8, none⟩) (by simp) (.slice pv F.ins.length cv)).setCell (p := ⟨w.heap.size + 1, 9, none⟩) (by simp) (.slice p3 F.regions.length c3))
      have HNM := Lib.hid (ownS_set (ownS_set (ownS_set (ownS_set (ownS_set (ownS_set (ownS_set (ownS_set (ownS_set (ownS_set hci.nm (a := ⟨w.heap.size + 1, 0, none⟩) (by simp) (.string r.name)) (a := ⟨w.heap.size + 1, 1, none⟩) (by simp) (.int .i64 F.params)) (a := ⟨w.heap.size + 1, 2, none⟩) (by simp) (.int .i64 F.regs)) (a := ⟨w.heap.size + 1, 3, none⟩) (by simp) (.int .i64 r.frees)) (a := ⟨w.heap.size + 1, 4, none⟩) (by simp) (.bool r.gen)) (a := ⟨w.heap.size + 1, 5, none⟩) (by simp) (.int .i64 r.bound)) (a := ⟨w.heap.size + 1, 6, none⟩) (by simp) (.slice p1 r.nn c1)) (a := ⟨w.heap.size + 1, 7, none⟩) (by simp) (.slice p2' r.cn c2')) (a := ⟨w.heap.size + 1, 8, none⟩) (by simp) (.slice pv F.ins.length cv)) (a := ⟨w.heap.size + 1, 9, none⟩) (by simp) (.slice p3 F.regions.length c3))
      have HCN := Lib.hid (ownS_set (ownS_set (ownS_set (ownS_set (ownS_set (ownS_set (ownS_set (ownS_set (ownS_set (ownS_set hci.cn (a := ⟨w.heap.size + 1, 0, none⟩) (by simp) (.string r.name)) (a := ⟨w.heap.size + 1, 1, none⟩) (by simp) (.int .i64 F.params)) (a := ⟨w.heap.size + 1, 2, none⟩) (by simp) (.int .i64 F.regs)) (a := ⟨w.heap.size + 1, 3, none⟩) (by simp) (.int .i64 r.frees)) (a := ⟨w.heap.size + 1, 4, none⟩) (by simp) (.bool r.gen)) (a := ⟨w.heap.size + 1, 5, none⟩) (by simp) (.int .i64 r.bound)) (a := ⟨w.heap.size + 1, 6, none⟩) (by simp) (.slice p1 r.nn c1)) (a := ⟨w.heap.size + 1, 7, none⟩) (by simp) (.slice p2' r.cn c2')) (a := ⟨w.heap.size + 1, 8, none⟩) (by simp) (.slice pv F.ins.length cv)) (a := ⟨w.heap.size + 1, 9, none⟩) (by simp) (.slice p3 F.regions.length c3))
      have HRG := Lib.hid (ownS_set (ownS_set (ownS_set (ownS_set (ownS_set (ownS_set (ownS_set (ownS_set (ownS_set (ownS_set hci.rg (a := ⟨w.heap.size + 1, 0, none⟩) (by simp) (.string r.name)) (a := ⟨w.heap.size + 1, 1, none⟩) (by simp) (.int .i64 F.params)) (a := ⟨w.heap.size + 1, 2, none⟩) (by simp) (.int .i64 F.regs)) (a := ⟨w.heap.size + 1, 3, none⟩) (by simp) (.int .i64 r.frees)) (a := ⟨w.heap.size + 1, 4, none⟩) (by simp) (.bool r.gen)) (a := ⟨w.heap.size + 1, 5, none⟩) (by simp) (.int .i64 r.bound)) (a := ⟨w.heap.size + 1, 6, none⟩) (by simp) (.slice p1 r.nn c1)) (a := ⟨w.heap.size + 1, 7, none⟩) (by simp) (.slice p2' r.cn c2')) (a := ⟨w.heap.size + 1, 8, none⟩) (by simp) (.slice pv F.ins.length cv)) (a := ⟨w.heap.size + 1, 9, none⟩) (by simp) (.slice p3 F.regions.length c3))
      have HIO := Lib.hid ((((((((((hci.row.set (a := ⟨w.heap.size + 1, 0, none⟩) (by simp) (.string r.name)).set (a := ⟨w.heap.size + 1, 1, none⟩) (by simp) (.int .i64 F.params)).set (a := ⟨w.heap.size + 1, 2, none⟩) (by simp) (.int .i64 F.regs)).set (a := ⟨w.heap.size + 1, 3, none⟩) (by simp) (.int .i64 r.frees)).set (a := ⟨w.heap.size + 1, 4, none⟩) (by simp) (.bool r.gen)).set (a := ⟨w.heap.size + 1, 5, none⟩) (by simp) (.int .i64 r.bound)).set (a := ⟨w.heap.size + 1, 6, none⟩) (by simp) (.slice p1 r.nn c1)).set (a := ⟨w.heap.size + 1, 7, none⟩) (by simp) (.slice p2' r.cn c2')).set (a := ⟨w.heap.size + 1, 8, none⟩) (by simp) (.slice pv F.ins.length cv)).set (a := ⟨w.heap.size + 1, 9, none⟩) (by simp) (.slice p3 F.regions.length c3))
      clear hci
      go_wp2_with fail
      have k0 := HB.out.cell (i := 0) rfl
      have k1 := HB.out.cell (i := 1) rfl
      have k2 := HB.out.cell (i := 2) rfl
      have k3 := HB.out.cell (i := 3) rfl
      have k4 := HB.out.cell (i := 4) rfl
      have k5 := HB.out.cell (i := 5) rfl
      have k6 := HB.out.cell (i := 6) rfl
      have k7 := HB.out.cell (i := 7) rfl
      have k8 := HB.out.cell (i := 8) rfl
      have k9 := HB.out.cell (i := 9) rfl
      refine bodyPost_ret (v := funcV { r with np := p1, nc := c1, cp := p2', cc := c2' } F (.slice pv F.ins.length cv) (.slice p3 F.regions.length c3)) (by simp [results, Tryd.results28, go_sem, k0, k1, k2, k3, k4, k5, k6, k7, k8, k9, funcV]) rfl ?_
      refine ⟨_, _, _, rfl, rfl, rfl, rfl, rfl, rfl, rfl, ⟨Cr.of_owns HNM.out, HN.out.2.1, HN.out.2.2.1, HZ1.out⟩, ⟨Cr.of_owns HCN.out, HC.out.2.1, HC.out.2.2.1, HZ2.out⟩, (Cr.of_owns HRG.out).rg (by omega), ?_, HLOW.out, ownS_low HRG.out (by omega)⟩
      have := HIO.out
      rw [List.take_length] at this
      exact this.low (by omega)
theorem copyf_any (r : RestV) (F : FuncD) (iv rv : Value) (nx cx : List Value) (w : World) (hI : Ii w iv F.ins) (hR : Rg w rv F.regions) (hN : Nm w r nx) (hC : Cn w r cx) (hnn : F.ins.length ≤ 1048576) (hnr : F.regions.length ≤ 1048576) (hll : ∀ i, i < F.ins.length → (F.ins.getD i insZ).l.length ≤ 1048576) :
    Calls Tryd.prog 28 #[funcV r F iv rv] w (CfPost w r F nx cx) :=
  (copyf_any2 r F iv rv nx cx w hI hR hN hC hnn hnr hll).mono fun e w' ⟨r', iv', rv', h0, h1, h2, h3, h4, h5, h6, h7, h8, h9, h10, h11, _⟩ => ⟨r', iv', rv', h0, h1, h2, h3, h4, h5, h6, h7, h8, h9, h10, h11⟩
end Go.Proofs.YtnniohimbmnapaaDoor
