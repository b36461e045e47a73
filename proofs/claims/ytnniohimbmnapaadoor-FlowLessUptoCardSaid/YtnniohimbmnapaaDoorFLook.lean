/- Layer 10: one look: what is live behind an instruction and isn't written on the way is taken over. -/
import Derived.Test.YtnniohimbmnapaaDoorFGr
import Derived.Test.YtnniohimbmnapaaDoorFWays
namespace Go.Proofs.YtnniohimbmnapaaDoor
open Go Go.ChangeShapes Go.WideShapes Go.RowKit
set_option linter.unusedVariables false
set_option linter.unusedSimpArgs false
attribute [local go_sem] Oper.semAt_some
theorem sizeU64 : (Tryd.prog.info? 53).map (·.size) = some 1 := by kernel_rfl
theorem ones_word (l : List Nat) : ∀ u ∈ l.map wordV, u.oneCell' = true := fun u hu => by
  obtain ⟨x, _, rfl⟩ := List.mem_map.1 hu
  rfl
def LookPost (r : RestV) (F : FuncD) (iv rv : Value) (Y : Lay) (n s S0 : Nat) (FV : Nat → Value) (FF : Nat → List Nat) (A : World) (L : List (List Nat)) (wt : List Bool) (work : List Nat) (x : Nat) (tg : Nat → Nat) (e : Ending) (B : World) : Prop :=
  (∃ v, e = .returned v) ∧ (∃ sc tg' wv', sc.length = s ∧ LkX r F iv rv Y n n s S0 none B.heap.size tg' FV FF wv' B (lookD (grOf F) FF L wt work x).1 (lookD (grOf F) FF L wt work x).2.1 (lookD (grOf F) FF L wt work x).2.2 sc ∧ Fr tg tg' A B) ∧ Below S0 A B
/-- What the rounds of a look hold. -/
structure LJ (r : RestV) (F : FuncD) (iv rv : Value) (Y : Lay) (s : Nat) (w0 : World) (H b3 : Nat) (tg : Nat → Nat) (FV : Nat → Value) (FF : Nat → List Nat) (wv : Value) (L0 : List (List Nat)) (wt : List Bool) (work : List Nat) (x : Nat) (A0 : World) (E k : Nat) (A : World) : Prop where
  st : ∃ sc, sc.length = s ∧ LkX r F iv rv Y F.ins.length F.ins.length s w0.heap.size none H tg FV FF wv A (((waysN F x).take k).foldl (look1 x) (L0, false)).1 wt work sc
  b1 : Boxed A H 69 (.pointer (some ⟨Y.bl, 0, none⟩))
  b2 : Boxed A (H + 1) 3 (.int .i64 x)
  b3 : Boxed A b3 4 (.bool (((waysN F x).take k).foldl (look1 x) (L0, false)).2)
  low : Below w0.heap.size w0 A
  fr : ∀ g, g < H → tg g = 1 → A.heap[g]? = A0.heap[g]?
/-- What the rounds hold that strike out of the scratch row what is written. -/
def Lp1 (r : RestV) (F : FuncD) (iv rv : Value) (Y : Lay) (s : Nat) (w0 : World) (H : Nat) (tg : Nat → Nat) (FV : Nat → Value) (FF : Nat → List Nat) (wv : Value) (L : List (List Nat)) (wt : List Bool) (work : List Nat) (A5 : World) (sc : List Nat) (ws : List Nat) (j : Nat) (B : World) : Prop :=
  LkX r F iv rv Y F.ins.length F.ins.length s w0.heap.size none H tg FV FF wv B L wt work ((ws.take j).foldl clrW sc) ∧ Kw (fun b => b ≠ Y.bS) A5 B
/-- What the rounds hold that take over, word by word. -/
structure Lp2 (r : RestV) (F : FuncD) (iv rv : Value) (Y : Lay) (s : Nat) (w0 : World) (H b3 : Nat) (tg : Nat → Nat) (FV : Nat → Value) (FF : Nat → List Nat) (wv : Value) (L : List (List Nat)) (wt : List Bool) (work : List Nat) (A5 : World) (x : Nat) (mk : Bool) (sc : List Nat) (j : Nat) (B : World) : Prop where
  st : LkX r F iv rv Y F.ins.length F.ins.length s w0.heap.size none H tg FV FF wv B (L.set x (orK (L.getD x []) sc j)) wt work sc
  box : Boxed B b3 4 (.bool (mk || decide (orK (L.getD x []) sc j ≠ L.getD x [])))
  kw : Kw (fun b => b ≠ Y.bS ∧ b ≠ Y.rho x ∧ b ≠ b3) A5 B
theorem below_from {n : Nat} {w A B : World} (h : Below n w A) (k : Below n w B) (hs : A.heap.size ≤ B.heap.size) : Below n A B :=
  ⟨k.os.trans h.os.symm, k.tape.trans h.tape.symm, k.output.trans h.output.symm, hs, fun b hb => (k.block b hb).trans (h.block b hb).symm⟩
/-- What the rounds hold that wake those from whom ways lead here. -/
structure Lp3 (r : RestV) (F : FuncD) (iv rv : Value) (Y : Lay) (s : Nat) (w0 W : World) (tg : Nat → Nat) (FV : Nat → Value) (FF : Nat → List Nat) (L : List (List Nat)) (sc : List Nat) (wt : List Bool) (work ps : List Nat) (tg' : Nat → Nat) (wv' : Value) (B : World) : Prop where
  st : LkX r F iv rv Y F.ins.length F.ins.length s w0.heap.size none B.heap.size tg' FV FF wv' B L (ps.foldl wait1 (wt, work)).1 (ps.foldl wait1 (wt, work)).2 sc
  fr : Fr tg tg' W B
  low : Below w0.heap.size w0 B
  size : W.heap.size ≤ B.heap.size
theorem ri_at {w : World} {p : Option Addr} {n c : Nat} {ws : List Int} (h : Ri w (.slice p n c) ws) {i : Nat} (hi : i < ws.length) : ∃ b off, p = some ⟨b, off, none⟩ ∧ w.cell? ⟨b, off + i, none⟩ = some (.int .i64 (ws.getD i 0)) := by
  obtain ⟨p', c', he, _, _, h3⟩ := ri_form h
  simp only [Value.slice.injEq] at he
  obtain ⟨rfl, _, _⟩ := he
  obtain ⟨b, off, rfl, hc⟩ := h3 (by omega)
  exact ⟨b, off, rfl, hc i hi⟩
theorem clr_len (rs : List Nat) (row : List Nat) : (rs.foldl clrW row).length = row.length := by
  induction rs generalizing row with
  | nil => rfl
  | cons r rs ih => rw [List.foldl_cons, ih]; simp [clrW]
set_option maxRecDepth 100000 in
set_option maxHeartbeats 16000000 in
theorem look_any {r : RestV} {F : FuncD} {iv rv : Value} {Y : Lay} {s : Nat} {w0 : World} {FV : Nat → Value} {FF : Nat → List Nat} {A : World} {L : List (List Nat)} {wt : List Bool} {work sc : List Nat}
    (hS : SoundF F) (hU : Us w0) (hI : Ii w0 iv F.ins) (hR : Rg w0 rv F.regions) (hb0 : Below w0.heap.size w0 A)
    {H0 : Nat} {tg0 : Nat → Nat} {wv : Value} (h : LkX r F iv rv Y F.ins.length F.ins.length s w0.heap.size none H0 tg0 FV FF wv A L wt work sc) (hs : s = (grOf F).s) (hL : OkL (grOf F) L) (hlen : wt.length = F.ins.length) (hsc : sc.length = s) (hnn : F.ins.length ≤ 1048576)
    {x : Nat} (hx : x < F.ins.length) (hFl : ∀ y ∈ FF x, y < F.ins.length) (hwl : work.length + (FF x).length < 8796093022208) :
    Calls Tryd.prog 51 #[.pointer (some ⟨Y.bl, 0, none⟩), .int .i64 x] A (LookPost r F iv rv Y F.ins.length s w0.heap.size FV FF A L wt work x tg0) := by
  have h := h.up h.hH (Nat.le_refl _)
  obtain ⟨tg, htg1, htg2⟩ : ∃ tg : Nat → Nat, (∀ b, b < A.heap.size → tg b = tg0 b) ∧ ∀ b, A.heap.size ≤ b → tg b = 1 := ⟨fun b => if b < A.heap.size then tg0 b else 1, fun b hb => if_pos hb, fun b hb => if_neg (by omega)⟩
  have h := h.retag htg1
  have HTG1 := Lib.hid htg1
  have HTG2 := Lib.hid htg2
  clear htg1 htg2
  have hn : ∀ k, (none : Option Nat) ≠ some k := fun k h => by cases h
  have T := h.tgs
  have hlk := h.lk (hn _)
  have hwt := h.wait (hn _)
  have hcW : A.cell? ⟨Y.bl, 12, none⟩ = some (.slice (some ⟨Y.bW, 0, none⟩) F.ins.length F.ins.length) := hlk.cell rfl
  have hxz : (x : Int) < (F.ins.length : Int) := by omega
  have hl0 := T.l0.2
  have hl3 := T.l3.2
  obtain ⟨p, c, rfl, hc, hm, hp⟩ := ii_form hI
  obtain ⟨p2, c2, rfl, hc2, hm2, hp2⟩ := rg_form hR
  have H := Lib.hid h
  have HT := Lib.hid T
  have HLN := Lib.hid hlen
  have HI := Lib.hid hI
  have HR := Lib.hid hR
  have HU := Lib.hid hU
  have HSC := Lib.hid hsc
  have HSS := Lib.hid hs
  have HLL := Lib.hid hL
  have HFL := Lib.hid hFl
  have HB0 := Lib.hid hb0
  clear h T hlk hwt hlen hn hp hp2 hI hR hU hsc hs hL hFl hb0
  have hA2 : A.heap.size + 2 = ((A.alloc (.cells #[.pointer (some ⟨Y.bl, 0, none⟩)] 69)).alloc (.cells #[.int .i64 x] 3)).heap.size := by simp
  obtain ⟨A1, hA1⟩ : ∃ A1, (A.alloc (.cells #[.pointer (some ⟨Y.bl, 0, none⟩)] 69)).alloc (.cells #[.int .i64 x] 3) = A1 := ⟨_, rfl⟩
  have hbA : Below A.heap.size A A1 := by rw [← hA1]; ((repeat' (first | with_reducible assumption | with_reducible exact Below.refl _ _ | with_reducible refine Below.drew ?_ | with_reducible refine Below.alloc ?_ (by first | omega | (simp; omega) | (simp; done) | fail) _ | with_reducible refine Below.setCell ?_ (by first | omega | (simp; omega) | (simp; done) | fail) _ | fail)); (first | done | fail))
  have h1 := (H.out.below hbA)
  have hlk1 := h1.lk (fun e => by cases e)
  have hbx1 : Boxed A1 A.heap.size 69 (.pointer (some ⟨Y.bl, 0, none⟩)) := by rw [← hA1]; exact (Boxed.new A _ _).alloc _
  have hbx2 : Boxed A1 (A.heap.size + 1) 3 (.int .i64 x) := by rw [← hA1]; have := Boxed.new (A.alloc (.cells #[.pointer (some ⟨Y.bl, 0, none⟩)] 69)) 3 (.int .i64 x); rwa [World.size_alloc] at this
  have hc1 := hbx1.cell
  have hc2x := hbx2.cell
  have hcW1 : A1.cell? ⟨Y.bl, 12, none⟩ = some (.slice (some ⟨Y.bW, 0, none⟩) F.ins.length F.ins.length) := hlk1.cell rfl
  have hw1 := h1.wait (fun e => by cases e)
  have hfx := hw1.frozen x
  obtain ⟨bx, hcx⟩ : ∃ b, A1.cell? ⟨Y.bW, x, none⟩ = some (.bool b) := ⟨wt.getD x true, hw1.cell (by
    have hl := HLN.out
    rw [List.getElem?_map, List.getElem?_eq_getElem (by omega), List.getD_eq_getElem?_getD, List.getElem?_eq_getElem (by omega)]; rfl)⟩
  have H2 := Lib.hid (h1.setWait x false)
  have HBX1 := Lib.hid hbx1
  have HBX2 := Lib.hid hbx2
  have HBA := Lib.hid hbA
  have hsz1 : A1.heap.size = A.heap.size + 2 := by rw [← hA1]; simp
  have HSZ := Lib.hid hsz1
  clear h1 hlk1 hw1 hbx1 hbx2 hbA hsz1
  refine calls_of_marks Tryd.func51 rfl ?_
  simp only [Tryd.ntmps51, List.size_toArray, List.length_cons, List.length_nil, Nat.reduceAdd, Nat.reduceSub, Array.replicate_succ, Array.replicate_zero, List.push_toArray, List.append_toArray, List.nil_append, List.cons_append]
  go_wp2_with fail
  clear hA1 hA2
  refine wp_region_still_tail' 6 (by kernel_rfl) (by kernel_rfl) ?_
  simp only [List.take_succ_cons, List.take_zero, List.drop_succ_cons, List.drop_zero]
  repeat still_step
  refine wpStill_nil ?_
  go_wp2_with fail
  obtain ⟨A3, hA3⟩ : ∃ A3, ((A1.setCell ⟨Y.bW, x, none⟩ (.bool false)).alloc (.cells #[.bool false] 4)).drew = A3 := ⟨_, rfl⟩
  have hb13 : Below A1.heap.size (A1.setCell ⟨Y.bW, x, none⟩ (.bool false)) A3 := by rw [← hA3]; ((repeat' (first | with_reducible assumption | with_reducible exact Below.refl _ _ | with_reducible refine Below.drew ?_ | with_reducible refine Below.alloc ?_ (by first | omega | (simp; omega) | (simp; done) | fail) _ | with_reducible refine Below.setCell ?_ (by first | omega | (simp; omega) | (simp; done) | fail) _ | fail)); (first | done | fail))
  have h3 := H2.out.keep (by have := hb13.size; simpa using this) (fun g _ hg => hb13.block g (by have := HBA.out.size; omega))
  have HL1 := HBX1.out.lt
  have HL2 := HBX2.out.lt
  have hk13 : ∀ g, g < A1.heap.size → g ≠ Y.bW → A3.heap[g]? = A1.heap[g]? := fun g hg hne => (hb13.block g hg).trans (Below.heap_setCell _ _ _ g hne)
  have hx1 : Boxed A3 A.heap.size 69 (.pointer (some ⟨Y.bl, 0, none⟩)) := (hk13 _ HL1 (by omega)).trans HBX1.out
  have hx2 : Boxed A3 (A.heap.size + 1) 3 (.int .i64 x) := (hk13 _ HL2 (by omega)).trans HBX2.out
  have hx3 : Boxed A3 A1.heap.size 4 (.bool false) := by
    rw [← hA3]
    have := Boxed.new (A1.setCell ⟨Y.bW, x, none⟩ (.bool false)) 4 (.bool false)
    simp only [World.size_setCell] at this
    exact this
  have hsz3 : A3.heap.size = A.heap.size + 3 := by rw [← hA3]; simp [HSZ.out]
  have hb03 : Below w0.heap.size w0 A3 := by
    have h1 := HB0.out.trans (HBA.out.mono HB0.out.size)
    have h2 : Below w0.heap.size w0 (A1.setCell ⟨Y.bW, x, none⟩ (.bool false)) := h1.setCell HT.out.l3.1 _
    exact h2.trans (hb13.mono (by have := h1.size; omega))
  rw [hA3]
  have H3 := Lib.hid h3
  have HX1 := Lib.hid hx1
  have HX2 := Lib.hid hx2
  have HX3 := Lib.hid hx3
  have HSZ3 := Lib.hid hsz3
  have HB03 := Lib.hid hb03
  have HK13 := Lib.hid hk13
  have HB13 := Lib.hid hb13
  obtain ⟨q0, q1, q2, q3, q4, q5, q6, q7, q8, q9⟩ := h3.box10
  have hc31 := hx1.cell
  have hc32 := hx2.cell
  clear h3 hx1 hx2 hx3 hsz3 hb03 hk13 hb13 hA3 hc1 hc2x hcW1 hfx hcx
  have HEA := each_any r F (.slice p F.ins.length c) (.slice p2 F.regions.length c2) x
  unfold funcV at HEA
  have HEE := Lib.hid HEA
  clear HEA
  refine wp_region_still_tail' 5 (by kernel_rfl) (by kernel_rfl) ?_
  simp only [List.take_succ_cons, List.take_zero, List.drop_succ_cons, List.drop_zero]
  repeat still_step
  refine wpStill_nil ?_
  go_wp2_with (first | (go_at_call 49; (with_reducible refine (HEE.out _).mono ?_); rintro e w9 ⟨rfl, rfl⟩) | fail)
  obtain ⟨WL, hWL⟩ : ∃ WL, ((A3.alloc (.cells #[.string r.name, .int .i64 F.params, .int .i64 F.regs, .int .i64 r.frees, .bool r.gen, .int .i64 r.bound, .slice r.np r.nn r.nc, .slice r.cp r.cn r.cc, .slice p F.ins.length c, .slice p2 F.regions.length c2] 27)).alloc (.cells #[.int .i64 x] 3)).drew = WL := ⟨_, rfl⟩
  have hsz : WL.heap.size = A3.heap.size + 2 := by rw [← hWL]; simp
  have hbl : Below A3.heap.size A3 WL := by rw [← hWL]; ((repeat' (first | with_reducible assumption | with_reducible exact Below.refl _ _ | with_reducible refine Below.drew ?_ | with_reducible refine Below.alloc ?_ (by first | omega | (simp; omega) | (simp; done) | fail) _ | with_reducible refine Below.setCell ?_ (by first | omega | (simp; omega) | (simp; done) | fail) _ | fail)); (first | done | fail))
  have hbf : Box10 WL A3.heap.size r F (.slice p F.ins.length c) (.slice p2 F.regions.length c2) := by
    rw [← hWL]
    exact ((Box10.new A3 r F (.slice p F.ins.length c) (.slice p2 F.regions.length c2) 27).keep ((Below.refl _ _).alloc (Nat.le_refl _) _) (by simp)).block rfl
  have hba : WL.cell? ⟨A3.heap.size + 1, 0, none⟩ = some (.int .i64 x) := by
    rw [← hWL]
    have := cell_new (w := A3.alloc (.cells #[.string r.name, .int .i64 F.params, .int .i64 F.regs, .int .i64 r.frees, .bool r.gen, .int .i64 r.bound, .slice r.np r.nn r.nc, .slice r.cp r.cn r.cc, .slice p F.ins.length c, .slice p2 F.regions.length c2] 27)) (cs := #[.int .i64 x]) (T := 3) (k := 0) rfl
    simp only [World.size_alloc] at this
    exact this
  rw [hWL]
  have HBL := Lib.hid hbl
  have HBF := Lib.hid hbf
  have HBAA := Lib.hid hba
  have HWS := Lib.hid hsz
  have hsz1 : A3.heap.size + 2 ≤ WL.heap.size := by rw [HWS.out]; omega
  have hsz2 : WL.heap.size ≤ A3.heap.size + 2 := by rw [HWS.out]; omega
  have hsz3 : A.heap.size + 3 ≤ A3.heap.size := by rw [HSZ3.out]; omega
  have hsz4 : A3.heap.size ≤ A.heap.size + 3 := by rw [HSZ3.out]; omega
  have hsz5 : A.heap.size + 2 ≤ A1.heap.size := by rw [HSZ.out]; omega
  have hsz6 : A1.heap.size ≤ A.heap.size + 2 := by rw [HSZ.out]; omega
  have hlow := HT.out.l0.1
  clear hbl hbf hba hWL hsz q0 q1 q2 q3 q4 q5 q6 q7 q8 q9 hc31 hc32 hcW
  refine wp_rangeE (K := fun b => b < w0.heap.size ∨ b = A3.heap.size ∨ b = A3.heap.size + 1) (It := ItW F x (WL.heap.size + 2)) (N := (waysD F x).length) (by rfl) (fun _ _ => enter_closure _ _) ?hseq ?hKs ?hps
    (LJ r F (.slice p F.ins.length c) (.slice p2 F.regions.length c2) Y s w0 A.heap.size A1.heap.size tg FV FF wv L (wt.set x false) work x A) ?hJ ?hIt ?h0 ?hround ?hdone
  case hseq =>
    intro W hk hs
    have h := each_gives r F _ _ x w0 W A3.heap.size (A3.heap.size + 1) (fun b => b < w0.heap.size ∨ b = A3.heap.size ∨ b = A3.heap.size + 1) HU.out HI.out HR.out hx ((HB03.out.trans (HBL.out.mono HB03.out.size)).trans (hk.below (by omega) fun _ _ => trivial)) (fun b hb => .inl hb) (.inr (.inl rfl)) (.inr (.inr rfl)) (HBF.out.block (hk.block _ trivial (by omega))) ((World.cell?_of_block (a := ⟨A3.heap.size + 1, 0, none⟩) (hk.block _ trivial (by dsimp only; omega))).trans HBAA.out)
    rwa [hs] at h
  case hKs => intro b hb; omega
  case hps => rintro k A args ⟨u, rfl, _⟩; rfl
  case hJ =>
    rintro E k A4 B hE ⟨⟨sc4, hs4, h1⟩, h2, h3, h4, h5, h6⟩ hk
    exact ⟨⟨sc4, hs4, h1.kw hk (fun g _ hg => by omega)⟩, Boxed.kw h2 hk (by omega), Boxed.kw h3 hk (by omega), Boxed.kw h4 hk (by omega), h5.trans (hk.below h5.size fun b hb => by omega), fun g hg ht => (hk.block g (by omega) (Nat.lt_of_lt_of_le hg h1.hH)).trans (h6 g hg ht)⟩
  case hIt =>
    rintro k A4 B args ⟨u, rfl, hu⟩ hk
    exact ⟨u, rfl, OW.kw hu hk (fun g hg => by have := OW.lt hu hg; omega)⟩
  case h0 =>
    intro E
    have hk : ∀ g, g < A3.heap.size → WL.heap[g]? = A3.heap[g]? := fun g hg => HBL.out.block g hg
    exact ⟨⟨sc, HSC.out, H3.out.keep (by omega) fun g _ hg => hk g (by omega)⟩, (hk _ (by omega)).trans HX1.out, (hk _ (by omega)).trans HX2.out, (hk _ (by omega)).trans HX3.out, HB03.out.trans (HBL.out.mono HB03.out.size), fun g hg ht => ((hk g (by omega)).trans (HK13.out g (by omega) (fun e => by rw [e, HT.out.b3] at ht; omega))).trans (HBA.out.block g hg)⟩
  case hround =>
    rintro l E k args A4 hE hEA hkN hj ⟨u, rfl, hu⟩
    obtain ⟨to, ws, hwN, hwD, hto, hws⟩ := hS.at_ hx hkN
    rw [hwD] at hu ⊢
    have HN := Lib.hid hkN
    have HWN := Lib.hid (take_fold (by rw [waysN_len]; exact hkN) hwN (look1 x) (L, false))
    have HWS := Lib.hid hws
    have HWD := Lib.hid hwD
    have hwsl : ws.length ≤ 17592186043905 := by
      have h1 := ways_wlen F x _ (List.getElem_mem hkN)
      have h2 := ii_len HI.out hx
      have h3 : ((waysD F x).getD k wayZ).2 = ints ws := by rw [hwD]
      rw [List.getD_eq_getElem?_getD, List.getElem?_eq_getElem hkN] at h3
      simp only [Option.getD_some] at h3
      rw [h3, ints_len] at h1
      omega
    clear hj hu hwN hwD hkN hws
    gi_wp2
    (try refine ⟨trivial, ?_⟩)
    intro A5 hEA5 hj hit
    have HIT := Lib.hid (it_arg hit HWD.out)
    obtain ⟨⟨sc5, hsc5, h1⟩, h2, h3, h4, h5, h6⟩ := hj
    have HF5 := Lib.hid h6
    have h15 := h1.hH
    clear h6
    obtain ⟨pu, cu, hue, hu1, hu2, hu3⟩ := ri_form (Mine.ri (OW.mine HIT.out) (by rw [ints_len]; omega))
    rw [ints_len] at hue hu1 hu2 hu3
    subst hue
    have HU3 := Lib.hid hu3
    have hlk5 := h1.lk (fun e => by cases e)
    have hlv5 := h1.live (fun e => by cases e)
    have hcS : A5.cell? ⟨Y.bl, 14, none⟩ = some (.slice (some ⟨Y.bS, 0, none⟩) s s) := hlk5.cell rfl
    have hcL : A5.cell? ⟨Y.bl, 10, none⟩ = some (.slice (some ⟨Y.bL, 0, none⟩) F.ins.length F.ins.length) := hlk5.cell rfl
    have hcT : A5.cell? ⟨Y.bL, to, none⟩ = some (.slice (some ⟨Y.rho to, 0, none⟩) s s) := hlv5.cell (liveC_at Y hto hto)
    have hc2 := h2.cell
    have htz : (to : Int) < (F.ins.length : Int) := by omega
    have H15 := Lib.hid (h1.below (Below.refl A5.heap.size A5).drew)
    have HA5 := Lib.hid (show Boxed A5 A.heap.size 69 (.pointer (some ⟨Y.bl, 0, none⟩)) ∧ Boxed A5 (A.heap.size + 1) 3 (.int .i64 x) ∧ Below w0.heap.size w0 A5 from ⟨h2, h3, h5⟩)
    have hb3 := h4
    clear h1 h2 h3 h4 h5 hlk5 hlv5 hu3 hu1 hit
    have hLk : OkL (grOf F) (((waysN F x).take k).foldl (look1 x) (L, false)).1 :=
      (look_fold (G := grOf F) hx ((waysN F x).take k) L false HLL.out (fun w hw => hS.gr.to_lt x hx w (List.mem_of_mem_take hw)) (fun w hw => hS.gr.ws_lt x hx w (List.mem_of_mem_take hw))).1
    generalize hLe : ((waysN F x).take k).foldl (look1 x) (L, false) = Lm at H15 HWN hLk hb3
    obtain ⟨Lk, mk⟩ := Lm
    dsimp only at H15 HWN hLk hb3
    have HB3 := Lib.hid hb3
    clear hb3
    have hl1 : (Lk.getD to []).length = s := by rw [HSS.out]; exact (hLk.row to hto).len
    have hLl : x < Lk.length := by rw [hLk.len]; exact hx
    have HLK := Lib.hid hLk
    clear hLk hLe
    gi_wp2
    refine wpIn_region_still_tail (l := l) 11 (by kernel_rfl) (by kernel_rfl) (by kernel_rfl) ?_
    simp only [List.take_succ_cons, List.take_zero, List.drop_succ_cons, List.drop_zero]
    repeat still_step
    refine wpStill_nil ?_
    refine wpListIn_copyRow (l := l) rfl (.tmp 29) (.tmp 36) rfl Tryd.underlying52 sizeU64 rfl rfl (H15.out.scr (fun e => by cases e)) (H15.out.row to hto (fun e => by cases e)) (by rw [List.length_map]; exact hsc5) (by rw [List.length_map]; exact hl1) (ones_word _) ?_
    intro w6 hk6 hs6 hg6
    have HK6 := Lib.hid hk6
    have HS6 := Lib.hid hs6
    have h6 := H15.out.copyScr hto hk6 hg6
    obtain ⟨rt, hrt⟩ : ∃ rt, Lk.getD to [] = rt := ⟨_, rfl⟩
    rw [hrt] at h6 hl1
    have H6 := Lib.hid h6
    have HRT := Lib.hid hrt
    have HOKR := Lib.hid (show OkW s rt by rw [← hrt, HSS.out]; exact HLK.out.row to hto)
    clear hk6 hs6 hg6 h6 hrt
    gi_wp2
    have HKW6 := Lib.hid (((Kw.refl (fun b => b ≠ Y.bS) A5).trans (Kw.all (Below.refl A5.heap.size A5).drew)).trans HK6.out)
    have hcS6 : A5.cell? ⟨A.heap.size, 0, none⟩ = some (.pointer (some ⟨Y.bl, 0, none⟩)) := hc2
    have hld : (ints ws).length = ws.length := ints_len ws
    have HLD := Lib.hid hld
    clear hcS hcL hcT hld
    have hr16 : F.regs.toNat ≤ 65536 := by have := hS.r1; omega
    have hn64 : F.regs.toNat ≤ 64 * s := by rw [HSS.out]; exact (grOf F).regs_s
    have hs10 : s ≤ 1024 := by rw [HSS.out]; show (F.regs.toNat + 63) / 64 ≤ 1024; omega
    have hTS := HT.out.l4
    have hTl := HT.out.l0
    have hul : ∀ g, (Value.slice pu ws.length cu).ownBlock = some g → WL.heap.size + 2 ≤ g ∧ g < A5.heap.size := fun g hg => OW.lt HIT.out hg
    gi_loopw [40] (fun s40 B => ∃ j : Nat, s40 = .int .i64 j ∧ j ≤ ws.length ∧ Lp1 r F (.slice p F.ins.length c) (.slice p2 F.regions.length c2) Y s w0 A.heap.size tg FV FF wv Lk (wt.set x false) work A5 rt ws j B) (fun s40 _ => ws.length - (intOf s40).toNat)
    case atStart => exact ⟨0, rfl, Nat.zero_le _, H6.out, HKW6.out⟩
    case round =>
      obtain ⟨j, rfl, hj, hl⟩ := hrel
      obtain ⟨h7, hk7⟩ := hl
      by_cases hlt : j < ws.length
      · obtain ⟨gu, ou, rfl, hcu⟩ := HU3.out (by omega)
        obtain ⟨q, hq⟩ : ∃ q, ws.getD j 0 = q := ⟨_, rfl⟩
        have hqr : q < F.regs.toNat := HWS.out q (by rw [← hq, List.getD_eq_getElem?_getD, List.getElem?_eq_getElem hlt]; exact List.getElem_mem hlt)
        have hgu := hul gu rfl
        have hcq := (World.cell?_of_block (a := ⟨gu, ou + j, none⟩) (hk7.block gu (by omega) hgu.2)).trans (hcu j hlt)
        rw [ints_getD, hq] at hcq
        have hjz : (j : Int) < (ws.length : Int) := by omega
        have hlk7 := h7.lk (fun e => by cases e)
        have hsc7 := h7.scr (fun e => by cases e)
        have hc14 : wr.cell? ⟨Y.bl, 14, none⟩ = some (.slice (some ⟨Y.bS, 0, none⟩) s s) := hlk7.cell rfl
        have hcb : wr.cell? ⟨A.heap.size, 0, none⟩ = some (.pointer (some ⟨Y.bl, 0, none⟩)) := (World.cell?_of_block (a := ⟨A.heap.size, 0, none⟩) (hk7.block A.heap.size (by omega) (by omega))).trans hcS6
        have hlen7 : ((ws.take j).foldl clrW rt).length = s := by rw [clr_len]; exact hl1
        obtain ⟨qd, hqd⟩ : ∃ qd, q / 64 = qd := ⟨_, rfl⟩
        obtain ⟨qm, hqm⟩ : ∃ qm, q % 64 = qm := ⟨_, rfl⟩
        have hqs : qd < s := by omega
        have hm64 : qm < 64 := by omega
        have hcw := hsc7.word (i := qd) (by omega)
        have hfw := hsc7.frozen qd
        obtain ⟨dw, hdw⟩ : ∃ dw, ((ws.take j).foldl clrW rt).getD qd 0 = dw := ⟨_, rfl⟩
        rw [hdw] at hcw
        have eqz : (qd : Int) < (s : Int) := by omega
        have eq1 : IntKind.i64.wrap ((q : Int) / 64) = (qd : Int) := by rw [IntWalk.i64_in _ (by omega)]; omega
        have eq2 : (q : Int).tmod 64 = (qm : Int) := by rw [Int.tmod_eq_emod_of_nonneg (by omega)]; omega
        have hd64 : dw < 18446744073709551616 := by rw [← hdw]; exact ((OkW.clrAll (ws.take j) HOKR.out).lt qd)
        have eq4 := clr_word' hd64 hm64
        obtain ⟨nw, hnw⟩ : ∃ nw, dw &&& (18446744073709551615 - 2 ^ qm) = nw := ⟨_, rfl⟩
        rw [hnw] at eq4
        have HST := Lib.hid (clr_step hlt hq hqd hqm hdw rfl hnw)
        have HQD := Lib.hid hqd
        have HQM := Lib.hid hqm
        have HDW := Lib.hid hdw
        have H7 := Lib.hid h7
        have HK7 := Lib.hid hk7
        clear h7 hk7 hlk7 hsc7 hdw hcu hlen7 hqd hqm hnw hd64 hq
        gi_wp2
        refine wpIn_region_still_tail (l := l) 13 (by kernel_rfl) (by kernel_rfl) (by kernel_rfl) ?_
        simp only [List.take_succ_cons, List.take_zero, List.drop_succ_cons, List.drop_zero]
        repeat still_step
        refine wpStill_nil ?_
        gi_wp2
        go_roundw
        case rel => exact ⟨j + 1, by go_num, by omega, by rw [HST.out]; exact (H7.out.setScr qd nw).below (Below.refl _ _).drew, (HK7.out.setCell _ _ (fun h => h rfl)).trans (Kw.all (Below.refl _ _).drew)⟩
        case measure => simp [intOf]; omega
      · have hje : j = ws.length := by omega
        have hjz : ¬ (j : Int) < (ws.length : Int) := by omega
        rw [hje, List.take_length] at h7
        have hlk7 := h7.lk (fun e => by cases e)
        have hc14 : wr.cell? ⟨Y.bl, 14, none⟩ = some (.slice (some ⟨Y.bS, 0, none⟩) s s) := hlk7.cell rfl
        have hcb : wr.cell? ⟨A.heap.size, 0, none⟩ = some (.pointer (some ⟨Y.bl, 0, none⟩)) := (World.cell?_of_block (a := ⟨A.heap.size, 0, none⟩) (hk7.block A.heap.size (by omega) (by omega))).trans hcS6
        have hslen : (ws.foldl clrW rt).length = s := by rw [clr_len]; exact hl1
        have hokc : OkW s (ws.foldl clrW rt) := OkW.clrAll ws HOKR.out
        have HWN2 : (look1 x (Lk, mk) (to, ws)) = (Lk.set x (orW (Lk.getD x []) (ws.foldl clrW rt)), mk || decide (orW (Lk.getD x []) (ws.foldl clrW rt) ≠ Lk.getD x [])) := by
          show (Lk.set x (orW (Lk.getD x []) (ws.foldl clrW (Lk.getD to []))), mk || decide (orW (Lk.getD x []) (ws.foldl clrW (Lk.getD to [])) ≠ Lk.getD x [])) = _
          rw [HRT.out]
        have HWN3 := Lib.hid HWN2
        generalize ws.foldl clrW rt = sc2 at h7 hslen hokc HWN3
        have H7 := Lib.hid h7
        have HK7 := Lib.hid hk7
        have HCL := Lib.hid hcb
        have hLx : OkW s (Lk.getD x []) := by rw [HSS.out]; exact HLK.out.row x hx
        obtain ⟨rx, hrx⟩ : ∃ rx, Lk.getD x [] = rx := ⟨_, rfl⟩
        have HRX := Lib.hid hrx
        rw [hrx] at hLx HWN3
        have hlx := hLx.len
        have HOX := Lib.hid hLx
        have HOC := Lib.hid hokc
        clear h7 hk7 hlk7 hje HWN2 hLx hrx hokc
        gi_wp2
        have hrho := HT.out.row x hx
        have hbS := HT.out.b4
        have hrS : Y.rho x ≠ Y.bS := fun e => by have := hrho.1; rw [e, hbS] at this; omega
        have hrl := hrho.2.2
        have hrl0 := hrho.2.1
        gi_loopw [63] (fun s63 B => ∃ j : Nat, s63 = .int .i64 j ∧ j ≤ s ∧ Lp2 r F (.slice p F.ins.length c) (.slice p2 F.regions.length c2) Y s w0 A.heap.size A1.heap.size tg FV FF wv Lk (wt.set x false) work A5 x mk sc2 j B) (fun s63 _ => s - (intOf s63).toNat)
        case atStart =>
          refine ⟨0, rfl, Nat.zero_le _, ?_, ?_, ?_⟩
          · rw [orK_zero, set_getD_self]; exact H7.out
          · rw [orK_zero]
            have h := Boxed.kw HB3.out HK7.out (by omega)
            simpa using h
          · exact HK7.out.mono fun b hb _ => hb.1
        case round =>
          obtain ⟨j, rfl, hj, hl⟩ := hrel
          obtain ⟨h8, hb8, hk8⟩ := hl
          rw [HRX.out] at h8 hb8
          have hlk8 := h8.lk (fun e => by cases e)
          have hc14 : wr.cell? ⟨Y.bl, 14, none⟩ = some (.slice (some ⟨Y.bS, 0, none⟩) s s) := hlk8.cell rfl
          by_cases hlt : j < s
          · have hc10 : wr.cell? ⟨Y.bl, 10, none⟩ = some (.slice (some ⟨Y.bL, 0, none⟩) F.ins.length F.ins.length) := hlk8.cell rfl
            have hcLx : wr.cell? ⟨Y.bL, x, none⟩ = some (.slice (some ⟨Y.rho x, 0, none⟩) s s) := (h8.live (fun e => by cases e)).cell (liveC_at Y hx hx)
            have hrow := h8.row x hx (fun e => by cases e)
            rw [getD_setL _ _ _ _ _ hLl, if_pos rfl] at hrow
            have hxl := HOX.out.len
            have hcl := HOC.out.len
            have hcSj := (h8.scr (fun e => by cases e)).word (i := j) (by omega)
            have hcRj := hrow.word (i := j) (by rw [orK_len]; omega)
            rw [orK_at _ _ (by omega)] at hcRj
            have hfR := hrow.frozen j
            have hcb1 : wr.cell? ⟨A.heap.size, 0, none⟩ = some (.pointer (some ⟨Y.bl, 0, none⟩)) := (Boxed.kw HA5.out.1 hk8 ⟨by omega, by omega, by omega⟩).cell
            have hcb2 : wr.cell? ⟨A.heap.size + 1, 0, none⟩ = some (.int .i64 x) := (Boxed.kw HA5.out.2.1 hk8 ⟨by omega, by omega, by omega⟩).cell
            have hcb3 := hb8.cell
            have hfb3 := hb8.frozen
            have hda := HOX.out.lt j
            have hdc := HOC.out.lt j
            have hsame := orK_same rx sc2 (k := j) (by omega)
            have hsucc := orK_succ rx sc2 (k := j) (by omega)
            have hdiff := orK_diff rx sc2 (k := j) (by omega)
            have hz := andnot_zero hda hdc
            have eq5 := u64_andNot_nat _ _ hdc hda
            have eq6 := u64_or_nat _ _ hda hdc
            obtain ⟨da, hdae⟩ : ∃ da, rx.getD j 0 = da := ⟨_, rfl⟩
            obtain ⟨dc, hdce⟩ : ∃ dc, sc2.getD j 0 = dc := ⟨_, rfl⟩
            rw [hdae] at hcRj hsame hsucc hdiff hz eq5 eq6
            rw [hdce] at hcSj hsame hsucc hdiff hz eq5 eq6
            obtain ⟨cz, hcz⟩ : ∃ cz, dc &&& (18446744073709551615 - da) = cz := ⟨_, rfl⟩
            obtain ⟨nv, hnv⟩ : ∃ nv, da ||| dc = nv := ⟨_, rfl⟩
            rw [hcz] at hz eq5
            rw [hnv] at hz eq6 hsame hsucc hdiff
            have hjz : (j : Int) < (s : Int) := by omega
            have H8 := Lib.hid h8
            have HB8 := Lib.hid hb8
            have HK8 := Lib.hid hk8
            have HSA := Lib.hid hsame
            have HSU := Lib.hid hsucc
            have HDI := Lib.hid hdiff
            have HZ := Lib.hid hz
            clear hxl hcl h8 hb8 hk8 hlk8 hrow hsame hsucc hdiff hz hdae hdce hcz hnv hda hdc
            by_cases h0 : cz = 0
            · have hzb : ((cz : Int) != 0) = false := by simp [h0]
              have HOS := Lib.hid (HSA.out (HZ.out.1 h0))
              clear h0
              gi_wp2
              refine wpIn_region_still_tail (l := l) 18 (by kernel_rfl) (by kernel_rfl) (by kernel_rfl) ?_
              simp only [List.take_succ_cons, List.take_zero, List.drop_succ_cons, List.drop_zero]
              repeat still_step
              refine wpStill_nil ?_
              gi_wp2
              go_roundw
              case rel => exact ⟨j + 1, by go_num, by omega, by rw [HRX.out, HOS.out]; exact H8.out.below (Below.refl _ _).drew, by rw [HRX.out, HOS.out]; exact HB8.out, HK8.out.trans (Kw.all (Below.refl _ _).drew)⟩
              case measure => simp [intOf]; omega
            · have hzb : ((cz : Int) != 0) = true := by simp [h0]
              have HNE := Lib.hid (HDI.out (fun e => h0 (HZ.out.2 e)))
              have h9 := (H8.out.setRow hx (by rw [List.length_set]; exact hLl) j nv)
              rw [getD_setL _ _ _ _ _ hLl, if_pos rfl, List.set_set, ← HSU.out] at h9
              have H9 := Lib.hid h9
              clear h0 h9
              gi_wp2
              refine wpIn_region_still_tail (l := l) 18 (by kernel_rfl) (by kernel_rfl) (by kernel_rfl) ?_
              simp only [List.take_succ_cons, List.take_zero, List.drop_succ_cons, List.drop_zero]
              repeat still_step
              refine wpStill_nil ?_
              gi_wp2
              refine wpIn_region_still_tail (l := l) 19 (by kernel_rfl) (by kernel_rfl) (by kernel_rfl) ?_
              simp only [List.take_succ_cons, List.take_zero, List.drop_succ_cons, List.drop_zero]
              repeat still_step
              refine wpStill_nil ?_
              gi_wp2
              go_roundw
              case rel =>
                refine ⟨j + 1, by go_num, by omega, ?_, ?_, ?_⟩
                · rw [HRX.out]
                  exact (H9.out.keep (by simp) (fun g _ hg => Below.heap_setCell _ _ _ g (by dsimp only; omega))).below ((Below.refl _ _).drew.drew)
                · rw [HRX.out]
                  have h : Boxed (wr.setCell ⟨Y.rho x, j, none⟩ (.int .u64 nv)) A1.heap.size 4 (.bool (mk || decide (orK rx sc2 j ≠ rx))) := (Below.heap_setCell _ _ _ A1.heap.size (by dsimp only; omega)).trans HB8.out
                  have h2 := h.set (.bool true)
                  rw [show (mk || decide (orK rx sc2 (j + 1) ≠ rx)) = true by simp [HNE.out]]
                  exact h2
                · exact ((HK8.out.setCell _ _ (fun h => h.2.1 rfl)).setCell _ _ (fun h => h.2.2 rfl)).trans (Kw.all ((Below.refl _ _).drew.drew))
              case measure => simp [intOf]; omega
          · have hje : j = s := by omega
            have hjz : ¬ (j : Int) < (s : Int) := by omega
            have hxl := HOX.out.len
            rw [orK_all _ _ (show rx.length ≤ j by omega)] at h8 hb8
            have H8 := Lib.hid h8
            have HB8 := Lib.hid hb8
            have HK8 := Lib.hid hk8
            clear h8 hb8 hk8 hlk8 hje hxl
            gi_wp2
            refine ⟨⟨⟨sc2, hslen, ?_⟩, Boxed.kw HA5.out.1 HK8.out ⟨by omega, by omega, by omega⟩, Boxed.kw HA5.out.2.1 HK8.out ⟨by omega, by omega, by omega⟩, ?_, ?_, ?_⟩, HK8.out.mono fun b hb hlt => ?_⟩
            · rw [HWN.out, HWN3.out]; exact H8.out
            · rw [HWN.out, HWN3.out]; exact HB8.out
            · exact HA5.out.2.2.trans (HK8.out.below HA5.out.2.2.size fun b hb => ⟨by omega, by omega, by omega⟩)
            · intro g hg ht
              exact (HK8.out.block g ⟨fun e => by rw [e, hbS] at ht; omega, fun e => by rw [e, hrho.1] at ht; omega, by omega⟩ (by omega)).trans (HF5.out g hg ht)
            · rcases hb with h | h | h | h
              · exact ⟨by omega, by omega, by omega⟩
              · exact ⟨by omega, by omega, by omega⟩
              · rcases h with h | h | h <;> exact ⟨by omega, by omega, by omega⟩
              · exact ⟨by omega, by omega, by omega⟩
  case hdone =>
    intro E W hE hj hD
    obtain ⟨⟨sc4, hs4, h1⟩, h2, h3, h4, h5, h6⟩ := hj
    rw [show (waysN F x).take (waysD F x).length = waysN F x from by rw [← waysN_len, List.take_length]] at h1 h4
    have HLD := Lib.hid (show lookD (grOf F) FF L wt work x = (let r := (waysN F x).foldl (look1 x) (L, false); if r.2 then (r.1, (FF x).foldl wait1 (wt.set x false, work)) else (r.1, wt.set x false, work)) from rfl)
    generalize (waysN F x).foldl (look1 x) (L, false) = Lf at h1 h4 HLD
    obtain ⟨Lf, mf⟩ := Lf
    dsimp only at h1 h4 HLD
    have hc4 := h4.cell
    have H1 := Lib.hid h1
    have H2 := Lib.hid h2
    have H3 := Lib.hid h3
    have H5 := Lib.hid h5
    have H6 := Lib.hid h6
    have HD := Lib.hid hD
    have hHW := h1.hH
    have hwl1 : WL.heap.size < W.heap.size := (Array.getElem?_eq_some_iff.1 hD).1
    clear h1 h2 h3 h4 h5 h6 hD
    cases mf with
    | false =>
      go_wp2
      refine leaves_marks (S := WL.heap.size) _ _ ⟨[WL.heap.size], rfl, by simp, fun D hm => by simp at hm; subst hm; exact ⟨Nat.le_refl _, HD.out⟩⟩ ?_
      intro W' hk
      refine ⟨_, results_none rfl _ _ _, ⟨_, rfl⟩, ⟨sc4, tg, wv, hs4, ?_, fun g hg h1 => ?_⟩, ?_⟩
      · rw [HLD.out]
        exact (H1.out.kw hk (fun g _ hg => .inl (by omega))).up (Nat.le_trans hHW hk.size) (Nat.le_refl _)
      · rw [HTG1.out g hg]
        exact ⟨h1, (hk.block g (.inl (by omega)) (by omega)).trans (H6.out g hg (by rw [HTG1.out g hg]; exact h1))⟩
      · exact below_from HB0.out (H5.out.trans (hk.below H5.out.size fun b hb => .inl (by omega))) (by have := hk.size; omega)
    | true =>
      have HLD := Lib.hid HLD.out
      simp only [if_true] at HLD
      go_wp2
      have hcW2 := H2.out.cell
      have hcW3 := H3.out.cell
      have hlkW := H1.out.lk (fun e => by cases e)
      have hcF : W.cell? ⟨Y.bl, 11, none⟩ = some (.slice (some ⟨Y.bF, 0, none⟩) F.ins.length F.ins.length) := hlkW.cell rfl
      have hcFx : W.cell? ⟨Y.bF, x, none⟩ = some (FV x) := (H1.out.from_ (fun e => by cases e)).cell (by rw [List.getElem?_map, List.getElem?_range hx]; rfl)
      obtain ⟨pf, cf, hfe, hf1, hf2, hf3⟩ := ri_form (Mine.ri (OW.mine (H1.out.frow x hx (fun e => by cases e))) (by rw [ints_len]; omega))
      rw [ints_len] at hfe hf1 hf2 hf3
      rw [hfe] at hcFx
      have HFE := Lib.hid hfe
      have HF3 := Lib.hid hf3
      clear hlkW hfe hf3
      go_region
      go_wp2_with fail
      have hll : work.length + (FF x).length < 8796093022208 := hwl
      have hlen0 : (wt.set x false).length = F.ins.length := by rw [List.length_set]; exact HLN.out
      have HL0 := Lib.hid hlen0
      have HWF := Lib.hid (fun (j : Nat) => wait_fold (n := F.ins.length) ((FF x).take j) (wt.set x false) work HL0.out (fun q hq => HFL.out q (List.mem_of_mem_take hq)))
      clear hlen0 hc4 hcF hcFx hcW2 hcW3
      go_loopw [114] (fun s114 B => ∃ j : Nat, s114 = .int .i64 j ∧ j ≤ (FF x).length ∧ ∃ tg' wv', Lp3 r F (.slice p F.ins.length c) (.slice p2 F.regions.length c2) Y s w0 W tg FV FF Lf sc4 (wt.set x false) work ((FF x).take j) tg' wv' B) (fun s114 _ => (FF x).length - (intOf s114).toNat)
      case atStart =>
        exact ⟨0, rfl, Nat.zero_le _, tg, wv, (H1.out.up hHW (Nat.le_refl _)).below (Below.refl _ _).drew |>.up (by simp) (Nat.le_refl _), fun g hg h => ⟨h, rfl⟩, H5.out.trans (Below.refl _ _).drew, by simp⟩
      case round =>
        obtain ⟨j, rfl, hj, tg', wv', hl⟩ := hrel
        obtain ⟨h7, hfr7, hlo7, hsz7⟩ := hl
        have hb2 := (hfr7 A.heap.size (by omega) (HTG2.out _ (Nat.le_refl _))).2
        have hcb : wr.cell? ⟨A.heap.size, 0, none⟩ = some (.pointer (some ⟨Y.bl, 0, none⟩)) := (World.cell?_of_block (a := ⟨A.heap.size, 0, none⟩) hb2).trans H2.out.cell
        by_cases hlt : j < (FF x).length
        · have hri := Mine.ri (OW.mine (h7.frow x hx (fun e => by cases e))) (by rw [ints_len]; omega)
          rw [HFE.out] at hri
          obtain ⟨gf, of, rfl, hcj⟩ := ri_at hri (i := j) (by rw [ints_len]; exact hlt)
          rw [ints_getD] at hcj
          obtain ⟨y, hy⟩ : ∃ y, (FF x).getD j 0 = y := ⟨_, rfl⟩
          have hyn : y < F.ins.length := HFL.out y (by rw [← hy]; exact getD_mem hlt)
          have HTK := Lib.hid (take_fold hlt hy wait1 (wt.set x false, work))
          rw [hy] at hcj
          have hjz : (j : Int) < ((FF x).length : Int) := by omega
          obtain ⟨f1, _, _, ext, f4, f5, _⟩ := HWF.out j
          have hwj : (((FF x).take j).foldl wait1 (wt.set x false, work)).2.length < 8796093022208 := by rw [f4, List.length_append]; have := List.length_take_le j (FF x); omega
          have HWA := Lib.hid (wait_any h7 f1 hyn hnn hwj)
          have HFR := Lib.hid hfr7
          have HLO := Lib.hid hlo7
          clear f1 f4 f5 hwj h7 hfr7 hlo7 hri hy hb2
          go_wp2_with (first | (go_at_call 50; (with_reducible refine HWA.out.mono ?_); rintro e w9 ⟨⟨v9, rfl⟩, hq9, hb9⟩; have HQ9 := Lib.hid hq9; have HB9 := Lib.hid hb9; clear hq9 hb9) | fail)
          go_roundw
          case rel =>
            obtain ⟨tg9, wv9, h9, hf9⟩ := HQ9.out
            exact ⟨j + 1, by go_num, by omega, tg9, wv9, by rw [HTK.out]; exact h9, HFR.out.trans hf9 hsz7, HLO.out.trans HB9.out, Nat.le_trans hsz7 HB9.out.size⟩
          case measure => simp [intOf]; omega
        · have hje : j = (FF x).length := by omega
          have hjz : ¬ (j : Int) < ((FF x).length : Int) := by omega
          rw [hje, List.take_length] at h7
          have H7 := Lib.hid h7
          have HFR := Lib.hid hfr7
          have HLO := Lib.hid hlo7
          clear h7 hfr7 hlo7 hje hb2
          go_wp2
          have hmd := HFR.out WL.heap.size hwl1 (HTG2.out _ (by omega))
          refine leaves_marks (S := WL.heap.size) _ _ ⟨[WL.heap.size], rfl, by simp, fun D hm => by simp at hm; subst hm; exact ⟨Nat.le_refl _, hmd.2.trans HD.out⟩⟩ ?_
          intro W' hk
          refine ⟨_, results_none rfl _ _ _, ⟨_, rfl⟩, ⟨sc4, tg', wv', hs4, ?_, fun g hg h1 => ?_⟩, ?_⟩
          · rw [HLD.out]
            exact (H7.out.leave hk.size (fun g hg hn => hk.block g (.inr hn) hg)).up hk.size (Nat.le_refl _)
          · have ht : tg g = 1 := by rw [HTG1.out g hg]; exact h1
            have hf := HFR.out g (by omega) ht
            exact ⟨hf.1, ((hk.block g (.inl (by omega)) (by omega)).trans hf.2).trans (H6.out g hg ht)⟩
          · exact below_from HB0.out (HLO.out.trans (hk.below HLO.out.size fun b hb => .inl (by omega))) (by have := hk.size; omega)
end Go.Proofs.YtnniohimbmnapaaDoor
