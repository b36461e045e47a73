/- Layer 14: turn. Layer 14: copy within a row of words, in a round of a loop over an iterator. Layer 14: slideDown. -/
import Derived.Test.YtfhjpgbnojdlkaaPGSlE
import Derived.Test.YtfhjpgbnojdlkaaPGSlFw
import Derived.Test.YtfhjpgbnojdlkaaPGIt
import Derived.StillTailTactics
import Derived.Test.YtfhjpgbnojdlkaaPKs
import Derived.Laws.CopyOwn
import Derived.RangeFuncNested
import Derived.Shelf.Abstract
import Derived.Stop.RegionWithIn
import Derived.Test.YtfhjpgbnojdlkaaPGKh
namespace Go.Proofs.Ytfhjpgbnojdlkaa
section
open Go Go.ChangeShapes Go.WideShapes Go.ChangeAt Go.RowKit
set_option linter.unusedVariables false
set_option linter.unusedSimpArgs false
attribute [local go_sem] Oper.semAt_some
/-- The words in block g, the slice in box B. -/
structure M1 (w : World) (g c N : Nat) (xs : List Int) (wx : World) : Prop where
  wd : Wd wx g c xs
  len : xs.length = N
  b2 : wx.cell? ⟨w.heap.size, 0, none⟩ = some (.slice (some ⟨g, 0, none⟩) N c)
  but : But1 g w wx
  gl : g < w.heap.size
theorem M1.lt {w wx : World} {g c N : Nat} {xs : List Int} (h : M1 w g c N xs wx) : w.heap.size < wx.heap.size := World.block_lt_of_cell? wx _ h.b2
theorem M1.kw {w wx wy : World} {g c N : Nat} {xs : List Int} (h : M1 w g c N xs wx) {K : Nat → Prop} (hk : Kw K wx wy) (hK : ∀ b, b < w.heap.size + 1 → K b) : M1 w g c N xs wy := by
  have hl := h.lt
  have hg := h.gl
  exact ⟨h.wd.of (hk.block _ (hK _ (by omega)) h.wd.lt), h.len, (World.cell?_of_block (a := ⟨w.heap.size, 0, none⟩) (hk.block _ (hK _ (by dsimp only; omega)) (by dsimp only; omega))).trans h.b2,
    ⟨hk.os.trans h.but.os, hk.tape.trans h.but.tape, hk.output.trans h.but.output, Nat.le_trans h.but.size hk.size, fun b hb hn => (hk.block b (hK b (by omega)) (Nat.lt_of_lt_of_le hb h.but.size)).trans (h.but.block b hb hn)⟩, hg⟩
theorem M1.keep {w wx wy : World} {g c N : Nat} {xs : List Int} (h : M1 w g c N xs wx) (hb : Below wx.heap.size wx wy) : M1 w g c N xs wy :=
  h.kw (K := fun _ => True) (Kw.all hb) fun _ _ => trivial
theorem M1.set {w wx : World} {g c N : Nat} {xs : List Int} (h : M1 w g c N xs wx) (i : Nat) (x : Int) (hi : i < N) : M1 w g c N (xs.set i x) (wx.setCell ⟨g, i, none⟩ (.int .u64 x)) := by
  have hg := h.gl
  exact ⟨h.wd.set i x (by rw [h.len]; exact hi), by rw [List.length_set]; exact h.len, (But1.set g wx i _).cell h.b2 (by omega), h.but.trans (But1.set g wx i _), hg⟩
theorem TN.tagged {ws : List Int} {tn : Nat} {l : List Nat} {M : Nat → Bool} {k q : Nat} {xs : List Int} (h : TN ws l M k q xs) (ho : Ob ws tn l) (hk : k < l.length) (hq : q ≤ (adrP ws (l.getD k 0) (tgN ws (l.getD k 0))).length) {i : Nat} (h1 : loA ws (l.getD k 0) (tgN ws (l.getD k 0)) q ≤ i) (h2 : i < l.getD k 0 + 2 + tgN ws (l.getD k 0)) : xs.getD i 0 = ws.getD i 0 := by
  have hal := mem_getD hk
  have hi1 := ho.in1 _ hal
  have hge := loA_ge ws (l.getD k 0) (tgN ws (l.getD k 0)) q
  refine h.rest i (fun b hb => ?_) (fun j hj _ hm => ?_) (fun p hp hpl e => ?_)
  · have h3 := ho.apart _ hal b (h.sub b hb)
    have h4 := ho.in1 b (h.sub b hb)
    rcases h3 with e | e | e
    · rw [← e]; omega
    · omega
    · omega
  · have h3 := rising_lt ho.rising hj hk
    have h4 := ho.apart _ (mem_getD (l := l) (i := j) (by omega)) _ hal
    have h5 := ho.in1 _ (mem_getD (l := l) (i := j) (by omega))
    have h6 := adrP_in hm
    omega
  · unfold loA at h1
    rw [if_neg (by omega)] at h1
    rcases Nat.lt_or_ge p (q - 1) with h' | h'
    · have := rising_lt (adrP_rising ws (l.getD k 0) (tgN ws (l.getD k 0))) h' (by omega)
      omega
    · obtain rfl : p = q - 1 := by omega
      omega
theorem tn_shl {D : Nat} (h : D ≤ 1048576) : IntKind.u64.wrap ((D : Int) * 4) = 4 * (D : Int) := by rw [u64w]; omega
theorem tn_i1 {b N : Nat} (h : b + 1 < N) (h2 : N ≤ 1048576) : IntKind.i64.wrap ((b : Int) + 1) = ((b + 1 : Nat) : Int) := by rw [IntWalk.i64_in _ (by omega)]; push_cast; rfl
theorem tn_m {b N : Nat} (h : b + 1 < N) : ((b + 1 : Nat) : Int) < (N : Int) := by omega
/-- What the rounds of turn hold. -/
structure TJ (ws : List Int) (l : List Nat) (M : Nat → Bool) (w : World) (g c : Nat) (WL : World) (E k : Nat) (A : World) : Prop where
  ex : ∃ xs, TN ws l M k 0 xs ∧ M1 w g c ws.length xs A
  sz : WL.heap.size ≤ A.heap.size
/-- What the rounds of one object's addresses hold. -/
structure TI (ws : List Int) (l : List Nat) (M : Nat → Bool) (w : World) (g c k : Nat) (A6 : World) (E q : Nat) (A : World) : Prop where
  ex : ∃ xs, TN ws l M k q xs ∧ M1 w g c ws.length xs A
  le : q ≤ (adrP ws (l.getD k 0) (tgN ws (l.getD k 0))).length
  kw : Kw (fun b => b < A6.heap.size ∧ b ≠ g) A6 A
theorem kw_set {A B : World} {g n i : Nat} {v : Value} (h : Kw (fun b => b < n ∧ b ≠ g) A B) : Kw (fun b => b < n ∧ b ≠ g) A (B.setCell ⟨g, i, none⟩ v) := h.setCell _ _ (fun e => e.2 rfl)
set_option maxRecDepth 100000 in
set_option maxHeartbeats 4000000 in
theorem turn_any {ws : List Int} {tn : Nat} {l : List Nat} {M : Nat → Bool} (ho : Ob ws tn l) (hcl : ∀ a, M a = true → ∀ i ∈ adrP ws a (tgN ws a), M (ws.getD i 0 / 4).toNat = true) {xs : List Int} (hm : FW ws l M l.length xs) {w : World} {g c : Nat} (hw : Wd w g c xs) :
    Calls Try.prog 51 #[.slice (some ⟨g, 0, none⟩) ws.length c, .int .i64 tn] w fun e w' => e = .returned (.tuple #[]) ∧ (∃ ys, Wd w' g c ys ∧ TN ws l M l.length 0 ys) ∧ But1 g w w' := by
  have HO := Lib.hid ho
  have HCL := Lib.hid hcl
  have HF := Lib.hid (TN.start hm ho)
  have HW := Lib.hid hw
  have hgl := hw.lt
  have hlen := hm.mk0.len
  clear ho hm hw hcl
  refine calls_of_marks Try.func51 rfl ?_
  simp only [Try.ntmps51, List.size_toArray, List.length_cons, List.length_nil, Nat.reduceAdd, Nat.reduceSub, Array.replicate_succ, Array.replicate_zero, List.push_toArray, List.append_toArray, List.nil_append, List.cons_append]
  go_wp2_with (go_at_call 45; (with_reducible refine (objects_any _ _ _ _ _).mono ?_); rintro e w9 ⟨rfl, rfl⟩)
  obtain ⟨w2, hw2⟩ : ∃ w2, w.alloc (Obj.cells #[Value.slice (some ⟨g, 0, none⟩) ws.length c] 22) = w2 := ⟨_, rfl⟩
  have HM2 := Lib.hid (show M1 w g c ws.length xs w2 by
    rw [← hw2]
    exact ⟨HW.out.keep ((Below.refl _ _).alloc (Nat.le_refl _) _), hlen, by simp, But1.of ((Below.refl _ _).alloc (Nat.le_refl _) _), hgl⟩)
  have hs2 : w2.heap.size = w.heap.size + 1 := by rw [← hw2]; simp
  rw [hw2]
  clear hw2
  obtain ⟨WL, hWL⟩ : ∃ WL, (w2.alloc (Obj.cells #[Value.slice (some ⟨g, 0, none⟩) ws.length c] 22)).alloc (Obj.cells #[Value.int .i64 (tn : Int)] 3) = WL := ⟨_, rfl⟩
  rw [hWL]
  have hbl : Below w2.heap.size w2 WL := by rw [← hWL]; exact ((Below.refl _ _).alloc (Nat.le_refl _) _).alloc (by simp) _
  have hszL : WL.heap.size = w.heap.size + 3 := by rw [← hWL]; simp [hs2]
  have yb : WL.cell? ⟨w.heap.size + 1, 0, none⟩ = some (.slice (some ⟨g, 0, none⟩) ws.length c) := by rw [← hWL, ← hs2]; exact alloc_cell (by simp) _
  have ya : WL.cell? ⟨w.heap.size + 2, 0, none⟩ = some (.int .i64 tn) := by
    rw [← hWL]
    have := cell_newK (w := w2.alloc (Obj.cells #[Value.slice (some ⟨g, 0, none⟩) ws.length c] 22)) (cs := #[.int .i64 (tn : Int)]) (T := 3) (k := 0) rfl
    rwa [World.size_alloc, hs2] at this
  have HML := Lib.hid (HM2.out.keep hbl)
  clear hWL HM2 hbl
  refine wp_rangeJ2 (K := fun b => b < WL.heap.size ∧ b ≠ g) (It := ItO l) (R := RO l (szN ws) (.slice (some ⟨g, 0, none⟩) ws.length c)) (N := l.length) (by rfl) (fun _ _ => enter_objs _ _) ?hseq ?hKs ?hps
    (TJ ws l M w g c WL) ?hR ?hJ ?hIt ?h0 ?hround ?hdone
  case hseq =>
    intro W hk hs
    refine objs_gives HO.out.objs _ _ _ W (w.heap.size + 2) (w.heap.size + 1) _ ?_ ?_ ⟨by omega, by omega⟩ ⟨by omega, by omega⟩
    · exact (World.cell?_of_block (a := ⟨w.heap.size + 2, 0, none⟩) (hk.block _ trivial (by dsimp only; omega))).trans ya
    · exact (World.cell?_of_block (a := ⟨w.heap.size + 1, 0, none⟩) (hk.block _ trivial (by dsimp only; omega))).trans yb
  case hKs => intro b hb; exact hb.1
  case hps => rintro k A args rfl; rfl
  case hR =>
    intro E k A hE hj hk
    obtain ⟨ys, hfw, hmb⟩ := hj.ex
    have h1 := hfw.head HO.out hk (mem_getD hk)
    have h2 := HO.out.in1 _ (mem_getD hk)
    have h3 := HO.out.le
    have hr := hmb.wd.rd
    rw [hmb.len] at hr
    exact ⟨ys, hr, by rw [hmb.len]; omega, h1.2.2.2.2.1, h1.2.2.1, h1.2.2.2.1⟩
  case hJ =>
    intro E k A A' hE hj hk
    obtain ⟨ys, hfw, hmb⟩ := hj.ex
    exact ⟨⟨ys, hfw, hmb.kw hk fun b hb => ⟨by omega, by omega⟩⟩, Nat.le_trans hj.sz hk.size⟩
  case hIt => rintro k A A' args rfl hk; rfl
  case h0 => exact fun E => ⟨⟨xs, HF.out, HML.out⟩, Nat.le_refl _⟩
  case hround =>
    rintro q0 E k args A hq0 hE hEA hkn hj rfl
    clear hj
    have hal := mem_getD hkn
    obtain ⟨a, hak⟩ : ∃ a, l.getD k 0 = a := ⟨_, rfl⟩
    have HAK := Lib.hid hak
    rw [hak] at hal
    rw [hak]
    clear hak
    gi_wp2
    (try refine ⟨trivial, ?_⟩)
    intro A5 hEA5 hrec hj hit
    obtain ⟨r0, hr0⟩ := hrec
    obtain ⟨ys, hfw, hmb⟩ := hj.ex
    have HFW := Lib.hid hfw
    have HMB := Lib.hid hmb
    have hsz5 := hj.sz
    have y2 := hmb.b2
    have HH := Lib.hid (hfw.head HO.out hkn hal)
    have hi1 := HO.out.in1 a hal
    have hle := HO.out.le
    have hmost := HO.out.most
    have c0 := hmb.wd.cell (i := a) (by rw [hmb.len]; omega)
    have haz : (a : Int) < (ws.length : Int) := by omega
    obtain ⟨x, hx⟩ : ∃ x, ys.getD a 0 = x := ⟨_, rfl⟩
    have HX := Lib.hid hx
    rw [hx] at HH c0
    clear hj hfw hmb hit hx
    cases hM : M a
    · have e1 := and_mk_lo HH.out.2.2.1 (HH.out.2.1 hM)
      have HMM := Lib.hid hM
      clear hM
      gi_wp2
      exact ⟨⟨⟨ys, HFW.out.skip (by rw [HAK.out]; exact HMM.out), HMB.out⟩, hsz5⟩, Kw.refl _ _⟩
    · have e1 := and_mk_hi (HH.out.1 hM) HH.out.2.2.2.1
      have HMM := Lib.hid hM
      clear hM
      gi_wp2
      refine ⟨trivial, rfl, CallsIn.mono (CallsIn.inRound q0 (callsIn_wide.2 (addresses_any _ _ _ _ _))) ?_⟩
      rintro e w9 ⟨rfl, rfl⟩
      gi_wp2
      obtain ⟨A6, hA6⟩ : ∃ A6, (A5.alloc (Obj.cells #[Value.slice (some ⟨g, 0, none⟩) ws.length c] 22)).alloc (Obj.cells #[Value.int .i64 (a : Int)] 3) = A6 := ⟨_, rfl⟩
      rw [hA6]
      have hb6 : Below A5.heap.size A5 A6 := by rw [← hA6]; exact ((Below.refl _ _).alloc (Nat.le_refl _) _).alloc (by simp) _
      have hs6 : A6.heap.size = A5.heap.size + 2 := by rw [← hA6]; simp
      have yb6 : A6.cell? ⟨A5.heap.size, 0, none⟩ = some (.slice (some ⟨g, 0, none⟩) ws.length c) := by rw [← hA6]; exact alloc_cell (by simp) _
      have ya6 : A6.cell? ⟨A5.heap.size + 1, 0, none⟩ = some (.int .i64 a) := by
        rw [← hA6]
        have := cell_newK (w := A5.alloc (Obj.cells #[Value.slice (some ⟨g, 0, none⟩) ws.length c] 22)) (cs := #[.int .i64 (a : Int)]) (T := 3) (k := 0) rfl
        rwa [World.size_alloc] at this
      have HM6 := Lib.hid (HMB.out.keep hb6)
      have hr6 : A6.heap[q0]? = some (.loop r0) := (hb6.block q0 (Array.getElem?_eq_some_iff.1 hr0).1).trans hr0
      have HB6 := Lib.hid hb6
      clear hA6 hb6 hr0 y2 c0 e1
      refine wp_rangeJN hr6 (K := fun b => b < A6.heap.size ∧ b ≠ g) (It := ItA ws a (tgN ws a)) (R := RA ws a (tgN ws a) g c) (N := (adrP ws a (tgN ws a)).length) (by rfl) (fun _ _ => enter_adrs _ _) ?iseq ?iKs ?ips
        (TI ws l M w g c k A6) ?iR ?iJ ?iIt ?i0 ?iround ?idone
      case iseq =>
        intro W hk hs
        refine adrs_gives HO.out.fit a (tgN ws a) g c W (A5.heap.size + 1) A5.heap.size _ ?_ ?_ ⟨by omega, by omega⟩ ⟨by omega, by omega⟩ (by omega) ys (HM6.out.wd.of (hk.block _ trivial HM6.out.wd.lt)) HM6.out.len ?_ ?_
        · exact (World.cell?_of_block (a := ⟨A5.heap.size + 1, 0, none⟩) (hk.block _ trivial (by dsimp only; omega))).trans ya6
        · exact (World.cell?_of_block (a := ⟨A5.heap.size, 0, none⟩) (hk.block _ trivial (by dsimp only; omega))).trans yb6
        · rw [HX.out]; exact ⟨HH.out.2.2.1, HH.out.2.2.2.1⟩
        · rw [HX.out]; exact HH.out.2.2.2.2.2
      case iKs => intro b hb; exact hb.1
      case ips => rintro k A args rfl; rfl
      case iR =>
        intro E2 p A2 hE2 hj
        obtain ⟨zs, htn, hm1⟩ := hj.ex
        have hle2 := hj.le
        refine ⟨zs, hm1.wd, hm1.len, fun i h1 h2 => ?_⟩
        have := htn.tagged HO.out hkn hle2 (i := i)
        rw [HAK.out] at this
        exact this h1 h2
      case iJ =>
        intro E2 p A2 A3 hE2 hj hk
        obtain ⟨zs, htn, hm1⟩ := hj.ex
        exact ⟨⟨zs, htn, hm1.kw hk fun b hb => by omega⟩, hj.le, hj.kw.trans (hk.mono fun b hb _ => by have := hb.1; omega)⟩
      case iIt => rintro k A A' args rfl hk; rfl
      case i0 => exact fun E2 => ⟨⟨ys, HFW.out, HM6.out⟩, Nat.zero_le _, Kw.refl _ _⟩
      case iround =>
        rintro q1 E2 p args A2 hE2 hEA2 hpn hj rfl
        clear hj
        have HAD := Lib.hid (HO.out.adr hal (mem_getD hpn))
        have HMT := Lib.hid (HCL.out a HMM.out _ (mem_getD hpn))
        obtain ⟨pos, hpos⟩ : ∃ u, (adrP ws a (tgN ws a)).getD p 0 = u := ⟨_, rfl⟩
        rw [hpos] at HAD HMT
        rw [hpos]
        have HPO := Lib.hid hpos
        have hkb := kind_nat HAD.out.1
        obtain ⟨b, hb⟩ : ∃ b : Nat, ws.getD pos 0 / 4 = (b : Int) := ⟨(ws.getD pos 0 / 4).toNat, by omega⟩
        have hbt : (ws.getD pos 0 / 4).toNat = b := by rw [hb, Int.toNat_natCast]
        rw [hbt] at HMT
        have hbl : b ∈ l := by rw [← hbt]; exact HAD.out.2.1
        have HBT := Lib.hid hbt
        rw [hb]
        clear hpos hkb hbt hb
        gi_wp2
        (try refine ⟨trivial, ?_⟩)
        intro A7 hEA7 hj hit
        obtain ⟨zs, htn, hm1⟩ := hj.ex
        have HTN := Lib.hid htn
        have HMZ := Lib.hid hm1
        have HKZ := Lib.hid hj.kw
        have y2 := hm1.b2
        have hb1 := HO.out.in1 b hbl
        have hpz := HAD.out.2.2
        have cD := hm1.wd.cell (i := b + 1) (by rw [hm1.len]; omega)
        rw [htn.fwd b HMT.out] at cD
        have cP := hm1.wd.cell (i := pos) (by rw [hm1.len]; omega)
        have fP := hm1.wd.frozen pos
        obtain ⟨D, hD⟩ : ∃ D, dstA l M (szN ws) b = D := ⟨_, rfl⟩
        rw [hD] at cD
        have HDE := Lib.hid (show trn ws l M pos = 4 * (D : Int) by unfold trn; rw [HBT.out, hD])
        have HDL := Lib.hid (show D ≤ 1048576 by
          obtain ⟨kb, hkb, hkbe⟩ := getD_of_mem hbl
          rw [← hkbe, dst_at HO.out.rising hkb] at hD
          have h1 := frK_le (M := M) HO.out.objs kb (Nat.le_of_lt hkb)
          have h2 := HO.out.objs.le kb
          have h3 := HO.out.objs.top
          omega)
        generalize zs.getD pos 0 = xp at cP
        have hbz : (b : Int) + 1 < (ws.length : Int) := by omega
        have hpz2 : (pos : Int) < (ws.length : Int) := by omega
        clear hj htn hm1 hit hD hb1 hpz
        have hsh := tn_shl HDL.out
        have hi1b := tn_i1 (b := b) (N := ws.length) (by omega) hmost
        have hmz := tn_m (b := b) (N := ws.length) (by omega)
        clear hbz
        generalize b + 1 = m at hi1b cD hmz
        gi_wp2
        refine wpIn_region_still_tail (l := q1) 9 (by kernel_rfl) (by kernel_rfl) (by kernel_rfl) ?_
        simp only [List.take_succ_cons, List.take_zero, List.drop_succ_cons, List.drop_zero]
        repeat still_step
        refine wpStill_nil ?_
        gi_wp2
        have hput := HTN.out.put HO.out hkn (by rw [HAK.out]; exact HMM.out) (by rw [HAK.out]; exact hpn)
        rw [HAK.out, HPO.out, HDE.out] at hput
        have hks : Kw (fun b => b ≠ g) A7 (A7.setCell ⟨g, pos, none⟩ (.int .u64 (4 * (D : Int)))).drew := ((Kw.refl _ A7).setCell _ _ (fun h => h rfl)).trans (Kw.all ((Below.refl _ _).drew))
        refine ⟨⟨⟨_, hput, (HMZ.out.set pos _ (by omega)).keep ((Below.refl _ _).drew)⟩, by rw [HAK.out]; exact hpn, HKZ.out.trans (hks.mono fun b hb _ => hb.2)⟩, hks.mono fun b hb _ => ?_⟩
        have hgA := HM6.out.lt
        rcases hb with h | h | h
        · omega
        · exact h.2
        · omega
      case idone =>
        intro E2 W hE2 hj
        obtain ⟨zs, htn, hm1⟩ := hj.ex
        have HTN := Lib.hid (TN.next (k := k) (by rw [HAK.out]; exact htn) (by rw [HAK.out]; exact HMM.out))
        have HMZ := Lib.hid hm1
        have HKZ := Lib.hid hj.kw
        have hq6 := (Array.getElem?_eq_some_iff.1 hr6).1
        have hsW := HKZ.out.size
        clear htn hm1 hj
        gi_wp2
        refine ⟨⟨⟨zs, HTN.out, HMZ.out⟩, by omega⟩, (Kw.all HB6.out).trans (HKZ.out.mono fun b hb _ => ?_)⟩
        rcases hb with h | h | h | h
        · exact ⟨by omega, by omega⟩
        · exact ⟨by omega, by omega⟩
        · exact ⟨by omega, h.2⟩
        · exact ⟨by omega, by omega⟩
  case hdone =>
    intro E W hE hj hD
    obtain ⟨ys, hfw, hmb⟩ := hj.ex
    have HFW := Lib.hid hfw
    have HMB := Lib.hid hmb
    have HD := Lib.hid hD
    clear hj hfw hmb hD
    go_wp2_with fail
    refine leaves_marks (S := WL.heap.size) _ _ ⟨[WL.heap.size], rfl, by simp, fun D hm => by simp at hm; subst hm; exact ⟨Nat.le_refl _, HD.out⟩⟩ ?_
    intro W' hk
    have hmb2 := HMB.out.kw hk (fun b hb => .inl (by omega))
    exact ⟨.tuple #[], by simp [results, Try.results51, go_sem], rfl, ⟨ys, hmb2.wd, HFW.out⟩, hmb2.but⟩
end
section
open Go Go.ChangeShapes Go.WideShapes Go.ChangeAt Go.RowKit
set_option linter.unusedVariables false
set_option linter.unusedSimpArgs false
theorem sizeU64i : (Try.prog.info? 46).map (·.size) = some 1 := by kernel_rfl
/-- The row behind the copy. -/
theorem wd_seg {w : World} {g c : Nat} {xs : List Int} {cur : Array Value} (hw : Wd w g c xs) (hg : w.heap[g]? = some (.cells cur 46 (0, 0))) {tw a s : Nat} (h1 : tw ≤ a) (h2 : a + s ≤ xs.length) :
    Wd (w.setRow g (cur.toList.take tw ++ ((xs.drop a).take s).map (Value.int .u64) ++ cur.toList.drop (tw + s)).toArray) g c (spl xs tw a s) := by
  have hlen := spl_len h1 h2
  obtain ⟨f, ⟨cur', r1, r2, r3⟩, hF⟩ := hw.row
  rw [hg] at r1
  simp only [Option.some.injEq, Obj.cells.injEq] at r1
  obtain ⟨rfl, _⟩ := r1
  have hc := hw.le
  have hs : (((xs.drop a).take s).map (Value.int .u64)).length = s := by rw [List.length_map, List.length_take, List.length_drop]; omega
  have hcl : cur.toList.length = c := by simpa using r2
  have ht : (cur.toList.take tw).length = tw := by rw [List.length_take]; omega
  have hcell : ∀ i, i < xs.length → cur.toList[i]? = some (.int .u64 (xs.getD i 0)) := fun i hi => by
    have := r3 i (by omega)
    rw [hF i hi] at this
    simpa using this
  have hval : ∀ i, i < xs.length → (cur.toList.take tw ++ ((xs.drop a).take s).map (Value.int .u64) ++ cur.toList.drop (tw + s))[i]? = some (.int .u64 ((spl xs tw a s).getD i 0)) := fun i hi => by
    rw [spl_getD h1 h2, List.append_assoc]
    rcases Nat.lt_or_ge i tw with h | h
    · rw [if_neg (by omega), List.getElem?_append_left (by omega), List.getElem?_take, if_pos h, hcell i hi]
    · rw [List.getElem?_append_right (by omega), ht]
      rcases Nat.lt_or_ge (i - tw) s with h' | h'
      · rw [if_pos ⟨h, by omega⟩, List.getElem?_append_left (by omega), List.getElem?_map, List.getElem?_take, if_pos h', List.getElem?_drop, List.getElem?_eq_getElem (by omega : a + (i - tw) < xs.length), List.getD_eq_getElem?_getD, List.getElem?_eq_getElem (by omega : a + (i - tw) < xs.length)]
        rfl
      · rw [if_neg (by omega), List.getElem?_append_right (by omega), hs, List.getElem?_drop, show tw + s + (i - tw - s) = i by omega, hcell i hi]
  refine ⟨⟨fun i => (cur.toList.take tw ++ ((xs.drop a).take s).map (Value.int .u64) ++ cur.toList.drop (tw + s)).getD i undef, ⟨_, setRow_heap w g _ _ _ _ hg, ?_, fun i hi => ?_⟩, fun i hi => ?_⟩, by omega, by rw [hlen]; exact hw.max⟩
  · simp only [List.size_toArray, List.length_append, List.length_take, List.length_drop, List.length_map]
    omega
  · have : i < (cur.toList.take tw ++ ((xs.drop a).take s).map (Value.int .u64) ++ cur.toList.drop (tw + s)).length := by
      simp only [List.length_append, List.length_take, List.length_drop, List.length_map]
      omega
    dsimp only
    rw [List.getElem?_toArray, List.getElem?_eq_getElem this, List.getD_eq_getElem?_getD, List.getElem?_eq_getElem this]
    rfl
  · rw [hlen] at hi
    dsimp only
    rw [List.getD_eq_getElem?_getD, hval i hi]
    rfl
theorem wpListIn_copySeg {l : Nat} {ops : Array Oper} {rest : List Oper} {o : Oper} {a : Act} {Q : Exit → Act → World → Prop} {w : World} {g c : Nat} {xs : List Int} (hgd : o.guard = none) (d y : Operand) (ho : o.op = .call { callee := .builtin .copy, args := #[d, y], argTypes := #[22, 22] })
    (tw a0 s dLen dCap sCap : Nat) (hd : a.eval d = .slice (some ⟨g, tw, none⟩) dLen dCap) (hy : a.eval y = .slice (some ⟨g, a0, none⟩) s sCap) (hw : Wd w g c xs) (h1 : tw ≤ a0) (h2 : a0 + s ≤ xs.length) (h3 : s ≤ dLen)
    (h : ∀ w', Wd w' g c (spl xs tw a0 s) → But1 g w w' → wpListIn (Fence.wide.inRound l) 0 Try.prog ops Q rest (a.put o.dst (goInt s)) w') : wpListIn (Fence.wide.inRound l) 0 Try.prog ops Q (o :: rest) a w :=
  wpListIn_plain hgd fun K hK => by
    obtain ⟨f, ⟨cur, r1, r2, r3⟩, hF⟩ := hw.row
    have hc := hw.le
    have hs : (((xs.drop a0).take s).map (Value.int .u64)).length = s := by rw [List.length_map, List.length_take, List.length_drop]; omega
    have hsrc : ∀ j v, (((xs.drop a0).take s).map (Value.int .u64))[j]? = some v → w.cell? ((⟨g, a0, none⟩ : Addr).add j) = some v := fun j v hv => by
      have hj : j < s := by rw [← hs]; exact (List.getElem?_eq_some_iff.1 hv).1
      rw [show (⟨g, a0, none⟩ : Addr).add j = ⟨g, a0 + j, none⟩ by unfold Addr.add; split <;> simp_all, hw.cell (i := a0 + j) (by omega), ← hv, List.getElem?_map, List.getElem?_take, if_pos hj, List.getElem?_drop, List.getElem?_eq_getElem (by omega : a0 + j < xs.length), List.getD_eq_getElem?_getD, List.getElem?_eq_getElem (by omega : a0 + j < xs.length)]
      rfl
    refine ⟨fun _ _ => trivial, ?_⟩
    rw [Fence.inRound_round, Oper.semAt_some l a.eval o (fun c hc => by rw [ho] at hc; cases hc)]
    have hrun := run_copy_row (P := Try.prog) w 22 22 o.type 46 g tw dLen dCap ⟨g, a0, none⟩ s sCap cur 46 (((xs.drop a0).take s).map (Value.int .u64)) Try.underlying22 sizeU64i r1 (by rw [hs]; exact (Nat.min_eq_left h3).symm) hsrc (by rw [hs]; omega) (fun v hv => by
      obtain ⟨x, _, rfl⟩ := List.mem_map.1 hv
      rfl)
    rw [hs] at hrun
    have hq := h _ (wd_seg hw r1 h1 h2) ⟨rfl, rfl, rfl, by simp [World.setRow], fun b _ hb => setRow_other w g b _ hb⟩
    generalize (cur.toList.take tw ++ ((xs.drop a0).take s).map (Value.int .u64) ++ cur.toList.drop (tw + s)).toArray = L at hrun hq
    simp [execOp, ho, resolve, invoke, builtin, hd, hy, hrun, Result.andThen]
    exact hK _ _ hq
end
section
open Go Go.ChangeShapes Go.WideShapes Go.ChangeAt Go.RowKit
set_option linter.unusedVariables false
set_option linter.unusedSimpArgs false
attribute [local go_sem] Oper.semAt_some
theorem andNot_mk {x : Int} (h0 : 0 ≤ x) (h : x < 9223372036854775808) : bits BinOp.andNot IntKind.u64 (x + 9223372036854775808) 9223372036854775808 = x := by
  rw [u64_andNot _ _ (by omega) (by omega) (by omega) (by omega)]
  have e : (18446744073709551615 - (9223372036854775808 : Int).toNat) = 2 ^ 63 - 1 := rfl
  rw [e, Nat.and_two_pow_sub_one_eq_mod]
  omega
theorem sl_sum {a s : Nat} (h : a + s ≤ 1048576) : IntKind.i64.wrap ((a : Int) + (s : Int)) = (a : Int) + (s : Int) := IntWalk.i64_in _ (by omega)
/-- What the rounds of slideDown hold. -/
structure SJ (ws : List Int) (tn : Nat) (l : List Nat) (M : Nat → Bool) (ys : List Int) (w : World) (g c : Nat) (WL : World) (E k : Nat) (A : World) : Prop where
  ex : ∃ xs, SD ws tn l M ys k xs ∧ M1 w g c ws.length xs A
  sz : WL.heap.size ≤ A.heap.size
theorem TN.headN {ws : List Int} {tn : Nat} {l : List Nat} {M : Nat → Bool} {xs : List Int} (h : TN ws l M l.length 0 xs) (ho : Ob ws tn l) {a : Nat} (ha : a ∈ l) : (M a = true → 9223372036854775808 ≤ xs.getD a 0) ∧ (M a = false → xs.getD a 0 < 9223372036854775808) ∧ 0 ≤ xs.getD a 0 ∧ xs.getD a 0 ≤ 18446744073709551615 ∧ hS (xs.getD a 0) = szN ws a ∧ hT (xs.getD a 0) = tgN ws a := by
  have h1 := ho.head a ha
  have h2 := hS_lo (ws.getD a 0)
  have h3 := hT_lo (ws.getD a 0)
  have h6 := ho.in1 a ha
  cases hM : M a
  · have e : xs.getD a 0 = ws.getD a 0 := h.rest a (fun b hb => by
      have h4 := ho.apart a ha b (h.sub b hb)
      have h5 := ho.in1 b (h.sub b hb)
      have : a ≠ b := fun e => by rw [e, hb] at hM; cases hM
      omega) (fun j hj _ hm => by
      have h4 := ho.apart a ha _ (mem_getD (l := l) (i := j) hj)
      have h5 := ho.in1 _ (mem_getD (l := l) (i := j) hj)
      have h7 := adrP_in hm
      rcases h4 with e | e | e
      · rw [← e] at h7; omega
      · omega
      · omega) (fun p hp => absurd hp (Nat.not_lt_zero _))
    rw [e]
    unfold szN tgN
    refine ⟨fun g => (by cases g), fun _ => ?_, ?_, ?_, ?_, ?_⟩ <;> omega
  · have e := h.hd a hM
    rw [e, hS_mk h1.1, hT_mk h1.1]
    unfold szN tgN
    refine ⟨fun _ => ?_, fun g => (by cases g), ?_, ?_, ?_, ?_⟩ <;> omega
set_option maxRecDepth 100000 in
set_option maxHeartbeats 4000000 in
theorem slide_any {ws : List Int} {tn : Nat} {l : List Nat} {M : Nat → Bool} (ho : Ob ws tn l) {xs : List Int} (hm : TN ws l M l.length 0 xs) {w : World} {g c : Nat} (hw : Wd w g c xs) :
    Calls Try.prog 53 #[.slice (some ⟨g, 0, none⟩) ws.length c, .int .i64 tn] w fun e w' => e = .returned (.tuple #[]) ∧ (∃ ys, Wd w' g c ys ∧ SD ws tn l M xs l.length ys) ∧ But1 g w w' := by
  have HO := Lib.hid ho
  have HF := Lib.hid (SD.start (tn := tn) hm)
  have HTN := Lib.hid hm
  have HW := Lib.hid hw
  have hgl := hw.lt
  have hlen := hm.len
  clear ho hm hw
  refine calls_of_marks Try.func53 rfl ?_
  simp only [Try.ntmps53, List.size_toArray, List.length_cons, List.length_nil, Nat.reduceAdd, Nat.reduceSub, Array.replicate_succ, Array.replicate_zero, List.push_toArray, List.append_toArray, List.nil_append, List.cons_append]
  go_wp2_with (go_at_call 45; (with_reducible refine (objects_any _ _ _ _ _).mono ?_); rintro e w9 ⟨rfl, rfl⟩)
  obtain ⟨w2, hw2⟩ : ∃ w2, w.alloc (Obj.cells #[Value.slice (some ⟨g, 0, none⟩) ws.length c] 22) = w2 := ⟨_, rfl⟩
  have HM2 := Lib.hid (show M1 w g c ws.length xs w2 by
    rw [← hw2]
    exact ⟨HW.out.keep ((Below.refl _ _).alloc (Nat.le_refl _) _), hlen, by simp, But1.of ((Below.refl _ _).alloc (Nat.le_refl _) _), hgl⟩)
  have hs2 : w2.heap.size = w.heap.size + 1 := by rw [← hw2]; simp
  rw [hw2]
  clear hw2
  obtain ⟨WL, hWL⟩ : ∃ WL, (w2.alloc (Obj.cells #[Value.slice (some ⟨g, 0, none⟩) ws.length c] 22)).alloc (Obj.cells #[Value.int .i64 (tn : Int)] 3) = WL := ⟨_, rfl⟩
  rw [hWL]
  have hbl : Below w2.heap.size w2 WL := by rw [← hWL]; exact ((Below.refl _ _).alloc (Nat.le_refl _) _).alloc (by simp) _
  have hszL : WL.heap.size = w.heap.size + 3 := by rw [← hWL]; simp [hs2]
  have yb : WL.cell? ⟨w.heap.size + 1, 0, none⟩ = some (.slice (some ⟨g, 0, none⟩) ws.length c) := by rw [← hWL, ← hs2]; exact alloc_cell (by simp) _
  have ya : WL.cell? ⟨w.heap.size + 2, 0, none⟩ = some (.int .i64 tn) := by
    rw [← hWL]
    have := cell_newK (w := w2.alloc (Obj.cells #[Value.slice (some ⟨g, 0, none⟩) ws.length c] 22)) (cs := #[.int .i64 (tn : Int)]) (T := 3) (k := 0) rfl
    rwa [World.size_alloc, hs2] at this
  have HML := Lib.hid (HM2.out.keep hbl)
  clear hWL HM2 hbl
  refine wp_rangeJ (K := fun b => b < WL.heap.size ∧ b ≠ g) (It := ItO l) (R := RO l (szN ws) (.slice (some ⟨g, 0, none⟩) ws.length c)) (N := l.length) (by rfl) (fun _ _ => enter_objs _ _) ?hseq ?hKs ?hps
    (SJ ws tn l M xs w g c WL) ?hR ?hJ ?hIt ?h0 ?hround ?hdone
  case hseq =>
    intro W hk hs
    refine objs_gives HO.out.objs _ _ _ W (w.heap.size + 2) (w.heap.size + 1) _ ?_ ?_ ⟨by omega, by omega⟩ ⟨by omega, by omega⟩
    · exact (World.cell?_of_block (a := ⟨w.heap.size + 2, 0, none⟩) (hk.block _ trivial (by dsimp only; omega))).trans ya
    · exact (World.cell?_of_block (a := ⟨w.heap.size + 1, 0, none⟩) (hk.block _ trivial (by dsimp only; omega))).trans yb
  case hKs => intro b hb; exact hb.1
  case hps => rintro k A args rfl; rfl
  case hR =>
    intro E k A hE hj hk
    obtain ⟨ys, hfw, hmb⟩ := hj.ex
    have h1 := HTN.out.headN HO.out (mem_getD hk)
    rw [← hfw.high (l.getD k 0) (by rw [nxO_lt hk]; exact Nat.le_refl _)] at h1
    have h2 := HO.out.in1 _ (mem_getD hk)
    have h3 := HO.out.le
    have hr := hmb.wd.rd
    rw [hmb.len] at hr
    exact ⟨ys, hr, by rw [hmb.len]; omega, h1.2.2.2.2.1, h1.2.2.1, h1.2.2.2.1⟩
  case hJ =>
    intro E k A A' hE hj hk
    obtain ⟨ys, hfw, hmb⟩ := hj.ex
    exact ⟨⟨ys, hfw, hmb.kw hk fun b hb => ⟨by omega, by omega⟩⟩, Nat.le_trans hj.sz hk.size⟩
  case hIt => rintro k A A' args rfl hk; rfl
  case h0 => exact fun E => ⟨⟨xs, HF.out, HML.out⟩, Nat.le_refl _⟩
  case hround =>
    rintro q0 E k args A hE hEA hkn hj rfl
    clear hj
    have hal := mem_getD hkn
    have hnx := nxO_lt (tn := tn) hkn
    obtain ⟨a, hak⟩ : ∃ a, l.getD k 0 = a := ⟨_, rfl⟩
    have HAK := Lib.hid hak
    have HDST := Lib.hid (dst_at (M := M) (sz := szN ws) HO.out.rising hkn)
    rw [hak] at hal hnx HDST
    rw [hak]
    have HNX := Lib.hid hnx
    clear hak hnx
    gi_wp2
    (try refine ⟨trivial, ?_⟩)
    intro A5 hEA5 hj hit
    obtain ⟨zs, hfw, hmb⟩ := hj.ex
    have HFW := Lib.hid hfw
    have HMB := Lib.hid hmb
    have hsz5 := hj.sz
    have y2 := hmb.b2
    have HH := Lib.hid (HTN.out.headN HO.out hal)
    have hi1 := HO.out.in1 a hal
    have hle := HO.out.le
    have hmost := HO.out.most
    have c0 := hmb.wd.cell (i := a) (by rw [hmb.len]; omega)
    have c1 := hmb.wd.cell (i := a + 1) (by rw [hmb.len]; omega)
    rw [hfw.high a (by rw [HNX.out]; exact Nat.le_refl _)] at c0
    rw [hfw.high (a + 1) (by rw [HNX.out]; exact Nat.le_succ _)] at c1
    have f0 := hmb.wd.frozen a
    have f1 := hmb.wd.frozen (a + 1)
    have haz : (a : Int) < (ws.length : Int) := by omega
    have haz1 : (a : Int) + 1 < (ws.length : Int) := by omega
    clear hj hfw hmb hit
    cases hM : M a
    · obtain ⟨x, hx⟩ : ∃ x, xs.getD a 0 = x := ⟨_, rfl⟩
      rw [hx] at HH c0
      have e1 := and_mk_lo HH.out.2.2.1 (HH.out.2.1 hM)
      have HMM := Lib.hid hM
      clear hM hx c1
      gi_wp2
      exact ⟨⟨⟨zs, HFW.out.skip HO.out hkn (by rw [HAK.out]; exact HMM.out), HMB.out⟩, hsz5⟩, Kw.refl _ _⟩
    · have e1 := and_mk_hi (HH.out.1 hM) HH.out.2.2.2.1
      have HMM := Lib.hid hM
      have hx0 := HTN.out.hd a hM
      have hx1 := HTN.out.fwd a hM
      rw [HDST.out] at hx1
      rw [hx1] at c1
      rw [hx0] at c0 e1
      have hhd := HO.out.head a hal
      have e2 := andNot_mk hhd.1 (by omega)
      obtain ⟨fk, hfk⟩ : ∃ f, frK l M (szN ws) k = f := ⟨_, rfl⟩
      have HFK := Lib.hid hfk
      rw [hfk] at c1
      have HFL := Lib.hid (show fk ≤ a by
        have := frK_le (M := M) HO.out.objs k (Nat.le_of_lt hkn)
        rw [HNX.out, hfk] at this; exact this)
      have hfa : fk ≤ 1048576 := by have := HFL.out; omega
      generalize ws.getD a 0 + 9223372036854775808 = xm at c0 e1 e2
      have HX0 := Lib.hid (show ws.getD a 0 = ws.getD a 0 from rfl)
      obtain ⟨xh, hxh⟩ : ∃ x, ws.getD a 0 = x := ⟨_, rfl⟩
      rw [hxh] at e2
      have HXH := Lib.hid hxh
      clear hM hx0 hx1 hhd hfk hxh HX0
      gi_wp2
      have hm6 := (HMB.out.set a xh (by omega)).set (a + 1) 0 (by omega)
      obtain ⟨W6, hW6⟩ : ∃ W6, (A5.setCell ⟨g, a, none⟩ (.int .u64 xh)).setCell ⟨g, a + 1, none⟩ (.int .u64 0) = W6 := ⟨_, rfl⟩
      rw [hW6] at hm6
      rw [hW6]
      have hk6 : Kw (fun b => b ≠ g) A5 W6 := by rw [← hW6]; exact ((Kw.refl _ A5).setCell _ _ (fun h => h rfl)).setCell _ _ (fun h => h rfl)
      have HK6 := Lib.hid hk6
      have HM6 := Lib.hid hm6
      have y6 := hm6.b2
      have hl6 : ((zs.set a xh).set (a + 1) 0).length = ws.length := hm6.len
      obtain ⟨zs2, hzs2⟩ : ∃ u, (zs.set a xh).set (a + 1) 0 = u := ⟨_, rfl⟩
      rw [hzs2] at HM6 hl6
      have hza : zs2.getD a 0 = xh := by
        rw [← hzs2, getD_set, if_neg (by omega), getD_set, if_pos ⟨rfl, by have := HMB.out.len; omega⟩]
      have hxb := HO.out.head a hal
      rw [HXH.out] at hxb
      obtain ⟨s, hs⟩ : ∃ s, szN ws a = s := ⟨_, rfl⟩
      have hS2 : hS xh = (s : Int) := by
        have h2 := hS_lo (ws.getD a 0)
        rw [← hs, ← HXH.out]; unfold szN; omega
      rw [hs] at hi1
      have HSZ := Lib.hid (fun (wx : World) (hx : wx.heap[g]? = W6.heap[g]?) => by
        have h1 := sizeof_any _ zs2 a wx ((HM6.out.wd.of hx).rd) (by rw [hl6]; omega) (by rw [hza]; exact ⟨hxb.1, by omega⟩)
        rw [hl6, hza, hS2] at h1
        exact h1)
      have hcc := HM6.out.wd.le
      have hfl := HFL.out
      rw [hl6] at hcc
      obtain ⟨o1, ho1, hsl1⟩ := sl_from (P := Try.prog) 22 sliceU64 sizeU64 g 0 ws.length c fk (by omega) hcc
      obtain ⟨o2, ho2, hsl2⟩ := sl_mid (P := Try.prog) 22 sliceU64 sizeU64 g 0 ws.length c a s (by omega)
      have e3 : o1 = fk := by rw [ho1 (by omega), Nat.zero_add]
      have e4 : o2 = a := by rw [ho2 (by omega), Nat.zero_add]
      rw [e3] at hsl1
      rw [e4] at hsl2
      have n1 : IntKind.i64.wrap ((a : Int) + (s : Int)) = (a : Int) + (s : Int) := sl_sum (by omega : a + s ≤ 1048576)
      have hfs : s ≤ ws.length - fk := by omega
      have has : a + s ≤ zs2.length := by omega
      have HZ := Lib.hid hzs2
      clear hW6 hm6 hk6 c0 c1 f0 f1 e1 e2 y2 hza hS2 hzs2 ho1 ho2 e3 e4
      refine wpIn_region_anyT (l := q0) (S := fun A' => A'.cell? ⟨w.heap.size, 0, none⟩ = some (.slice (some ⟨g, 0, none⟩) ws.length c) ∧ A'.heap[g]? = W6.heap[g]?) 11 (by kernel_rfl) ⟨by kernel_rfl, by kernel_rfl, by kernel_rfl, by kernel_rfl, by decide⟩ ⟨y6, rfl⟩ ?_
      simp only [List.drop_succ_cons, List.drop_zero]
      intro hh inv hS0
      refine anyT_take hh inv (i := 0) (v := ?_) rfl (by decide) (by kernel_rfl) (by kernel_rfl) (fun _ _ _ h => h) (Or.inl ⟨by rfl, ?_⟩) (by assumption) ?_
      rotate_left 1
      · intro w' hSw
        (try dsimp only at hSw)
        go_simp
        (try with_reducible rfl)
      intro inv
      (try simp only [List.getElem_toArray, List.getElem_cons_succ, List.getElem_cons_zero, Act.put, List.setIfInBounds_toArray, List.set_cons_zero, List.set_cons_succ])
      refine anyT_take hh inv (i := 1) (v := ?_) rfl (by decide) (by kernel_rfl) (by kernel_rfl) (fun _ _ _ h => h) (Or.inl ⟨by rfl, ?_⟩) (by assumption) ?_
      rotate_left 1
      · intro w' hSw
        (try dsimp only at hSw)
        go_simp
        (try with_reducible rfl)
      intro inv
      (try simp only [List.getElem_toArray, List.getElem_cons_succ, List.getElem_cons_zero, Act.put, List.setIfInBounds_toArray, List.set_cons_zero, List.set_cons_succ])
      refine anyT_take hh inv (i := 2) (v := ?_) rfl (by decide) (by kernel_rfl) (by kernel_rfl) (fun _ _ _ h => h) (Or.inl ⟨by rfl, ?_⟩) (by assumption) ?_
      rotate_left 1
      · intro w' hSw
        (try dsimp only at hSw)
        go_simp
        (try with_reducible rfl)
      intro inv
      (try simp only [List.getElem_toArray, List.getElem_cons_succ, List.getElem_cons_zero, Act.put, List.setIfInBounds_toArray, List.set_cons_zero, List.set_cons_succ])
      refine anyT_take hh inv (i := 3) (v := ?_) rfl (by decide) (by kernel_rfl) (by kernel_rfl) (fun _ _ _ h => h) (Or.inl ⟨by rfl, ?_⟩) (by assumption) ?_
      rotate_left 1
      · intro w' hSw
        (try dsimp only at hSw)
        go_simp
        (try with_reducible rfl)
      intro inv
      (try simp only [List.getElem_toArray, List.getElem_cons_succ, List.getElem_cons_zero, Act.put, List.setIfInBounds_toArray, List.set_cons_zero, List.set_cons_succ])
      refine anyT_take hh inv (i := 4) (v := ?_) rfl (by decide) (by kernel_rfl) (by kernel_rfl) (fun _ _ _ h => h) (Or.inl ⟨by rfl, ?_⟩) (by assumption) ?_
      rotate_left 1
      · intro w' hSw
        (try dsimp only at hSw)
        go_simp
        (try with_reducible rfl)
      intro inv
      (try simp only [List.getElem_toArray, List.getElem_cons_succ, List.getElem_cons_zero, Act.put, List.setIfInBounds_toArray, List.set_cons_zero, List.set_cons_succ])
      refine anyT_take hh inv (i := 5) (v := ?_) rfl (by decide) (by kernel_rfl) (by kernel_rfl) (fun _ _ _ h => h) (Or.inl ⟨by rfl, ?_⟩) (by assumption) ?_
      rotate_left 1
      · intro w' hSw
        (try dsimp only at hSw)
        go_simp
        (try with_reducible rfl)
      intro inv
      (try simp only [List.getElem_toArray, List.getElem_cons_succ, List.getElem_cons_zero, Act.put, List.setIfInBounds_toArray, List.set_cons_zero, List.set_cons_succ])
      refine anyT_take hh inv (i := 6) (v := ?_) rfl (by decide) (by kernel_rfl) (by kernel_rfl) (fun _ _ _ h => h) (Or.inl ⟨by rfl, ?_⟩) (by assumption) ?_
      rotate_left 1
      · intro w' hSw
        (try dsimp only at hSw)
        go_simp
        (try with_reducible rfl)
      intro inv
      (try simp only [List.getElem_toArray, List.getElem_cons_succ, List.getElem_cons_zero, Act.put, List.setIfInBounds_toArray, List.set_cons_zero, List.set_cons_succ])
      refine anyT_take hh inv (i := 7) (v := ?_) rfl (by decide) (by kernel_rfl) (by kernel_rfl) (fun _ _ _ h => h) (Or.inl ⟨by rfl, ?_⟩) (by assumption) ?_
      rotate_left 1
      · intro w' hSw
        (try dsimp only at hSw)
        go_simp
        (try with_reducible rfl)
      intro inv
      (try simp only [List.getElem_toArray, List.getElem_cons_succ, List.getElem_cons_zero, Act.put, List.setIfInBounds_toArray, List.set_cons_zero, List.set_cons_succ])
      refine anyT_one inv (i := 8) rfl rfl (by kernel_rfl) (by decide) ?_
      intro inv K hK
      refine ⟨fun _ _ => trivial, ?_⟩
      rw [Fence.inRound_round, Oper.semAt_some q0 _ _ (fun c hc => by cases hc)]
      go_simp
      refine ⟨rfl, CallsIn.mono (CallsIn.inRound q0 (callsIn_wide.2 (HSZ.out _ rfl))) ?_⟩
      rintro e w9 ⟨rfl, rfl⟩
      (try dsimp only)
      refine hK.out _ _ hS0 (fun hS0 => ?_)
      (try simp only [List.getElem_toArray, List.getElem_cons_succ, List.getElem_cons_zero, Act.put, List.setIfInBounds_toArray, List.set_cons_zero, List.set_cons_succ])
      refine anyT_take hh inv (i := 9) (v := ?_) rfl (by decide) (by kernel_rfl) (by kernel_rfl) (fun _ _ _ h => h) (Or.inl ⟨by rfl, ?_⟩) (by assumption) ?_
      rotate_left 1
      · intro w' hSw
        (try dsimp only at hSw)
        go_simp
        (try with_reducible rfl)
      intro inv
      (try simp only [List.getElem_toArray, List.getElem_cons_succ, List.getElem_cons_zero, Act.put, List.setIfInBounds_toArray, List.set_cons_zero, List.set_cons_succ])
      refine anyT_take hh inv (i := 10) (v := ?_) rfl (by decide) (by kernel_rfl) (by kernel_rfl) (fun _ _ _ h => h) (Or.inl ⟨by rfl, ?_⟩) (by assumption) ?_
      rotate_left 1
      · intro w' hSw
        (try dsimp only at hSw)
        go_simp
        (try with_reducible rfl)
      intro inv
      (try simp only [List.getElem_toArray, List.getElem_cons_succ, List.getElem_cons_zero, Act.put, List.setIfInBounds_toArray, List.set_cons_zero, List.set_cons_succ])
      refine ⟨by kernel_rfl, ?_⟩
      refine wpListIn_copySeg (l := q0) rfl (.tmp 34) (.tmp 42) rfl fk a s (ws.length - fk) (c - fk) (c - a) rfl rfl (HM6.out.wd.of (w' := W6.drew) rfl) HFL.out has hfs ?_
      intro w7 hw7 hb7
      have hsd := HFW.out.put HO.out hkn (by rw [HAK.out]; exact HMM.out)
      rw [HAK.out, HFK.out, hs] at hsd
      unfold mvd at hsd
      rw [HXH.out, HZ.out] at hsd
      have hmd := HM6.out.keep (show Below W6.heap.size W6 W6.drew from (Below.refl _ _).drew)
      have hgl3 := hmd.gl
      have hM7 : M1 w g c ws.length (spl zs2 fk a s) w7 := ⟨hw7, by rw [spl_len HFL.out has]; exact hl6, hb7.cell hmd.b2 (by omega), hmd.but.trans hb7, hgl3⟩
      have hkw : Kw (fun b => b ≠ g) A5 w7 := (HK6.out.trans (Kw.all ((Below.refl _ W6).drew))).trans (hb7.kw fun b hb => hb)
      have HSD := Lib.hid hsd
      have HM7 := Lib.hid hM7
      have HKW := Lib.hid hkw
      clear hsd hM7 hkw hw7 hb7 hmd hh inv hS0
      gi_wp2
      have hsz7 := HKW.out.size
      refine ⟨⟨⟨_, HSD.out, HM7.out⟩, by omega⟩, HKW.out.mono fun b hb _ => ?_⟩
      rcases hb with h | h | h | h
      · omega
      · omega
      · exact h.2
      · omega
  case hdone =>
    intro E W hE hj hD
    obtain ⟨ys, hfw, hmb⟩ := hj.ex
    have HFW := Lib.hid hfw
    have HMB := Lib.hid hmb
    have HD := Lib.hid hD
    clear hj hfw hmb hD
    go_wp2_with fail
    refine leaves_marks (S := WL.heap.size) _ _ ⟨[WL.heap.size], rfl, by simp, fun D hm => by simp at hm; subst hm; exact ⟨Nat.le_refl _, HD.out⟩⟩ ?_
    intro W' hk
    have hmb2 := HMB.out.kw hk (fun b hb => .inl (by omega))
    exact ⟨.tuple #[], by simp [results, Try.results53, go_sem], rfl, ⟨ys, hmb2.wd, HFW.out⟩, hmb2.but⟩
end
end Go.Proofs.Ytfhjpgbnojdlkaa
