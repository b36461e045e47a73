/- Layer 14: markAll. Layer 14: forward. -/
import Derived.Test.YtfhjpgbnojdlkaaPGSlE
import Derived.Test.YtfhjpgbnojdlkaaPClr
import Derived.Deep.LoopGhost
import Derived.Stop.RegionWithIn
namespace Go.Proofs.Ytfhjpgbnojdlkaa
section
open Go Go.ChangeShapes Go.WideShapes Go.ChangeAt Go.RowKit
set_option linter.unusedVariables false
set_option linter.unusedSimpArgs false
attribute [local go_sem] Oper.semAt_some
theorem MS.lst_lt {ws : List Int} {tn : Nat} {l : List Nat} {M : Nat → Bool} {c : List Nat} {xs : List Int} {lst : Nat} (h : MS ws l M c xs lst) (ho : Ob ws tn l) : lst ≤ 1048576 := by
  have h1 := h.ch
  cases c with
  | nil => have : lst = 0 := h1; omega
  | cons a c =>
    have h2 := ho.in1 a (h.sub a (h.cm a List.mem_cons_self))
    have := h1.1
    have := ho.le
    have := ho.most
    omega
theorem mk_meas {k N : Nat} (h : k < N) : N - (intOf (Value.int IntKind.i64 ((k : Int) + 1))).toNat < N - (intOf (Value.int IntKind.i64 (k : Int))).toNat := by simp [intOf]; omega
/-- The memory of the marking: the words in block g, the slice in box B, the list's head in box B + 1. -/
structure MB (w : World) (g c N : Nat) (xs : List Int) (lst : Nat) (wx : World) : Prop where
  wd : Wd wx g c xs
  len : xs.length = N
  b2 : wx.cell? ⟨w.heap.size, 0, none⟩ = some (.slice (some ⟨g, 0, none⟩) N c)
  b4 : wx.cell? ⟨w.heap.size + 1, 0, none⟩ = some (.int .i64 lst)
  f4 : wx.frozen? ⟨w.heap.size + 1, 0, none⟩ = false
  but : But1 g w wx
  gl : g < w.heap.size
theorem MB.lt {w wx : World} {g c N lst : Nat} {xs : List Int} (h : MB w g c N xs lst wx) : w.heap.size + 1 < wx.heap.size := World.block_lt_of_cell? wx _ h.b4
theorem MB.kw {w wx wy : World} {g c N lst : Nat} {xs : List Int} (h : MB w g c N xs lst wx) {K : Nat → Prop} (hk : Kw K wx wy) (hK : ∀ b, b < w.heap.size + 2 → K b) : MB w g c N xs lst wy := by
  have hl := h.lt
  have hg := h.gl
  exact ⟨h.wd.of (hk.block _ (hK _ (by omega)) h.wd.lt), h.len, (World.cell?_of_block (a := ⟨w.heap.size, 0, none⟩) (hk.block _ (hK _ (by dsimp only; omega)) (by dsimp only; omega))).trans h.b2,
    (World.cell?_of_block (a := ⟨w.heap.size + 1, 0, none⟩) (hk.block _ (hK _ (by dsimp only; omega)) hl)).trans h.b4, (World.frozen?_of_block (a := ⟨w.heap.size + 1, 0, none⟩) (hk.block _ (hK _ (by dsimp only; omega)) hl)).trans h.f4,
    ⟨hk.os.trans h.but.os, hk.tape.trans h.but.tape, hk.output.trans h.but.output, Nat.le_trans h.but.size hk.size, fun b hb hn => (hk.block b (hK b (by omega)) (Nat.lt_of_lt_of_le hb h.but.size)).trans (h.but.block b hb hn)⟩, hg⟩
theorem MB.keep {w wx wy : World} {g c N lst : Nat} {xs : List Int} (h : MB w g c N xs lst wx) (hb : Below wx.heap.size wx wy) : MB w g c N xs lst wy :=
  h.kw (K := fun _ => True) (Kw.all hb) fun _ _ => trivial
/-- The words are others. -/
theorem MB.step {w wx wy : World} {g c N lst : Nat} {xs ys : List Int} (h : MB w g c N xs lst wx) (hw : Wd wy g c ys) (hl : ys.length = N) (hb : But1 g wx wy) : MB w g c N ys lst wy := by
  have h1 := h.lt
  have hg := h.gl
  exact ⟨hw, hl, hb.cell h.b2 (by omega), hb.cell h.b4 (by omega), (World.frozen?_of_block (a := ⟨w.heap.size + 1, 0, none⟩) (hb.block _ h1 (fun e => by have e : w.heap.size + 1 = g := e; omega))).trans h.f4, h.but.trans hb, hg⟩
/-- The list's head is another. -/
theorem MB.setList {w wx : World} {g c N lst : Nat} {xs : List Int} (h : MB w g c N xs lst wx) (n : Nat) : MB w g c N xs n (wx.setCell ⟨w.heap.size + 1, 0, none⟩ (.int .i64 n)) := by
  have hg := h.gl
  refine ⟨h.wd.of (Below.heap_setCell _ _ _ g (fun e => by have e : g = w.heap.size + 1 := e; omega)), h.len, ?_, World.cell?_setCell_same _ _ _ h.b4, ?_, ?_, hg⟩
  · rw [← h.b2]; exact World.cell?_of_block (Below.heap_setCell _ _ _ _ (fun e => by have e : w.heap.size = w.heap.size + 1 := e; omega))
  · rw [← h.f4]; exact World.frozen?_setCell _ _ _ _
  · exact ⟨h.but.os, h.but.tape, h.but.output, Nat.le_trans h.but.size (KeepsWalks.setCell wx _ _).size, fun k hk hn => (Below.heap_setCell _ _ _ k (fun e => by have e : k = w.heap.size + 1 := e; omega)).trans (h.but.block k hk hn)⟩
/-- Pushing: the object's mark is there already, or it is laid. -/
theorem push_any {ws : List Int} {tn : Nat} {l : List Nat} (ho : Ob ws tn l) {M : Nat → Bool} {c' : List Nat} {xs : List Int} {lst : Nat} (hm : MS ws l M c' xs lst) {w wx : World} {g c : Nat} (hb : MB w g c ws.length xs lst wx) {b : Nat} (hbl : b ∈ l) :
    Calls Try.prog 87 #[.slice (some ⟨g, 0, none⟩) ws.length c, .int .i64 b, .int .i64 lst] wx fun e w' =>
      (M b = true ∧ e = .returned (.int .i64 lst) ∧ w' = wx) ∨
      (M b = false ∧ e = .returned (.int .i64 b) ∧ MB w g c ws.length ((xs.set b (xs.getD b 0 + 9223372036854775808)).set (b + 1) lst) lst w' ∧ But1 g wx w') := by
  have h1 := ho.in1 b hbl
  have h2 := ho.head b hbl
  have h3 := ho.le
  have h4 := hm.lst_lt ho
  have hlen := hb.len
  cases hM : M b
  · have hc := (hm.clean ho hbl hM).1
    have := pushed_new hb.wd b lst (by omega) (by omega) (by omega)
    rw [hlen] at this
    refine this.mono ?_
    rintro e w' ⟨rfl, hw, hbt⟩
    exact .inr ⟨rfl, rfl, hb.step hw (by rw [List.length_set, List.length_set]; exact hlen) hbt, hbt⟩
  · have hc := hm.hd b hM
    have := pushed_old hb.wd b lst (by omega) (by omega)
    rw [hlen] at this
    exact this.mono fun e w' h => .inl ⟨rfl, h.1, h.2⟩
/-- The tagged words stay through the marking. -/
theorem MS.tagged {ws : List Int} {tn : Nat} {l : List Nat} {M : Nat → Bool} {c : List Nat} {xs : List Int} {lst : Nat} (h : MS ws l M c xs lst) (ho : Ob ws tn l) {a i : Nat} (ha : a ∈ l) (h1 : a + 2 ≤ i) (h2 : i < a + szN ws a) : xs.getD i 0 = ws.getD i 0 :=
  h.oth i fun b hb => by
    have h3 := ho.apart a ha b (h.sub b hb)
    have h4 := ho.in1 b (h.sub b hb)
    rcases h3 with rfl | h3 | h3
    · omega
    · omega
    · omega
theorem marks_fr {S : Nat} {ds : List Deferred} {A B : World} (h : Marks S ds A) (hf : ∀ b, S ≤ b → b < A.heap.size → B.heap[b]? = A.heap[b]?) : Marks S ds B := by
  obtain ⟨Ds, h1, h2, h3⟩ := h
  exact ⟨Ds, h1, h2, fun D hD => ⟨(h3 D hD).1, (hf D (h3 D hD).1 (Array.getElem?_eq_some_iff.1 (h3 D hD).2).1).trans (h3 D hD).2⟩⟩
theorem rk_no {S g B E : Nat} (h : B + 1 < S) : ¬ RoundK S (fun b => b < S ∧ ¬ b = g ∧ ¬ b = B + 1) E (B + 1) := by
  intro h
  rcases h with h | h | h | h
  · omega
  · omega
  · exact h.2.2 rfl
  · omega
/-- What the rounds of the list hold. -/
structure LM (ws : List Int) (l : List Nat) (rs : List Int) (w : World) (g c N : Nat) (ds : List Deferred) (M : Nat → Bool) (c' : List Nat) (xs : List Int) (lst : Nat) (wx : World) : Prop where
  ot : OT ws l rs M c' xs lst
  mb : MB w g c N xs lst wx
  mks : Marks (w.heap.size + 2) ds wx
/-- What the rounds of an object's addresses hold. -/
structure LI (ws : List Int) (l : List Nat) (rs : List Int) (w : World) (g c N : Nat) (ds : List Deferred) (M : Nat → Bool) (a : Nat) (c1 : List Nat) (WL : World) (E k : Nat) (A : World) : Prop where
  ex : ∃ M' c2 xs lst, IN ws l rs M a c1 k M' c2 xs lst ∧ MB w g c N xs lst A
  fr : ∀ b, w.heap.size + 2 ≤ b → b < WL.heap.size → A.heap[b]? = WL.heap[b]?
  sz : WL.heap.size ≤ A.heap.size
set_option maxRecDepth 100000 in
set_option maxHeartbeats 4000000 in
theorem markall_any {ws : List Int} {tn : Nat} {l : List Nat} (ho : Ob ws tn l) {w : World} {g c : Nat} (hw : Wd w g c ws) (rv : Value) (rs : List Int) (hrs : ∀ A, But1 g w A → Rd A rv rs) (hfr : Fit rs) (hall : rs.all (rightW l) = true) :
    Calls Try.prog 44 #[.slice (some ⟨g, 0, none⟩) ws.length c, rv] w fun e w' => e = .returned (.tuple #[]) ∧ (∃ xs M, Wd w' g c xs ∧ Mkd ws l M xs ∧ ∀ a, M a = true ↔ Rch ws rs a) ∧ But1 g w w' := by
  have HO := Lib.hid ho
  have HRS := Lib.hid hrs
  have HFR := Lib.hid hfr
  have HAL := Lib.hid hall
  obtain ⟨pr, cr, rfl, hmr⟩ := rd_form0 (hrs w (But1.of (Below.refl _ _)))
  have HW := Lib.hid hw
  have hgl := hw.lt
  clear ho hrs hfr hall hw
  refine calls_of_marks Try.func44 rfl ?_
  simp only [Try.ntmps44, List.size_toArray, List.length_cons, List.length_nil, Nat.reduceAdd, Nat.reduceSub, Array.replicate_succ, Array.replicate_zero, List.push_toArray, List.append_toArray, List.nil_append, List.cons_append]
  go_wp2_with fail
  generalize hw1 : World.alloc (World.alloc w _) _ = w1
  have HM1 := Lib.hid (show MB w g c ws.length ws 0 w1 by
    rw [← hw1]
    refine ⟨HW.out.keep (((Below.refl _ _).alloc (Nat.le_refl _) _).alloc (by simp) _), rfl, alloc_cell (by simp) _, ?_, ?_, But1.of (((Below.refl _ _).alloc (Nat.le_refl _) _).alloc (by simp) _), hgl⟩
    · simp
    · simp)
  clear hw1
  go_loopw [6, 7, 8, 14] (fun _ _ _ s wr => ∃ (k : Nat) (M : Nat → Bool) (c' : List Nat) (xs : List Int) (lst : Nat), s = .int .i64 k ∧ k ≤ rs.length ∧ RT ws l rs k M c' xs lst ∧ MB w g c ws.length xs lst wr) (fun _ _ _ s _ => rs.length - (intOf s).toNat)
  case atStart => exact ⟨0, _, _, _, 0, by go_num, Nat.zero_le _, RT.start ws l rs, HM1.out⟩
  case round =>
    obtain ⟨k, M, c', xs, lst, rfl, hk, hrt, hmb⟩ := hrel
    have HRT := Lib.hid hrt
    have HMB := Lib.hid hmb
    have y2 := hmb.b2
    have y4 := hmb.b4
    have z4 := hmb.f4
    by_cases hlt : k < rs.length
    · have hlz : (k : Int) < (rs.length : Int) := Int.ofNat_lt.2 hlt
      obtain ⟨b0, off, c2, hv, hcc, hmm, hcell⟩ := (HRS.out wr hmb.but).some (Nat.lt_of_le_of_lt (Nat.zero_le _) hlt)
      cases hv
      have hck := hcell k hlt
      have hxb := HFR.out k
      have HRW := Lib.hid (List.all_eq_true.1 HAL.out _ (getD_mem hlt))
      clear hrt hmb hcell hcc hmm
      have HX := Lib.hid (show rs.getD k 0 = rs.getD k 0 from rfl)
      obtain ⟨x, hx⟩ : ∃ x, rs.getD k 0 = x := ⟨_, rfl⟩
      have HXX := Lib.hid hx
      rw [hx] at hck hxb HRW
      clear hx HX
      by_cases hk0 : kindOf x = 0
      · have hkn := kind_nat hk0
        obtain ⟨b, hb⟩ : ∃ b : Nat, x / 4 = (b : Int) := ⟨(x / 4).toNat, by omega⟩
        have e1 : atV x = (b : Int) := by unfold atV; rw [if_pos hk0, hb]
        have e2 : atE x = 0 := by unfold atE; rw [if_pos hk0]
        have hbl : b ∈ l := by
          have := HRW.out
          unfold rightW at this
          simp only [Bool.and_eq_true, Bool.or_eq_true, Bool.not_eq_true', decide_eq_false_iff_not, decide_eq_true_eq] at this
          have h2 := this.2.resolve_left (fun g => g hk0)
          rwa [hb, Int.toNat_natCast] at h2
        have HK0 := Lib.hid hk0
        have HB := Lib.hid (show (x / 4).toNat = b by rw [hb, Int.toNat_natCast])
        have hwf := wfu_mk hxb
        clear hk0 hkn hb hxb
        go_wp2_with (go_at_call 52; (with_reducible refine (at_any x hwf _).mono ?_); rintro e w9 ⟨rfl, rfl⟩; rw [e1, e2])
        refine (push_any HO.out HRT.out.ms HMB.out hbl).mono ?_
        rintro e w2 (⟨hM, rfl, rfl⟩ | ⟨hM, rfl, hm2, hbt⟩)
        · have HMM := Lib.hid hM
          go_wp2_with fail
          go_roundw
          case rel => exact ⟨k + 1, M, c', xs, lst, by go_num, hlt, HRT.out.skip (fun _ => by rw [HXX.out, HB.out]; exact HMM.out), HMB.out.setList lst⟩
          case measure => exact mk_meas hlt
        · have HMM := Lib.hid hM
          have HM2 := Lib.hid hm2
          have y2 := hm2.b2
          have y4 := hm2.b4
          have z4 := hm2.f4
          clear hm2 hM
          go_wp2_with fail
          go_roundw
          case rel => exact ⟨k + 1, _, _, _, b, by go_num, hlt, HRT.out.push HO.out hlt (by rw [HXX.out]; exact HK0.out) (by rw [HXX.out]; exact HB.out) hbl HMM.out, HM2.out.setList b⟩
          case measure => exact mk_meas hlt
      · have e2 : atE x = 9 := by unfold atE; rw [if_neg hk0]
        have HK0 := Lib.hid hk0
        have hwf := wfu_mk hxb
        clear hk0 hxb
        go_wp2_with (go_at_call 52; (with_reducible refine (at_any x hwf _).mono ?_); rintro e w9 ⟨rfl, rfl⟩; rw [e2])
        go_roundw
        case rel => exact ⟨k + 1, M, c', xs, lst, by go_num, hlt, HRT.out.skip (fun h => absurd (by rw [← HXX.out]; exact h) HK0.out), HMB.out⟩
        case measure => exact mk_meas hlt
    · have hke : k = rs.length := Nat.le_antisymm hk (Nat.not_lt.1 hlt)
      subst hke
      have hlz : ¬ (rs.length : Int) < (rs.length : Int) := Int.lt_irrefl _
      have HOT := Lib.hid hrt.done
      clear hrt hmb
      go_wp2_with fail
      have HL0 := Lib.hid (show LM ws l rs w g c ws.length [] M c' xs lst wr from ⟨HOT.out, HMB.out, Marks.nil _ _⟩)
      clear y2 y4 z4 HRT HMB HOT
      refine wp_loop_ghost_k (fun N a' w' => ∃ (U9 U11 U30 U31 U32 U33 U34 U35 U36 U37 U38 U39 U40 U41 U42 U43 U44 U45 U46 U47 : Value) (ds : List Deferred), (∃ M c' xs lst, N = openN l M c' ∧ LM ws l rs w g c ws.length ds M c' xs lst w') ∧ a' = { tmps := #[Value.slice (some ⟨g, 0, none⟩) ws.length c, Value.slice pr rs.length cr, Value.pointer (some ⟨w.heap.size, 0, none⟩), undef, Value.pointer (some ⟨w.heap.size + 1, 0, none⟩), undef, u6, u7, u8, U9, undef, U11, Value.slice pr rs.length cr, Value.int .i64 rs.length, Value.int .i64 rs.length, Value.bool false, u16, u17, u18, u19, u20, u21, u22, u23, u24, u25, u26, u27, u28, u29, U30, U31, U32, U33, U34, U35, U36, U37, U38, U39, U40, U41, U42, U43, U44, U45, U46, U47], defers := ds }) (openN l M c') ?_ ?_
      · (repeat apply Exists.intro)
        exact ⟨⟨_, _, _, _, rfl, HL0.out⟩, rfl⟩
      · clear HL0
        clear M c' xs lst
        intro gk _ Wk hinv
        obtain ⟨U9, U11, U30, U31, U32, U33, U34, U35, U36, U37, U38, U39, U40, U41, U42, U43, U44, U45, U46, U47, ds, ⟨M, c', xs, lst, rfl, hl⟩, rfl⟩ := hinv
        intro J K hJ hK
        dsimp only
        have HL := Lib.hid hl
        have y2 := hl.mb.b2
        have y4 := hl.mb.b4
        have z4 := hl.mb.f4
        clear hl
        by_cases hz : lst = 0
        · subst hz
          have hc0 : c' = [] := (chn_zero HL.out.ot.ms.ch (fun a ha => (HO.out.in1 a (HL.out.ot.ms.sub a (HL.out.ot.ms.cm a ha))).1)).1 rfl
          subst hc0
          go_wp2_with fail
          refine leaves_marks (S := w.heap.size + 2) _ _ HL.out.mks ?_
          intro W' hk
          have hlt := HL.out.mb.lt
          have hgl3 := HL.out.mb.gl
          have hmb2 := HL.out.mb.kw hk (fun b hb => .inl hb)
          refine ⟨.tuple #[], by simp [results, Try.results44, go_sem], rfl, ⟨xs, hmb2.wd, M, HL.out.ot.mkd, HL.out.ot.whole⟩, hmb2.but⟩
        · have hlz : (0 : Int) < (lst : Int) := Int.ofNat_lt.2 (Nat.pos_of_ne_zero hz)
          obtain ⟨a, c1, rfl⟩ : ∃ a c1, c' = a :: c1 := by
            cases c' with
            | nil => exact absurd HL.out.ot.ms.ch hz
            | cons a c1 => exact ⟨a, c1, rfl⟩
          obtain ⟨rfl, nx, hnx, hin⟩ := HL.out.ot.pop
          have hal : lst ∈ l := HL.out.ot.ms.sub lst (HL.out.ot.ms.cm lst List.mem_cons_self)
          have HIN := Lib.hid hin
          have hi1 := HO.out.in1 lst hal
          have hle := HO.out.le
          have hln := HL.out.mb.len
          have hcf := HL.out.mb.wd.cell (i := lst + 1) (by omega)
          rw [hnx] at hcf
          have hnb := hin.ms.lst_lt HO.out
          have hmost := HO.out.most
          have haz : (lst : Int) + 1 < (ws.length : Int) := by omega
          have hHM := HL.out.ot.ms.hd lst (HL.out.ot.ms.cm lst List.mem_cons_self)
          have HHM := Lib.hid hHM
          have HI1 := Lib.hid hi1
          clear hin hnx hi1 hHM hln
          go_wp2_with (go_at_call 88; (with_reducible refine (addresses_any _ _ _ _ _).mono ?_); rintro e w9 ⟨rfl, rfl⟩)
          have HMS := Lib.hid (HL.out.mb.setList nx)
          have HKS := Lib.hid (Marks.keep HL.out.mks (K := fun b => b ≠ w.heap.size + 1) ((Kw.refl _ Wk).setCell ⟨w.heap.size + 1, 0, none⟩ (.int .i64 nx) (fun h => h rfl)) (fun D hD _ => by omega))
          obtain ⟨WS, hWS⟩ : ∃ WS, Wk.setCell ⟨w.heap.size + 1, 0, none⟩ (.int .i64 nx) = WS := ⟨_, rfl⟩
          rw [hWS] at HMS HKS
          have hszS : WS.heap.size = Wk.heap.size := by rw [← hWS]; simp
          have hWS' := hWS
          clear hWS'
          rw [hWS]
          obtain ⟨WL, hWL⟩ : ∃ WL, (WS.alloc (Obj.cells #[Value.slice (some ⟨g, 0, none⟩) ws.length c] 22)).alloc (Obj.cells #[Value.int .i64 lst] 3) = WL := ⟨_, rfl⟩
          rw [hWL]
          have hbl : Below WS.heap.size WS WL := by rw [← hWL]; exact ((Below.refl _ _).alloc (Nat.le_refl _) _).alloc (by simp) _
          have hszL : WL.heap.size = Wk.heap.size + 2 := by rw [← hWL]; simp [hszS]
          have yb : WL.cell? ⟨Wk.heap.size, 0, none⟩ = some (.slice (some ⟨g, 0, none⟩) ws.length c) := by rw [← hWL, ← hszS]; exact alloc_cell (by simp) _
          have ya : WL.cell? ⟨Wk.heap.size + 1, 0, none⟩ = some (.int .i64 lst) := by
            rw [← hWL, ← hszS]
            have := cell_newK (w := WS.alloc (Obj.cells #[Value.slice (some ⟨g, 0, none⟩) ws.length c] 22)) (cs := #[.int .i64 (lst : Int)]) (T := 3) (k := 0) rfl
            rwa [World.size_alloc] at this
          have HML := Lib.hid (HMS.out.keep hbl)
          have HKL := Lib.hid (Marks.keep HKS.out (K := fun _ => True) (Kw.all hbl) (fun _ _ _ => trivial))
          have hlw := HML.out.lt
          have hgl2 := HML.out.gl
          clear hWS hWL HMS HKS hbl y2 y4 z4 hcf
          have hlk : w.heap.size + 1 < Wk.heap.size := HL.out.mb.lt
          refine wp_rangeJ (K := fun b => b < WL.heap.size ∧ b ≠ g ∧ b ≠ w.heap.size + 1) (It := ItA ws lst (tgN ws lst)) (R := RA ws lst (tgN ws lst) g c) (N := (adrP ws lst (tgN ws lst)).length) (by rfl) (fun _ _ => enter_adrs _ _) ?hseq ?hKs ?hps
            (LI ws l rs w g c ws.length ds M lst c1 WL) ?hR ?hJ ?hIt ?h0 ?hround ?hdone
          case hseq =>
            intro W hk hs
            refine adrs_gives HO.out.fit lst (tgN ws lst) g c W (Wk.heap.size + 1) Wk.heap.size _ ?_ ?_ ⟨by omega, by omega, by omega⟩ ⟨by omega, by omega, by omega⟩ (by have := HI1.out; omega) xs (HML.out.wd.of (hk.block _ trivial HML.out.wd.lt)) HML.out.len ?_ ?_
            · exact (World.cell?_of_block (a := ⟨Wk.heap.size + 1, 0, none⟩) (hk.block _ trivial (by dsimp only; omega))).trans ya
            · exact (World.cell?_of_block (a := ⟨Wk.heap.size, 0, none⟩) (hk.block _ trivial (by dsimp only; omega))).trans yb
            · have h1 := HO.out.head lst hal
              rw [HHM.out]; omega
            · have h1 := HO.out.head lst hal
              have h2 := hT_lo (ws.getD lst 0)
              rw [HHM.out, hT_mk h1.1]; unfold tgN; omega
          case hKs => intro b hb; exact hb.1
          case hps => rintro k A args rfl; rfl
          case hR =>
            intro E k A hE hj
            obtain ⟨M', c2, xs2, lst2, hin, hmb⟩ := hj.ex
            exact ⟨xs2, hmb.wd, hmb.len, fun i h1 h2 => hin.ms.tagged HO.out hal (Nat.le_trans (loA_ge _ _ _ _) h1) (by have := HI1.out; omega)⟩
          case hJ =>
            intro E k A A' hE hj hk
            obtain ⟨M', c2, xs2, lst2, hin, hmb⟩ := hj.ex
            exact ⟨⟨M', c2, xs2, lst2, hin, hmb.kw hk fun b hb => ⟨by omega, by omega⟩⟩, fun b h1 h2 => (hk.block b ⟨by omega, by omega⟩ (Nat.lt_of_lt_of_le h2 hj.sz)).trans (hj.fr b h1 h2), Nat.le_trans hj.sz hk.size⟩
          case hIt => rintro k A A' args rfl hk; rfl
          case h0 => exact fun E => ⟨⟨M, c1, xs, nx, HIN.out, HML.out⟩, fun _ _ _ => rfl, Nat.le_refl _⟩
          case hround =>
            rintro q E k args A hE hEA hkn hj rfl
            clear hj
            have HAD := Lib.hid (HO.out.adr hal (mem_getD hkn))
            obtain ⟨pos, hpos⟩ : ∃ p, (adrP ws lst (tgN ws lst)).getD k 0 = p := ⟨_, rfl⟩
            rw [hpos] at HAD
            rw [hpos]
            have HPO := Lib.hid hpos
            have hkb := kind_nat HAD.out.1
            obtain ⟨b, hb⟩ : ∃ b : Nat, ws.getD pos 0 / 4 = (b : Int) := ⟨(ws.getD pos 0 / 4).toNat, by omega⟩
            have hbt : (ws.getD pos 0 / 4).toNat = b := by rw [hb, Int.toNat_natCast]
            have hbl : b ∈ l := by rw [← hbt]; exact HAD.out.2.1
            have HBT := Lib.hid hbt
            rw [hb]
            clear hpos hkb hbt hb
            gi_wp2
            (try refine ⟨trivial, ?_⟩)
            intro A5 hEA5 hj hit
            obtain ⟨M', c2, xs2, lst2, hin, hmb⟩ := hj.ex
            have HIN2 := Lib.hid hin
            have HMB2 := Lib.hid hmb
            have HFR2 := Lib.hid hj.fr
            have hsz5 := hj.sz
            have y2 := hmb.b2
            have y4 := hmb.b4
            have z4 := hmb.f4
            clear hj hin hmb hit
            gi_wp2
            refine ⟨trivial, rfl, CallsIn.mono (CallsIn.inRound q (callsIn_wide.2 (push_any HO.out HIN2.out.ms HMB2.out hbl))) ?_⟩
            rintro e w2 (⟨hM, rfl, rfl⟩ | ⟨hM, rfl, hm2, hb2⟩)
            · have HMM := Lib.hid hM
              gi_wp2
              refine ⟨⟨⟨M', c2, xs2, lst2, HIN2.out.skip (by rw [HPO.out, HBT.out]; exact HMM.out), HMB2.out.setList lst2⟩, fun b' h1 h2 => (Below.heap_setCell _ _ _ b' (fun e => by have e : b' = w.heap.size + 1 := e; omega)).trans (HFR2.out b' h1 h2), Nat.le_trans hsz5 (KeepsWalks.setCell _ _ _).size⟩, ?_⟩
              exact (Kw.refl _ _).setCell _ _ (fun h => rk_no (by omega) h)
            · have HMM := Lib.hid hM
              have HM2 := Lib.hid hm2
              have HB2 := Lib.hid hb2
              have y2 := hm2.b2
              have y4 := hm2.b4
              have z4 := hm2.f4
              clear hm2 hM hb2
              gi_wp2
              refine ⟨⟨⟨_, _, _, b, HIN2.out.push HO.out (HL.out.ot.ms.cm lst List.mem_cons_self) hal hkn (by rw [HPO.out]; exact HBT.out) HMM.out, HM2.out.setList b⟩, fun b' h1 h2 => (Below.heap_setCell _ _ _ b' (fun e => by have e : b' = w.heap.size + 1 := e; omega)).trans ((HB2.out.block b' (by omega) (by omega)).trans (HFR2.out b' h1 h2)), Nat.le_trans hsz5 (Nat.le_trans HB2.out.size (KeepsWalks.setCell _ _ _).size)⟩, ?_⟩
              refine (HB2.out.kw fun b' h => ?_).setCell _ _ (fun h => rk_no (by omega) h)
              rcases h with h | h | h | h
              · omega
              · omega
              · exact h.2.1
              · omega
          case hdone =>
            intro E W hE hj hD
            obtain ⟨M', c2, xs2, lst2, hin, hmb⟩ := hj.ex
            have HDN := Lib.hid (IN.done HL.out.ot hin)
            have HMK := Lib.hid (marks_fr HKL.out hj.fr)
            have HMB2 := Lib.hid hmb
            have HD := Lib.hid hD
            have HFS := Lib.hid (HKL.out.fresh (Nat.le_refl _))
            clear hj hin hmb hD
            go_wp2_with fail
            go_roundg (openN l M' c2)
            case measure => exact HDN.out.2
            case rel => exact ⟨M', c2, xs2, lst2, rfl, HDN.out.1, HMB2.out, HMK.out.cons (by omega) HD.out HFS.out⟩
end
section
open Go Go.ChangeShapes Go.WideShapes Go.ChangeAt Go.RowKit
set_option linter.unusedVariables false
set_option linter.unusedSimpArgs false
attribute [local go_sem] Oper.semAt_some
/-- What the rounds of forward hold: MB's boxes are the slice's and the free place's. -/
structure FJ (ws : List Int) (l : List Nat) (M : Nat → Bool) (w : World) (g c : Nat) (WL : World) (E k : Nat) (A : World) : Prop where
  ex : ∃ xs, FW ws l M k xs ∧ MB w g c ws.length xs (frK l M (szN ws) k) A
  sz : WL.heap.size ≤ A.heap.size
theorem fw_wrap {f : Nat} (h : f ≤ 1048576) : IntKind.u64.wrap (f : Int) = (f : Int) := by rw [u64w]; omega
theorem fw_sum {f s tn : Nat} (h : f + s ≤ tn) (h2 : tn ≤ 1048576) : IntKind.i64.wrap ((f : Int) + (s : Int)) = ((f + s : Nat) : Int) := by rw [IntWalk.i64_in _ (by omega)]; push_cast; rfl
set_option maxRecDepth 100000 in
set_option maxHeartbeats 4000000 in
theorem forward_any {ws : List Int} {tn : Nat} {l : List Nat} {M : Nat → Bool} (ho : Ob ws tn l) {xs : List Int} (hm : Mkd ws l M xs) {w : World} {g c : Nat} (hw : Wd w g c xs) :
    Calls Try.prog 50 #[.slice (some ⟨g, 0, none⟩) ws.length c, .int .i64 tn] w fun e w' => e = .returned (.int .i64 (frK l M (szN ws) l.length)) ∧ (∃ ys, Wd w' g c ys ∧ FW ws l M l.length ys) ∧ But1 g w w' := by
  have HO := Lib.hid ho
  have HF := Lib.hid (FW.start hm)
  have HW := Lib.hid hw
  have hgl := hw.lt
  have hlen := hm.len
  clear ho hm hw
  refine calls_of_marks Try.func50 rfl ?_
  simp only [Try.ntmps50, List.size_toArray, List.length_cons, List.length_nil, Nat.reduceAdd, Nat.reduceSub, Array.replicate_succ, Array.replicate_zero, List.push_toArray, List.append_toArray, List.nil_append, List.cons_append]
  go_wp2_with (go_at_call 45; (with_reducible refine (objects_any _ _ _ _ _).mono ?_); rintro e w9 ⟨rfl, rfl⟩)
  obtain ⟨w2, hw2⟩ : ∃ w2, (w.alloc (Obj.cells #[Value.slice (some ⟨g, 0, none⟩) ws.length c] 22)).alloc (Obj.cells #[Value.int .i64 1] 3) = w2 := ⟨_, rfl⟩
  have HM2 := Lib.hid (show MB w g c ws.length xs (frK l M (szN ws) 0) w2 by
    rw [← hw2]
    refine ⟨HW.out.keep (((Below.refl _ _).alloc (Nat.le_refl _) _).alloc (by simp) _), hlen, alloc_cell (by simp) _, ?_, ?_, But1.of (((Below.refl _ _).alloc (Nat.le_refl _) _).alloc (by simp) _), hgl⟩
    · show _ = some (Value.int .i64 1)
      simp
    · simp)
  have hs2 : w2.heap.size = w.heap.size + 2 := by rw [← hw2]; simp
  rw [hw2]
  clear hw2
  obtain ⟨WL, hWL⟩ : ∃ WL, (w2.alloc (Obj.cells #[Value.slice (some ⟨g, 0, none⟩) ws.length c] 22)).alloc (Obj.cells #[Value.int .i64 (tn : Int)] 3) = WL := ⟨_, rfl⟩
  rw [hWL]
  have hbl : Below w2.heap.size w2 WL := by rw [← hWL]; exact ((Below.refl _ _).alloc (Nat.le_refl _) _).alloc (by simp) _
  have hszL : WL.heap.size = w.heap.size + 4 := by rw [← hWL]; simp [hs2]
  have yb : WL.cell? ⟨w.heap.size + 2, 0, none⟩ = some (.slice (some ⟨g, 0, none⟩) ws.length c) := by rw [← hWL, ← hs2]; exact alloc_cell (by simp) _
  have ya : WL.cell? ⟨w.heap.size + 3, 0, none⟩ = some (.int .i64 tn) := by
    rw [← hWL]
    have := cell_newK (w := w2.alloc (Obj.cells #[Value.slice (some ⟨g, 0, none⟩) ws.length c] 22)) (cs := #[.int .i64 (tn : Int)]) (T := 3) (k := 0) rfl
    rwa [World.size_alloc, hs2] at this
  have HML := Lib.hid (HM2.out.keep hbl)
  clear hWL HM2 hbl
  refine wp_rangeJ (K := fun b => b < WL.heap.size ∧ b ≠ g ∧ b ≠ w.heap.size + 1) (It := ItO l) (R := RO l (szN ws) (.slice (some ⟨g, 0, none⟩) ws.length c)) (N := l.length) (by rfl) (fun _ _ => enter_objs _ _) ?hseq ?hKs ?hps
    (FJ ws l M w g c WL) ?hR ?hJ ?hIt ?h0 ?hround ?hdone
  case hseq =>
    intro W hk hs
    refine objs_gives HO.out.objs _ _ _ W (w.heap.size + 3) (w.heap.size + 2) _ ?_ ?_ ⟨by omega, by omega, by omega⟩ ⟨by omega, by omega, by omega⟩
    · exact (World.cell?_of_block (a := ⟨w.heap.size + 3, 0, none⟩) (hk.block _ trivial (by dsimp only; omega))).trans ya
    · exact (World.cell?_of_block (a := ⟨w.heap.size + 2, 0, none⟩) (hk.block _ trivial (by dsimp only; omega))).trans yb
  case hKs => intro b hb; exact hb.1
  case hps => rintro k A args rfl; rfl
  case hR =>
    intro E k A hE hj hk
    obtain ⟨ys, hfw, hmb⟩ := hj.ex
    have h1 := hfw.mk0.head HO.out (mem_getD hk)
    have h2 := HO.out.in1 _ (mem_getD hk)
    have h3 := HO.out.le
    have hr := hmb.wd.rd
    rw [hmb.len] at hr
    exact ⟨ys, hr, by rw [hmb.len]; omega, h1.2.2.2.2.1, h1.2.2.1, h1.2.2.2.1⟩
  case hJ =>
    intro E k A A' hE hj hk
    obtain ⟨ys, hfw, hmb⟩ := hj.ex
    exact ⟨⟨ys, hfw, hmb.kw hk fun b hb => ⟨by omega, by omega⟩⟩, Nat.le_trans hj.sz hk.size⟩
  case hIt => rintro k A A' args rfl hk; rfl
  case h0 => exact fun E => ⟨⟨xs, HF.out, HML.out⟩, Nat.le_refl _⟩
  case hround =>
    rintro q E k args A hE hEA hkn hj rfl
    clear hj
    have hal := mem_getD hkn
    obtain ⟨a, hak⟩ : ∃ a, l.getD k 0 = a := ⟨_, rfl⟩
    have HAK := Lib.hid hak
    rw [hak] at hal
    rw [hak]
    clear hak
    gi_wp2
    (try refine ⟨trivial, ?_⟩)
    intro A5 hEA5 hj hit
    obtain ⟨ys, hfw, hmb⟩ := hj.ex
    have HFW := Lib.hid hfw
    have HMB := Lib.hid hmb
    have hsz5 := hj.sz
    have y2 := hmb.b2
    have y4 := hmb.b4
    have z4 := hmb.f4
    have HH := Lib.hid (hfw.mk0.head HO.out hal)
    have hi1 := HO.out.in1 a hal
    have hle := HO.out.le
    have hmost := HO.out.most
    have c0 := hmb.wd.cell (i := a) (by rw [hmb.len]; omega)
    have c1 := hmb.wd.cell (i := a + 1) (by rw [hmb.len]; omega)
    have f1 := hmb.wd.frozen (a + 1)
    have haz : (a : Int) < (ws.length : Int) := by omega
    have haz1 : (a : Int) + 1 < (ws.length : Int) := by omega
    have HFK := Lib.hid (show (frK l M (szN ws) k : Nat) ≤ 1048576 by
      have h1 := frK_le (M := M) HO.out.objs k (Nat.le_of_lt hkn)
      have h2 := HO.out.objs.le k
      omega)
    obtain ⟨x, hx⟩ : ∃ x, ys.getD a 0 = x := ⟨_, rfl⟩
    have HX := Lib.hid hx
    rw [hx] at HH c0
    generalize ys.getD (a + 1) 0 = x1 at c1
    obtain ⟨fk, hfk⟩ : ∃ f, frK l M (szN ws) k = f := ⟨_, rfl⟩
    have HFKE := Lib.hid hfk
    rw [hfk] at HFK y4
    clear hj hfw hmb hit hx hfk
    cases hM : M a
    · have e1 := and_mk_lo HH.out.2.2.1 (HH.out.2.1 hM)
      have HMM := Lib.hid hM
      clear hM
      gi_wp2
      refine ⟨⟨⟨ys, HFW.out.skip (by rw [HAK.out]; exact HMM.out), ?_⟩, hsz5⟩, Kw.refl _ _⟩
      have : frK l M (szN ws) (k + 1) = frK l M (szN ws) k := by
        conv => lhs; unfold frK
        rw [HAK.out, if_neg (by rw [HMM.out]; simp)]; rfl
      rw [this]; exact HMB.out
    · have e1 := and_mk_hi (HH.out.1 hM) HH.out.2.2.2.1
      have HMM := Lib.hid hM
      clear hM
      have hwf := fw_wrap HFK.out
      gi_wp2
      have hwd : Wd (A5.setCell ⟨g, a + 1, none⟩ (.int .u64 fk)) g c (ys.set (a + 1) fk) := HMB.out.wd.set (a + 1) fk (by rw [HMB.out.len]; omega)
      have hmb6 := HMB.out.step hwd (by rw [List.length_set]; exact HMB.out.len) (But1.set g A5 (a + 1) _)
      obtain ⟨W6, hW6⟩ : ∃ W6, A5.setCell ⟨g, a + 1, none⟩ (.int .u64 (fk : Int)) = W6 := ⟨_, rfl⟩
      rw [hW6]
      rw [hW6] at hmb6 hwd
      have hk6 : Kw (fun b => b ≠ g) A5 W6 := by rw [← hW6]; exact (But1.set g A5 (a + 1) _).kw fun b hb => hb
      have HK6 := Lib.hid hk6
      have HMB6 := Lib.hid hmb6
      have HWD := Lib.hid hwd
      have HF6 := Lib.hid (show FW ws l M (k + 1) (ys.set (a + 1) fk) by
        have := HFW.out.put HO.out hkn (by rw [HAK.out]; exact HMM.out)
        rwa [HAK.out, HFKE.out] at this)
      have y2 := hmb6.b2
      have y4 := hmb6.b4
      have z4 := hmb6.f4
      rw [HFKE.out] at y4
      have HFZ := Lib.hid (show frK l M (szN ws) (k + 1) = fk + szN ws a by
        conv => lhs; unfold frK
        rw [HAK.out, HFKE.out, if_pos HMM.out])
      have HFL := Lib.hid (show fk + szN ws a ≤ tn by
        rw [← HFZ.out]
        exact Nat.le_trans (frK_le (M := M) HO.out.objs (k + 1) hkn) (HO.out.objs.le _))
      have htop := HO.out.objs.top
      have HH6 := Lib.hid (HF6.out.mk0.head HO.out hal)
      have hsum := fw_sum HFL.out htop
      have HSZ := Lib.hid (fun (wx : World) (hx : wx.heap[g]? = W6.heap[g]?) => by
        have h1 := sizeof_any _ (ys.set (a + 1) fk) a wx ((HWD.out.of hx).rd) (by rw [List.length_set, HMB.out.len]; omega) ⟨HH6.out.2.2.1, HH6.out.2.2.2.1⟩
        rw [List.length_set, HMB.out.len, HH6.out.2.2.2.2.1] at h1
        exact h1)
      clear hW6 hwd hmb6 hk6 c0 c1 f1 e1 hwf
      generalize szN ws a = s at hsum HFZ HFL HSZ HH6
      have HEND := Lib.hid (show MB w g c ws.length (ys.set (a + 1) fk) (frK l M (szN ws) (k + 1)) (W6.setCell ⟨w.heap.size + 1, 0, none⟩ (.int .i64 ((fk : Int) + (s : Int)))).drew by
        have h1 := (HMB6.out.setList (fk + s)).keep ((Below.refl _ _).drew)
        rw [HFZ.out]
        rw [show ((fk + s : Nat) : Int) = (fk : Int) + (s : Int) by push_cast; rfl] at h1
        exact h1)
      have HKW := Lib.hid (show Kw (RoundK WL.heap.size (fun b => b < WL.heap.size ∧ ¬ b = g ∧ ¬ b = w.heap.size + 1) E) A5 (W6.setCell ⟨w.heap.size + 1, 0, none⟩ (.int .i64 ((fk : Int) + (s : Int)))).drew by
        refine ((HK6.out.mono fun b h hlt => ?_).setCell _ _ (fun h => rk_no (by omega) h)).trans (Kw.all ((Below.refl _ _).drew))
        rcases h with h | h | h | h
        · omega
        · omega
        · exact h.2.1
        · omega)
      have HSE := Lib.hid (show WL.heap.size ≤ (W6.setCell ⟨w.heap.size + 1, 0, none⟩ (.int .i64 ((fk : Int) + (s : Int)))).drew.heap.size from Nat.le_trans hsz5 HKW.out.size)
      gi_region_with (refine ⟨trivial, rfl, CallsIn.mono (CallsIn.inRound q (callsIn_wide.2 (HSZ.out _ rfl))) ?_⟩; rintro e w9 ⟨rfl, rfl⟩)
      all_goals gi_wp2
      all_goals exact ⟨⟨⟨_, HF6.out, HEND.out⟩, HSE.out⟩, by have h := HKW.out; rw [hszL] at h; exact h⟩
  case hdone =>
    intro E W hE hj hD
    obtain ⟨ys, hfw, hmb⟩ := hj.ex
    have HFW := Lib.hid hfw
    have HMB := Lib.hid hmb
    have y4 := hmb.b4
    have HD := Lib.hid hD
    clear hj hfw hmb hD
    go_wp2_with fail
    refine leaves_marks (S := WL.heap.size) _ _ ⟨[WL.heap.size], rfl, by simp, fun D hm => by simp at hm; subst hm; exact ⟨Nat.le_refl _, HD.out⟩⟩ ?_
    intro W' hk
    have hmb2 := HMB.out.kw hk (fun b hb => .inl (by omega))
    exact ⟨_, results_tmp rfl _ _ _, rfl, ⟨ys, hmb2.wd, HFW.out⟩, hmb2.but⟩
end
end Go.Proofs.Ytfhjpgbnojdlkaa
