/- Layer 10: flow.Reach. -/
import Derived.Test.YtnniohimbmnapaaDoorFLive
import Derived.Test.YtnniohimbmnapaaDoorRefR
namespace Go.Proofs.YtnniohimbmnapaaDoor
open Go Go.ChangeShapes Go.WideShapes Go.RowKit
set_option linter.unusedVariables false
set_option linter.unusedSimpArgs false
attribute [local go_sem] Oper.semAt_some
/-- What the outer rounds of Reach hold. -/
structure RS (F : FuncD) (r : RestV) (iv rv : Value) (w : World) (S : Nat) (k : Nat) (out : List Bool) (work : List Nat) (wv : Value) (ds : List Deferred) (W : World) : Prop where
  box : Box10 W w.heap.size r F iv rv
  x4 : Boxed W (S + 1) 38 (.slice (some ⟨S, 0, none⟩) F.ins.length F.ins.length)
  x5 : Boxed W (S + 3) 31 wv
  bl : Blk W S (out.map Value.bool) 4
  own : OI W S wv (ints work)
  inv : RInv (grOf F) out work k
  low : Below w.heap.size w W
  mks : Marks (S + 4) ds W
  siz : S + 4 ≤ W.heap.size
  ws : w.heap.size < S
def RSX (F : FuncD) (r : RestV) (iv rv : Value) (w : World) (S : Nat) (N : Nat) (u : Value) (ds : List Deferred) (W : World) : Prop :=
  ∃ k out work wv, N = F.ins.length - k ∧ u = .int .i64 (k : Int) ∧ RS F r iv rv w S k out work wv ds W
/-- What the rounds over the ways hold. -/
structure RK (F : FuncD) (w : World) (S : Nat) (Wk WL : World) (wv0 : Value) (out0 : List Bool) (work0 : List Nat) (x E j : Nat) (wv : Value) (out : List Bool) (work : List Nat) (A : World) : Prop where
  st : ((((waysN F x).map (·.1)).take j).foldl wait1 (out0, work0)) = (out, work)
  x5 : Boxed A (S + 3) 31 wv
  bl : Blk A S (out.map Value.bool) 4
  own : OI A S wv (ints work)
  at_ : ∀ g, wv.ownBlock = some g → (g < Wk.heap.size ∧ wv0.ownBlock = some g) ∨ E ≤ g
  keep : ∀ g, g < WL.heap.size → g ≠ S → g ≠ S + 3 → (∀ g0, wv0.ownBlock = some g0 → g ≠ g0) → A.heap[g]? = WL.heap[g]?
  low : Below w.heap.size w A
  size : WL.heap.size ≤ A.heap.size
def RKX (F : FuncD) (w : World) (S : Nat) (Wk WL : World) (wv0 : Value) (out0 : List Bool) (work0 : List Nat) (x E j : Nat) (A : World) : Prop := ∃ wv out work, RK F w S Wk WL wv0 out0 work0 x E j wv out work A
theorem own_type {w : World} {B g : Nat} {v : Value} {ls : List Int} (h : OI w B v ls) (hg : v.ownBlock = some g) : ∃ cur, w.heap[g]? = some (.cells cur 3 (0, 0)) := by
  rcases h.2 with ⟨rfl, _⟩ | ⟨g', c, cur, rfl, _, hh, _⟩
  · simp [Value.ownBlock] at hg
  · simp only [Value.ownBlock, Option.some.injEq] at hg
    subst hg
    exact ⟨cur, hh⟩
theorem own_ne_blk {w : World} {B g b : Nat} {v : Value} {ls : List Int} {cs : List Value} {T : TypeId} (h : OI w B v ls) (hg : v.ownBlock = some g) (hb : Blk w b cs T) (hT : T ≠ 3) : g ≠ b := by
  rintro rfl
  obtain ⟨cur, hc⟩ := own_type h hg
  unfold Blk at hb
  rw [hc] at hb
  simp at hb
  exact hT hb.2.symm
theorem own_ne_def {w : World} {B g : Nat} {v : Value} {ls : List Int} (h : OI w B v ls) (hg : v.ownBlock = some g) : w.heap[g]? ≠ some (.deferred (some [])) := by
  obtain ⟨cur, hc⟩ := own_type h hg
  rw [hc]; simp
theorem Boxed.blk {W : World} {b : Nat} {T : TypeId} {v : Value} (h : Boxed W b T v) : Blk W b [v] T := h
def RFPost (F : FuncD) (w : World) (e : Ending) (B : World) : Prop := ∃ v out, e = .returned (.tuple #[v, .int .i64 0]) ∧ RBl B v out ∧ ReachX F out ∧ Below w.heap.size w B
set_option maxRecDepth 100000 in
set_option maxHeartbeats 16000000 in
theorem reach_yes (r : RestV) (F : FuncD) (iv rv : Value) (hs : soundB F = true) (hnn : F.ins.length ≤ 1048576) (w : World) (hU : Us w) (hI : Ii w iv F.ins) (hR : Rg w rv F.regions) :
    Calls Tryd.prog 21 #[funcV r F iv rv] w (RFPost F w) := by
  obtain ⟨p, c, rfl, hc, hm, hp⟩ := ii_form hI
  obtain ⟨p2, c2, rfl, hc2, hm2, hp2⟩ := rg_form hR
  have HSN := sound_any r F (.slice p F.ins.length c) (.slice p2 F.regions.length c2)
  unfold funcV SPost at HSN
  unfold funcV
  rw [hs] at HSN
  have HSO := Lib.hid HSN
  have HX := Lib.hid (Box10.new w r F (.slice p F.ins.length c) (.slice p2 F.regions.length c2) 27)
  have HB0 := Lib.hid (show Below w.heap.size w (w.alloc (.cells #[.string r.name, .int .i64 F.params, .int .i64 F.regs, .int .i64 r.frees, .bool r.gen, .int .i64 r.bound, .slice r.np r.nn r.nc, .slice r.cp r.cn r.cc, .slice p F.ins.length c, .slice p2 F.regions.length c2] 27)) from by ((repeat' (first | with_reducible assumption | with_reducible exact Below.refl _ _ | with_reducible refine Below.drew ?_ | with_reducible refine Below.alloc ?_ (by first | omega | (simp; omega) | (simp; done) | fail) _ | with_reducible refine Below.setCell ?_ (by first | omega | (simp; omega) | (simp; done) | fail) _ | fail)); (first | done | fail)))
  have HI := Lib.hid hI
  have HR := Lib.hid hR
  have HU := Lib.hid hU
  have HSF := Lib.hid (soundF hs)
  have hnp := HSF.out.pos
  have hmk := fun wx => mk_row (T := 38) Tryd.underlying38 infoBoolL rfl F.ins.length (by omega) (by omega) wx
  have HP0 := Lib.hid (RInv.start (G := grOf F) hnp)
  clear hp hp2 hI hR hU HSN hs
  refine calls_of_marks Tryd.func21 rfl ?_
  simp only [Tryd.ntmps21, List.size_toArray, List.length_cons, List.length_nil, Nat.reduceAdd, Nat.reduceSub, Array.replicate_succ, Array.replicate_zero, List.push_toArray, List.append_toArray, List.nil_append, List.cons_append]
  go_wp2_with (first
    | (go_at_call 15; (with_reducible refine (HSO.out _ (HU.out.keep HB0.out) (HI.out.keep HB0.out) (HR.out.keep HB0.out)).mono ?_); rintro e w9 ⟨rfl, hb9⟩; have HB9 := Lib.hid (HB0.out.trans (hb9.mono (by simp))); have HX9 := Lib.hid (HX.out.keep hb9 (by simp)); obtain ⟨x0, x1, x2, x3, x4, x5, x6, x7, x8, x9⟩ := HX9.out.all; have hl9 := World.block_lt_of_cell? _ _ x0; dsimp only at hl9; clear hb9)
    | fail)
  obtain ⟨S, hSe⟩ : ∃ S, w9.heap.size = S := ⟨_, rfl⟩
  have hW0 : RS F r (.slice p F.ins.length c) (.slice p2 F.regions.length c2) w S 0 ((List.replicate F.ins.length false).set 0 true) [0] (.slice (some ⟨S + 1 + 1, 0, none⟩) 1 1) [] ((((w9.alloc (.cells ((Array.replicate F.ins.length (.bool false)).setIfInBounds 0 (.bool true)) 4)).alloc (.cells #[.slice (some ⟨S, 0, none⟩) F.ins.length F.ins.length] 38)).alloc (.cells #[.int .i64 0] 3)).alloc (.cells #[.slice (some ⟨S + 1 + 1, 0, none⟩) 1 1] 31)) := by
    have hb : Below S w9 ((((w9.alloc (.cells ((Array.replicate F.ins.length (.bool false)).setIfInBounds 0 (.bool true)) 4)).alloc (.cells #[.slice (some ⟨S, 0, none⟩) F.ins.length F.ins.length] 38)).alloc (.cells #[.int .i64 0] 3)).alloc (.cells #[.slice (some ⟨S + 1 + 1, 0, none⟩) 1 1] 31)) := by rw [← hSe]; ((repeat' (first | with_reducible assumption | with_reducible exact Below.refl _ _ | with_reducible refine Below.drew ?_ | with_reducible refine Below.alloc ?_ (by first | omega | (simp; omega) | (simp; done) | fail) _ | with_reducible refine Below.setCell ?_ (by first | omega | (simp; omega) | (simp; done) | fail) _ | fail)); (first | done | fail))
    refine ⟨HX9.out.keep hb (by omega), ?_, ?_, ?_, ?_, HP0.out, HB9.out.trans (hb.mono (by omega)), ⟨[], rfl, List.nodup_nil, fun _ h => by cases h⟩, by simp; omega, by omega⟩
    · exact ((blk_arr (A := w9.alloc _) (b := S + 1) (l := [.slice (some ⟨S, 0, none⟩) F.ins.length F.ins.length]) (by simp [hSe]) rfl).block (Below.heap_alloc _ _ _ (by simp; omega))).block (Below.heap_alloc _ _ _ (by simp; omega))
    · exact blk_arr (l := [.slice (some ⟨S + 1 + 1, 0, none⟩) 1 1]) (by simp [hSe]) rfl
    · exact (((blk_arr (A := w9) (b := S) (l := ((List.replicate F.ins.length false).set 0 true).map Value.bool) (by simp [hSe]) (by simp [List.map_set])).block (Below.heap_alloc _ _ _ (by simp; omega))).block (Below.heap_alloc _ _ _ (by simp; omega))).block (Below.heap_alloc _ _ _ (by simp; omega))
    · exact OW.keep (own_one (w := (w9.alloc (.cells ((Array.replicate F.ins.length (.bool false)).setIfInBounds 0 (.bool true)) 4)).alloc (.cells #[.slice (some ⟨S, 0, none⟩) F.ins.length F.ins.length] 38)) (by simp [hSe]) (by simp; omega)) ((Below.refl _ _).alloc (Nat.le_refl _) _)
  rw [hSe]
  have HW0 := Lib.hid hW0
  have HSE := Lib.hid hSe
  clear hW0 hSe x0 x1 x2 x3 x4 x5 x6 x7 x8 x9 hmk hl9
  refine wp_loop_ghost_k (fun N a' w' => ∃ (U7 U18 U19 U20 U21 U22 U23 U24 U25 U26 U27 U28 U29 U30 U31 U32 U33 U34 U35 U36 U37 U38 U39 U40 U41 U42 U43 U44 U6 : Value) (ds : List Deferred), RSX F r (.slice p F.ins.length c) (.slice p2 F.regions.length c2) w S N U6 ds w' ∧ a' = { tmps := #[Value.agg #[.string r.name, .int .i64 F.params, .int .i64 F.regs, .int .i64 r.frees, .bool r.gen, .int .i64 r.bound, .slice r.np r.nn r.nc, .slice r.cp r.cn r.cc, .slice p F.ins.length c, .slice p2 F.regions.length c2], Value.pointer (some ⟨w.heap.size, 0, none⟩), Value.slice none 0 0, Value.int .i64 0, Value.pointer (some ⟨S + 1, 0, none⟩), Value.pointer (some ⟨S + 1 + 1 + 1, 0, none⟩), U6, U7, Value.agg #[.string r.name, .int .i64 F.params, .int .i64 F.regs, .int .i64 r.frees, .bool r.gen, .int .i64 r.bound, .slice r.np r.nn r.nc, .slice r.cp r.cn r.cc, .slice p F.ins.length c, .slice p2 F.regions.length c2], Value.bool true, Value.bool false, Value.pointer (some ⟨w.heap.size, 8, none⟩), Value.slice p F.ins.length c, Value.int .i64 F.ins.length, Value.slice (some ⟨S, 0, none⟩) F.ins.length F.ins.length, Value.slice (some ⟨S, 0, none⟩) F.ins.length F.ins.length, Value.pointer (some ⟨S, 0, none⟩), Value.slice (some ⟨S + 1 + 1, 0, none⟩) 1 1, U18, U19, U20, U21, U22, U23, U24, U25, U26, U27, U28, U29, U30, U31, U32, U33, U34, U35, U36, U37, U38, U39, U40, U41, U42, U43, U44], defers := ds }) F.ins.length ?_ ?_
  ·
    (repeat apply Exists.intro)
    exact ⟨⟨0, _, _, _, by omega, rfl, HW0.out⟩, rfl⟩
  · intro gk _ Wk hinv
    obtain ⟨U7, U18, U19, U20, U21, U22, U23, U24, U25, U26, U27, U28, U29, U30, U31, U32, U33, U34, U35, U36, U37, U38, U39, U40, U41, U42, U43, U44, U6, ds, hrel, rfl⟩ := hinv
    intro J K hJ hK
    obtain ⟨k, out, work, wv, rfl, rfl, hrs⟩ := hrel
    dsimp only
    have HRS := Lib.hid hrs
    have hs4 := hrs.siz
    have hsw := hrs.ws
    have hcnt := hrs.inv.cnt
    have hkl := hrs.inv.kle
    obtain ⟨pw, cw, rfl⟩ := own_form hrs.own
    rw [ints_len] at HRS
    have hwl : work.length ≤ F.ins.length := by
      have : (grOf F).n = F.ins.length := rfl
      omega
    have hc5 : Wk.cell? ⟨S + 1 + 1 + 1, 0, none⟩ = some (.slice pw work.length cw) := HRS.out.x5.cell
    clear hcnt
    by_cases hlt : k < work.length
    · have hkz : (k : Int) < (work.length : Int) := by omega
      obtain ⟨x, hx⟩ : ∃ x, work.getD k 0 = x := ⟨_, rfl⟩
      have hxn : x < F.ins.length := hrs.inv.work_lt x (by rw [← hx]; exact getD_mem hlt)
      obtain ⟨bw, ow, rfl, hcx⟩ := oi_cell HRS.out.own (by rw [ints_len]; omega) (k := k) (by rw [ints_len]; exact hlt)
      rw [ints_getD, hx] at hcx
      have HST := Lib.hid (hrs.inv.step HSF.out.gr hlt hx)
      obtain ⟨x0, x1, x2, x3, x4, x5, x6, x7, x8, x9⟩ := HRS.out.box.all
      have HEA := each_any r F (.slice p F.ins.length c) (.slice p2 F.regions.length c2) x
      unfold funcV at HEA
      have HEE := Lib.hid HEA
      have HXE := Lib.hid hx
      clear HEA hx hrs
      go_wp2_with fail
      refine wp_region_still_tail' 5 (by kernel_rfl) (by kernel_rfl) ?_
      simp only [List.take_succ_cons, List.take_zero, List.drop_succ_cons, List.drop_zero]
      repeat still_step
      refine wpStill_nil ?_
      go_wp2_with (first | (go_at_call 49; (with_reducible refine (HEE.out _).mono ?_); rintro e w9' ⟨rfl, rfl⟩) | fail)
      obtain ⟨WL, hWL⟩ : ∃ WL, ((Wk.alloc (.cells #[.string r.name, .int .i64 F.params, .int .i64 F.regs, .int .i64 r.frees, .bool r.gen, .int .i64 r.bound, .slice r.np r.nn r.nc, .slice r.cp r.cn r.cc, .slice p F.ins.length c, .slice p2 F.regions.length c2] 27)).alloc (.cells #[.int .i64 x] 3)).drew = WL := ⟨_, rfl⟩
      have hsz : WL.heap.size = Wk.heap.size + 2 := by rw [← hWL]; simp
      have hbl : Below Wk.heap.size Wk WL := by rw [← hWL]; ((repeat' (first | with_reducible assumption | with_reducible exact Below.refl _ _ | with_reducible refine Below.drew ?_ | with_reducible refine Below.alloc ?_ (by first | omega | (simp; omega) | (simp; done) | fail) _ | with_reducible refine Below.setCell ?_ (by first | omega | (simp; omega) | (simp; done) | fail) _ | fail)); (first | done | fail))
      have hbf : Box10 WL Wk.heap.size r F (.slice p F.ins.length c) (.slice p2 F.regions.length c2) := by
        rw [← hWL]
        exact (Box10.new Wk r F (.slice p F.ins.length c) (.slice p2 F.regions.length c2) 27).keep (((Below.refl _ _).alloc (Nat.le_refl _) _).drew) (by simp)
      have hba : WL.cell? ⟨Wk.heap.size + 1, 0, none⟩ = some (.int .i64 x) := by
        rw [← hWL]
        have := cell_new (w := Wk.alloc (.cells #[.string r.name, .int .i64 F.params, .int .i64 F.regs, .int .i64 r.frees, .bool r.gen, .int .i64 r.bound, .slice r.np r.nn r.nc, .slice r.cp r.cn r.cc, .slice p F.ins.length c, .slice p2 F.regions.length c2] 27)) (cs := #[.int .i64 x]) (T := 3) (k := 0) rfl
        simp only [World.size_alloc] at this
        exact this
      rw [hWL]
      have HBL := Lib.hid hbl
      have HBF := Lib.hid hbf
      have HBA := Lib.hid hba
      have hszA : Wk.heap.size + 2 ≤ WL.heap.size := by omega
      have hszB : WL.heap.size ≤ Wk.heap.size + 2 := by omega
      clear hbl hbf hba hWL hsz x0 x1 x2 x3 x4 x5 x6 x7 x8 x9 hc5 hcx
      have hlw0 : w.heap.size ≤ Wk.heap.size := by omega
      refine wp_rangeE (K := fun b => b < w.heap.size ∨ b = Wk.heap.size ∨ b = Wk.heap.size + 1) (It := ItW F x (WL.heap.size + 2)) (N := (waysD F x).length) (by rfl) (fun _ _ => enter_closure _ _) ?hseq ?hKs ?hps
        (RKX F w S Wk WL (.slice (some ⟨bw, ow, none⟩) work.length cw) out work x) ?hJ ?hIt ?h0 ?hround ?hdone
      case hseq =>
        intro W hk hs
        have h := each_gives r F _ _ x w W Wk.heap.size (Wk.heap.size + 1) (fun b => b < w.heap.size ∨ b = Wk.heap.size ∨ b = Wk.heap.size + 1) HU.out HI.out HR.out hxn ((HRS.out.low.trans (HBL.out.mono hlw0)).trans (hk.below (by omega) fun _ _ => trivial)) (fun b hb => .inl hb) (.inr (.inl rfl)) (.inr (.inr rfl)) (HBF.out.block (hk.block _ trivial (by omega))) ((World.cell?_of_block (a := ⟨Wk.heap.size + 1, 0, none⟩) (hk.block (Wk.heap.size + 1) trivial (by omega))).trans HBA.out)
        rwa [hs] at h
      case hKs => intro b hb; omega
      case hps => rintro i A args ⟨u, rfl, _⟩; rfl
      case hJ =>
        rintro E j A B hE ⟨wv, out1, work1, h⟩ hk
        have hog : ∀ g, wv.ownBlock = some g → g ≠ WL.heap.size ∧ g ≠ WL.heap.size + 1 := fun g hg => by
          rcases h.at_ g hg with h1 | h1 <;> omega
        exact ⟨wv, out1, work1, h.st, Boxed.kw h.x5 hk (by omega), h.bl.block (hk.block S (by omega) h.bl.lt), OW.kw h.own hk hog, h.at_, fun g hg h1 h2 h3 => (hk.block g (by omega) (by have := h.size; omega)).trans (h.keep g hg h1 h2 h3), h.low.trans (hk.below h.low.size fun b hb => by omega), Nat.le_trans h.size hk.size⟩
      case hIt =>
        rintro j A B args ⟨u, rfl, hu⟩ hk
        exact ⟨u, rfl, OW.kw hu hk (fun g hg => by have := OW.lt hu hg; omega)⟩
      case h0 =>
        intro E
        exact ⟨_, out, work, rfl, (HBL.out.block _ (by omega)).trans HRS.out.x5, HRS.out.bl.block (HBL.out.block _ (by omega)), HRS.out.own.keep HBL.out, fun g hg => .inl ⟨(OW.lt HRS.out.own hg).2, hg⟩, fun g _ _ _ _ => rfl, HRS.out.low.trans (HBL.out.mono hlw0), Nat.le_refl _⟩
      case hround =>
        rintro l E j args A hE hEA hjN hj ⟨u, rfl, hu⟩
        obtain ⟨tw, ws, hwN, hwD, hto, hws⟩ := HSF.out.at_ hxn hjN
        rw [hwD] at hu ⊢
        have HWN := Lib.hid hwN
        have HJN := Lib.hid hjN
        clear hj hu hwN hwD hws hjN
        gi_wp2
        (try refine ⟨trivial, ?_⟩)
        intro A5 hEA5 hj hit
        obtain ⟨wv, out1, work1, hrk⟩ := hj
        have hwl3 : j < ((waysN F x).map (·.1)).length := by rw [List.length_map, waysN_len]; exact HJN.out
        have hps : ∀ p ∈ ((waysN F x).map (·.1)).take j, p < F.ins.length := fun p hp => by
          obtain ⟨q, hq, rfl⟩ := List.mem_map.1 (List.mem_of_mem_take hp)
          exact HSF.out.gr.to_lt x hxn q hq
        have hlo : out1.length = F.ins.length := by
          have h := (wait_fold (n := F.ins.length) _ out work HRS.out.inv.len hps).1
          rw [hrk.st] at h
          exact h
        have hcn : work1.length + falses out1 = F.ins.length := by
          have h := (wait_falses (n := F.ins.length) (((waysN F x).map (·.1)).take j) out work).1
          rw [hrk.st] at h
          exact h.trans HRS.out.inv.cnt
        have hqj : ((waysN F x).map (·.1)).getD j 0 = tw := by
          have h := HWN.out
          rw [List.getD_eq_getElem?_getD, List.getElem?_eq_getElem (by rwa [List.length_map] at hwl3)] at h
          rw [List.getD_eq_getElem?_getD, List.getElem?_map, List.getElem?_eq_getElem (by rwa [List.length_map] at hwl3)]
          simp only [Option.getD_some, Option.map_some] at h ⊢
          rw [h]
        have hst := take_fold hwl3 hqj wait1 (out, work)
        rw [hrk.st] at hst
        have HSTJ := Lib.hid hst
        have hcx4 : A5.cell? ⟨S + 1, 0, none⟩ = some (.slice (some ⟨S, 0, none⟩) F.ins.length F.ins.length) := (World.cell?_of_block (a := ⟨S + 1, 0, none⟩) ((hrk.keep (S + 1) (by omega) (by omega) (by omega) (fun g hg => (own_ne_blk HRS.out.own hg (Boxed.blk HRS.out.x4) (by decide)).symm)).trans (HBL.out.block _ (by omega)))).trans HRS.out.x4.cell
        obtain ⟨d, hd⟩ : ∃ d, out1.getD tw true = d := ⟨_, rfl⟩
        have hcd := hrk.bl.bool (i := tw) (by rw [hlo]; exact hto) hd
        have hfd := hrk.bl.frozen tw
        have hblt := hrk.bl.lt
        have hto' : (tw : Int) < (F.ins.length : Int) := by omega
        have HRK := Lib.hid hrk
        clear hit hps hwl3 hqj hst
        cases d with
        | true =>
          have he : wait1 (out1, work1) tw = (out1, work1) := by unfold wait1; exact if_pos hd
          rw [he] at HSTJ
          clear he hrk hd
          gi_wp2
          exact ⟨⟨wv, out1, work1, HSTJ.out, HRK.out.x5, HRK.out.bl, HRK.out.own, HRK.out.at_, HRK.out.keep, HRK.out.low, HRK.out.size⟩, Kw.refl _ _⟩
        | false =>
          have he : wait1 (out1, work1) tw = (out1.set tw true, work1 ++ [tw]) := by unfold wait1; exact if_neg (by rw [hd]; exact Bool.false_ne_true)
          rw [he] at HSTJ
          have hf1 := falses_set out1 tw hd
          have hof := own_form hrk.own
          obtain ⟨p1, c1, rfl⟩ := hof
          rw [ints_len] at HRK
          have hcx5 : A5.cell? ⟨S + 1 + 1 + 1, 0, none⟩ = some (.slice p1 work1.length c1) := HRK.out.x5.cell
          have hfx5 := Boxed.frozen HRK.out.x5
          have hlt5 : S + 3 < A5.heap.size := Boxed.lt HRK.out.x5
          have HGS := Lib.hid (show ∀ g, (Value.slice p1 work1.length c1).ownBlock = some g → g ≠ S from fun g hg => own_ne_blk HRK.out.own hg HRK.out.bl (by decide))
          have HG3 := Lib.hid (show ∀ g, (Value.slice p1 work1.length c1).ownBlock = some g → g ≠ S + 3 from fun g hg => own_ne_blk HRK.out.own hg (Boxed.blk HRK.out.x5) (by decide))
          have HGL := Lib.hid (show ∀ g, (Value.slice p1 work1.length c1).ownBlock = some g → S ≤ g ∧ g < A5.heap.size from fun g hg => OW.lt HRK.out.own hg)
          have HOW := Lib.hid (show OI (A5.setCell ⟨S, tw, none⟩ (.bool true)) S (.slice p1 work1.length c1) (ints work1) from OW.block HRK.out.own (fun g hg => Below.heap_setCell _ _ _ g (HGS.out g hg)))
          have HX5 := Lib.hid (show Boxed (A5.setCell ⟨S, tw, none⟩ (.bool true)) (S + 3) 31 (.slice p1 work1.length c1) from (Below.heap_setCell _ _ _ (S + 3) (by dsimp only; omega)).trans HRK.out.x5)
          have hs6 : (A5.setCell ⟨S, tw, none⟩ (.bool true)).heap.size = A5.heap.size := by simp
          clear he hrk hd
          have hil : (ints work1).length = work1.length := ints_len work1
          gi_wp2_with (gi_at_builtin; refine wpListIn_app (l := l) rfl (.tmp 40) (.tmp 42) rfl Tryd.underlying31 infoInt rfl rfl (v := .slice p1 work1.length c1) (base := S) (n := (ints work1).length) (m := 1) (xs := (ints work1).map (Value.int .i64)) (news := [.int .i64 tw]) (OW.keep HOW.out ((Below.refl _ _).alloc (Nat.le_refl _) _)) rfl (src_one (by simp)) (by simp [Value.oneCell']) (by unfold maxLen; omega) (by omega) (by simp; omega) ?_; intro v' w1 hap; have HAP := Lib.hid hap; clear hap; have hb1 := HX5.out.alloc (.cells #[.int .i64 tw] 3) |>.kept HAP.out.grown (fun e => HG3.out _ e.symm rfl); have HB1 := Lib.hid hb1; have hc1' : w1.cell? ⟨S + 1 + 1 + 1, 0, none⟩ = some _ := hb1.cell; have hf1' := hb1.frozen; clear hb1; obtain ⟨pv', cv', rfl⟩ := own_form (own_apd HAP.out))
          have hoa : OI w1 S (.slice pv' (ints work1 ++ [(tw : Int)]).length cv') (ints work1 ++ [(tw : Int)]) := own_apd HAP.out
          have hwl1 : (ints work1 ++ [(tw : Int)]).length = (work1 ++ [tw]).length := by simp [ints_len]
          have hwi : ints work1 ++ [(tw : Int)] = ints (work1 ++ [tw]) := by simp [ints]
          have hat : ∀ g, (Value.slice pv' (ints work1 ++ [(tw : Int)]).length cv').ownBlock = some g → (Value.slice p1 work1.length c1).ownBlock = some g ∨ g = A5.heap.size + 1 := fun g hg => by
            rcases HAP.out.at_ with h | h
            · exact .inl (h ▸ hg)
            · rw [hg] at h
              simp only [World.size_alloc, hs6, Option.some.injEq] at h
              exact .inr h
          rw [hwl1, hwi] at hoa
          rw [hwl1] at hat
          rw [show work1.length + 1 = (work1 ++ [tw]).length from by simp]
          have hs1 := HAP.out.grown.size
          simp only [World.size_alloc, hs6] at hs1
          have HS6 := Lib.hid hs6
          obtain ⟨A6, hA6⟩ : ∃ A6, A5.setCell ⟨S, tw, none⟩ (.bool true) = A6 := ⟨_, rfl⟩
          have h56 : ∀ g, g ≠ S → A6.heap[g]? = A5.heap[g]? := fun g hg => by rw [← hA6]; exact Below.heap_setCell _ _ _ g hg
          have hgr := HAP.out.grown
          rw [hA6] at hgr hs6
          have h61 : ∀ g, g < A5.heap.size → (∀ g0, (Value.slice p1 work1.length c1).ownBlock = some g0 → g ≠ g0) → w1.heap[g]? = A6.heap[g]? := fun g hg h1 => by
            refine (hgr.block g (by simp; omega) (fun e => h1 g e.symm rfl)).trans ?_
            exact Below.heap_alloc _ _ _ (by omega)
          have hbS : w1.heap[S]? = A6.heap[S]? := h61 S hblt (fun g0 h0 e => HGS.out g0 h0 e.symm)
          have hb6 : Blk A6 S ((out1.set tw true).map Value.bool) 4 := by
            rw [← hA6, List.map_set]
            exact HRK.out.bl.set tw _
          have hkw : Kw (RoundK WL.heap.size (fun b => b < w.heap.size ∨ b = Wk.heap.size ∨ b = Wk.heap.size + 1) E) A5 (w1.setCell ⟨S + 1 + 1 + 1, 0, none⟩ (.slice pv' (work1 ++ [tw]).length cv')) := by
            have hnr : ∀ g, w.heap.size ≤ g → g < Wk.heap.size ∨ E ≤ g → ¬ RoundK WL.heap.size (fun b => b < w.heap.size ∨ b = Wk.heap.size ∨ b = Wk.heap.size + 1) E g := fun g h1 h2 hr => by
              rcases hr with h | h | h | h <;> omega
            have h1 : Kw (RoundK WL.heap.size (fun b => b < w.heap.size ∨ b = Wk.heap.size ∨ b = Wk.heap.size + 1) E) A5 A6 := by
              rw [← hA6]
              exact (Kw.refl _ A5).setCell _ _ (hnr S (by omega) (by omega))
            refine ((h1.alloc _).grown hgr (fun g hg => hnr g (by have := HGL.out g hg; omega) ?_)).setCell _ _ (hnr _ (by dsimp only; omega) (by dsimp only; omega))
            rcases HRK.out.at_ g hg with h | h
            · exact .inl h.1
            · exact .inr h
          refine ⟨⟨_, out1.set tw true, work1 ++ [tw], HSTJ.out, HB1.out.set _, ?_, ?_, ?_, ?_, ?_, ?_⟩, hkw⟩
          · exact ((hb6.block hbS)).block (Below.heap_setCell _ _ _ S (by dsimp only; omega))
          · refine OW.block hoa (fun g hg => Below.heap_setCell _ _ _ g ?_)
            rcases hat g hg with h | h
            · exact HG3.out g h
            · dsimp only; omega
          · intro g hg
            rcases hat g hg with h | h
            · exact HRK.out.at_ g h
            · exact .inr (by omega)
          · intro g hg h1 h2 h3
            refine (((Below.heap_setCell _ _ _ g (by dsimp only; omega)).trans (h61 g (by have := HRK.out.size; omega) (fun g0 h0 e => ?_))).trans (h56 g h1)).trans (HRK.out.keep g hg h1 h2 h3)
            subst e
            rcases HRK.out.at_ g h0 with h | h
            · exact h3 g h.2 rfl
            · omega
          · exact HRK.out.low.trans (hkw.below HRK.out.low.size fun b hb => .inr (.inr (.inl (.inl hb))))
          · have := hkw.size
            have := HRK.out.size
            omega
      case hdone =>
        intro E W hE hj hD
        obtain ⟨wv, out1, work1, hrk⟩ := hj
        have hfst := hrk.st
        rw [List.take_of_length_le (by rw [List.length_map, waysN_len]; exact Nat.le_refl _)] at hfst
        have HST2 := Lib.hid (show RInv (grOf F) out1 work1 (k + 1) from by
          have h := HST.out
          rw [show (grOf F).ways x = waysN F x from rfl, hfst] at h
          exact h)
        have HRK := Lib.hid hrk
        have HD := Lib.hid hD
        clear hrk hD hfst
        go_wp2_with fail
        go_roundg (F.ins.length - (k + 1))
        case measure => omega
        case rel =>
          have hkp : ∀ g, g < Wk.heap.size → g ≠ S → g ≠ S + 3 → (∀ g0, (Value.slice (some ⟨bw, ow, none⟩) work.length cw).ownBlock = some g0 → g ≠ g0) → W.heap[g]? = Wk.heap[g]? := fun g hg h1 h2 h3 => (HRK.out.keep g (by omega) h1 h2 h3).trans (HBL.out.block g hg)
          refine ⟨k + 1, out1, work1, wv, rfl, by go_num, ⟨HRS.out.box.block (hkp _ (by omega) (by omega) (by omega) (fun g hg => by have := OW.lt HRS.out.own hg; omega)), (hkp (S + 1) (by omega) (by omega) (by omega) (fun g hg => (own_ne_blk HRS.out.own hg (Boxed.blk HRS.out.x4) (by decide)).symm)).trans HRS.out.x4, HRK.out.x5, HRK.out.bl, HRK.out.own, HST2.out, HRK.out.low, ?_, by have := HRK.out.size; omega, hsw⟩⟩
          obtain ⟨Ds, hds, hnd, hD2⟩ := HRS.out.mks
          have hlD : ∀ D ∈ Ds, D < Wk.heap.size := fun D hm => (Array.getElem?_eq_some_iff.1 (hD2 D hm).2).1
          refine ⟨WL.heap.size :: Ds, by rw [hds]; rfl, List.nodup_cons.2 ⟨fun hm => by have := hlD _ hm; omega, hnd⟩, fun D hm => ?_⟩
          rcases List.mem_cons.1 hm with rfl | hm
          · exact ⟨by omega, HD.out⟩
          · obtain ⟨d1, d2⟩ := hD2 D hm
            exact ⟨d1, (hkp D (hlD D hm) (by omega) (by omega) (fun g hg e => own_ne_def HRS.out.own hg (e ▸ d2))).trans d2⟩
    · have HRD := Lib.hid (hrs.inv.done HSF.out.pos HSF.out.gr (by omega))
      have hkz : ¬ (k : Int) < (work.length : Int) := by omega
      have hlo : out.length = F.ins.length := hrs.inv.len
      have hc4 : Wk.cell? ⟨S + 1, 0, none⟩ = some (.slice (some ⟨S, 0, none⟩) F.ins.length F.ins.length) := HRS.out.x4.cell
      clear hrs
      go_wp2_with fail
      refine leaves_marks (S := S + 4) _ _ HRS.out.mks ?_
      intro W' hk
      exact ⟨_, results_tmp2 rfl _ _ _, ⟨_, out, rfl, ⟨S, by rw [hlo]; rfl, HRS.out.bl.block (hk.block S (.inl (by omega)) HRS.out.bl.lt)⟩, ⟨HRD.out.1, HRD.out.2⟩, HRS.out.low.trans (hk.below HRS.out.low.size fun b hb => .inl (by omega))⟩⟩
end Go.Proofs.YtnniohimbmnapaaDoor
