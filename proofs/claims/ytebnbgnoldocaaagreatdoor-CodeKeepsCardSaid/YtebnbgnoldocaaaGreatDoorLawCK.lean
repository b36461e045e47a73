/- Layer 8: answers are new memory, instructions stay: the walk. -/
import Derived.Test.YtebnbgnoldocaaaGreatDoorCKk
import Derived.Test.YtebnbgnoldocaaaGreatDoorCKp
import Derived.Deep.Cut
import Derived.Deep.CutBlock
import Derived.Deep.DeepCutAuto
import Derived.Deep.RegionHeld3
import Derived.Deep.AppendLies
import Derived.Lib.JoinLaws
namespace Go.Proofs.YtebnbgnoldocaaaGreatDoor
open Go Go.ChangeShapes Go.WideShapes Go.RowKit
set_option linter.unusedVariables false
set_option linter.unusedSimpArgs false
theorem lit_B {wr W w3 : World} {lits made : Obj} {row : Option Nat} (hg : W.grownBy w3 row) (hW : W.heap = ((wr.alloc lits).alloc made).heap) (hr : row = some (wr.heap.size + 1)) : w3.heap[wr.heap.size]? = some lits := by
  have h1 : W.heap[wr.heap.size]? = some lits := by
    rw [hW]
    exact (heap_alloc_old _ _ (by simp)).trans (heap_alloc_new wr _)
  refine (hg.block _ (Array.getElem?_eq_some_iff.1 h1).1 ?_).trans h1
  rw [hr]; intro e; simp only [Option.some.injEq] at e; omega
theorem lit_C {wr W w3 : World} {lits made : Obj} {row : Option Nat} (hg : W.grownBy w3 row) (hW : W.heap = ((wr.alloc made).alloc lits).heap) (hr : row = some wr.heap.size) : w3.heap[wr.heap.size + 1]? = some lits := by
  have h1 : W.heap[wr.heap.size + 1]? = some lits := by
    rw [hW]
    have := heap_alloc_new (wr.alloc made) lits
    simpa using this
  refine (hg.block _ (Array.getElem?_eq_some_iff.1 h1).1 ?_).trans h1
  rw [hr]; intro e; simp only [Option.some.injEq] at e; omega
theorem own_capM {w : World} {B g n c : Nat} {T : TypeId} {xs : List Value} (h : w.ownsRow B T 1 (.slice (some ⟨g, 0, none⟩) n c) n xs) : n ≤ c := by
  rcases h.2 with ⟨e, _⟩ | ⟨g', cap, cur, e, _, _, h1, _⟩
  · cases e
  · simp only [Value.slice.injEq] at e
    obtain ⟨_, _, rfl⟩ := e
    exact h1
theorem sl_to {P : Program} (t : TypeId) (ht : P.underlying t = some (.slice (P.elem t))) (hsz : ∀ wx, (sizeOf (P.elem t)).run P wx = .ok 1 wx) (b off n c hi : Nat) (h : hi ≤ c) :
    ∀ wx, (Instr.slice t (.slice (some ⟨b, off, none⟩) n c) none (some (.int .i64 (hi : Int))) none).run P wx = .ok (.slice (some ⟨b, off, none⟩) hi c) wx := fun wx => by
  rw [run_slice_h wx t _ n c ht .i64 (hi : Int) (by omega) (by omega), hsz]
  simp [Result.andThen, sliced, Addr.add]
theorem ones_two (a b : Int) : ∀ u ∈ (#[Value.int .i64 a, Value.int .i64 b]).toList, u.oneCell' = true := fun u hu => by
  simp at hu
  rcases hu with rfl | rfl <;> rfl
/-- Where the law stands once the instruction is copied. -/
structure CJ (w : World) (b0 bj : Nat) (ik : InsD) (lv : Value) (v5 : Value) (wx : World) (g cap : Nat) : Prop where
  low : Below w.heap.size w wx
  x : Box7 wx b0 ik lv
  j : Box7 wx bj ik (.slice (some ⟨g, 0, none⟩) ik.l.length cap)
  row : wx.ownsRow 0 3 1 (.slice (some ⟨g, 0, none⟩) (ik.l.length + 2) cap) (ik.l.length + 2) (ik.l.map (Value.int .i64) ++ [.int .i64 (-3), .int .i64 (-3)])
  was : OI wx 0 v5 ik.l
theorem Box7.off {w w' : World} {g : Nat} {i : InsD} {lv : Value} (h : Box7 w g i lv) (hb : w'.heap[g]? = w.heap[g]?) : Box7 w' g i lv :=
  have e : ∀ j, w'.cell? ⟨g, j, none⟩ = w.cell? ⟨g, j, none⟩ := fun j => World.cell?_of_block (a := ⟨g, j, none⟩) hb
  ⟨(e 0).trans h.c0, (e 1).trans h.c1, (e 2).trans h.c2, (e 3).trans h.c3, (e 4).trans h.c4, (e 5).trans h.c5, (e 6).trans h.c6⟩
theorem Box7.put {w : World} {g : Nat} {i : InsD} {lv u : Value} (h : Box7 w g i lv) : Box7 (w.setCell ⟨g, 6, none⟩ u) g i u := by
  have n : ∀ j, j ≠ 6 → (⟨g, 6, none⟩ : Addr) ≠ ⟨g, j, none⟩ := fun j hj e => by
    simp only [Addr.mk.injEq, true_and, and_true] at e
    omega
  exact ⟨(World.cell?_setCell_other _ _ _ _ (n 0 (by omega))).trans h.c0, (World.cell?_setCell_other _ _ _ _ (n 1 (by omega))).trans h.c1, (World.cell?_setCell_other _ _ _ _ (n 2 (by omega))).trans h.c2, (World.cell?_setCell_other _ _ _ _ (n 3 (by omega))).trans h.c3, (World.cell?_setCell_other _ _ _ _ (n 4 (by omega))).trans h.c4, (World.cell?_setCell_other _ _ _ _ (n 5 (by omega))).trans h.c5, World.cell?_setCell_same _ _ _ h.c6⟩
theorem ownB_block {w w' : World} {B B' n : Nat} {T : TypeId} {v : Value} {xs : List Value} (h : w.ownsRow B T 1 v n xs) (hB : B' ≤ B) (hb : ∀ g, v.ownBlock = some g → w'.heap[g]? = w.heap[g]?) : w'.ownsRow B' T 1 v n xs := by
  refine ⟨h.1, ?_⟩
  rcases h.2 with h2 | ⟨g, c, cur, rfl, h0, hg, r⟩
  · exact .inl h2
  · exact .inr ⟨g, c, cur, rfl, by omega, (hb g rfl).trans hg, r⟩
theorem CJ.mk4 {w wr w4 : World} {b0 bj : Nat} {ik : InsD} {lv lj v5 : Value} {g cap : Nat} (hbr : Below w.heap.size w wr) (hb4 : Below wr.heap.size wr w4) (hx : Box7 wr b0 ik lv) (hj : Box7 wr bj ik lj) (h5 : OI wr 0 v5 ik.l) (h5l : ∀ q, v5.ownBlock = some q → q < bj) (h0 : w.heap.size ≤ b0) (h0j : b0 < bj) (hbj : bj < wr.heap.size)
    (hown : w4.ownsRow wr.heap.size 3 1 (.slice (some ⟨g, 0, none⟩) (ik.l.length + 2) cap) (ik.l.length + 2) (ik.l.map (Value.int .i64) ++ [.int .i64 (-3), .int .i64 (-3)])) :
    CJ w b0 bj ik lv v5 (w4.setCell ⟨bj, 6, none⟩ (.slice (some ⟨g, 0, none⟩) ik.l.length cap)) g cap := by
  refine ⟨(hbr.trans (hb4.mono hbr.size)).setCell (by dsimp only; omega) _, (hx.keep hb4 (by omega)).off (Below.heap_setCell _ _ _ _ (by dsimp only; omega)), (hj.keep hb4 hbj).put, ownB_block hown (Nat.zero_le _) fun q hq => Below.heap_setCell _ _ _ _ ?_, ownB_block (OW.keep h5 hb4) (Nat.le_refl _) fun q hq => Below.heap_setCell _ _ _ _ ?_⟩
  · have := (World.ownsRow.lt hown q hq).1
    dsimp only
    omega
  · have := h5l q hq
    dsimp only
    omega
theorem six_cell (w : World) (T : TypeId) (a b c d e f : Value) : ∀ k, k < 6 → (w.alloc (.cells #[a, b, c, d, e, f] T)).cell? ⟨w.heap.size, k, none⟩ = some (six a b c d e f k) := fun k hk => by
  match k, hk with
  | 0, _ => exact cell_newB rfl rfl
  | 1, _ => exact cell_newB rfl rfl
  | 2, _ => exact cell_newB rfl rfl
  | 3, _ => exact cell_newB rfl rfl
  | 4, _ => exact cell_newB rfl rfl
  | 5, _ => exact cell_newB rfl rfl
theorem six_three (a b c : List Int) : ∀ k, k < 3 → six a b c a b c (k + 3) = six a b c a b c k := fun k hk => by
  match k, hk with
  | 0, _ => rfl
  | 1, _ => rfl
  | 2, _ => rfl
theorem six_len {a b c : List Int} {m : Nat} (ha : a.length ≤ m) (hb : b.length ≤ m) (hc : c.length ≤ m) : ∀ k, k < 6 → (six a b c a b c k).length ≤ m := fun k hk => by
  match k, hk with
  | 0, _ => exact ha
  | 1, _ => exact hb
  | 2, _ => exact hc
  | 3, _ => exact ha
  | 4, _ => exact hb
  | 5, _ => exact hc
theorem readsC_len (i : InsD) : (readsD i).length ≤ 2 + i.l.length := by
  unfold readsD
  cases doesB i.op 2 <;> cases doesB i.op 4 <;> cases doesB i.op 8 <;> simp <;> omega
theorem writesC_len (i : InsD) : (writesD i).length ≤ 2 + i.l.length := by
  unfold writesD
  cases doesB i.op 1 <;> cases doesB i.op 16 <;> simp <;> omega
theorem goesC_len (i : InsD) (x : Int) : (goesD i x).length ≤ 2 := by
  unfold goesD
  cases doesB i.op 128 <;> cases doesB i.op 32 <;> simp
theorem CJ.keep {w wx w' : World} {b0 bj g cap : Nat} {ik : InsD} {lv v5 : Value} (h : CJ w b0 bj ik lv v5 wx g cap) (hb : Below wx.heap.size wx w') : CJ w b0 bj ik lv v5 w' g cap :=
  ⟨h.low.trans (hb.mono h.low.size), h.x.keep hb (World.block_lt_of_cell? _ _ h.x.c0), h.j.keep hb (World.block_lt_of_cell? _ _ h.j.c0), ownB_block h.row (Nat.le_refl _) fun q hq => hb.block q (World.ownsRow.lt h.row q hq).2, OW.keep h.was hb⟩
/-- Rows from k on, behind the list of them. -/
structure MK (W6 : World) (bl : Nat) (U : Nat → Value) (D D' : Nat → List Int) (wx : World) : Prop where
  k6 : K6 W6.heap.size bl wx U D'
  len : ∀ j, (D' j).length = (D j).length
  cell : ∀ j, j < 6 → wx.cell? ⟨bl, j, none⟩ = some (U j)
  low : Below W6.heap.size W6 wx
theorem MK.set {W6 wx : World} {bl k g i n c : Nat} {U : Nat → Value} {D D' : Nat → List Int} (h : MK W6 bl U D D' wx) (hk : k < 6) (hu : U k = .slice (some ⟨g, 0, none⟩) n c) (hi : i < (D' k).length) (y : Int) : MK W6 bl U D (fun j => if j = k then (D' k).set i y else D' j) (wx.setCell ⟨g, i, none⟩ (.int .i64 y)) := by
  have hown := h.k6.own k hk
  rw [hu] at hown
  have hg := (World.ownsRow.lt hown g rfl).1
  have hgl := h.k6.lt k hk g (by rw [hu]; rfl)
  refine ⟨h.k6.set hk hu hi y, fun j => ?_, fun j hj => ?_, h.low.setCell hg _⟩
  · split
    · rename_i e; subst e; rw [List.length_set]; exact h.len _
    · exact h.len j
  · rw [World.cell?_setCell_other _ _ _ _ (fun e => by simp only [Addr.mk.injEq] at e; omega)]
    exact h.cell j hj
theorem MK.keep {W6 wx w' : World} {bl : Nat} {U : Nat → Value} {D D' : Nat → List Int} (h : MK W6 bl U D D' wx) (hb : Below wx.heap.size wx w') (hbl : bl < wx.heap.size) : MK W6 bl U D D' w' :=
  ⟨h.k6.keep fun g hg => hb.block g (by omega), h.len, fun j hj => below_cell hb (h.cell j hj), h.low.trans (hb.mono h.low.size)⟩
/-- What is left to be looked at. -/
structure LK (W6 : World) (bl : Nat) (U : Nat → Value) (D' : Nat → List Int) (k : Nat) (wx : World) : Prop where
  own : ∀ j, k ≤ j → j < 6 → OI wx W6.heap.size (U j) (D' j)
  cell : ∀ j, j < 6 → wx.cell? ⟨bl, j, none⟩ = some (U j)
  low : Below W6.heap.size W6 wx
theorem LK.app {W6 wx wa w' : World} {bl k n : Nat} {U : Nat → Value} {D' : Nat → List Int} {v' : Value} {xs : List Value} (h : LK W6 bl U D' k wx) (hk : k < 6) (hal : Below wx.heap.size wx wa) (hbl : bl < wx.heap.size) (hlt : ∀ q, (U k).ownBlock = some q → q < bl)
    (hdj : ∀ j, j < 6 → j ≠ k → Dj (U j) (U k)) (ha : Apd wa w' W6.heap.size 3 (U k) v' n xs) : LK W6 bl U D' (k + 1) w' := by
  have hst : ∀ q, q < wx.heap.size → (U k).ownBlock ≠ some q → w'.heap[q]? = wx.heap[q]? := fun q hq hne =>
    (ha.grown.block q (Nat.lt_of_lt_of_le hq hal.size) (fun e => hne e.symm)).trans (hal.block q hq)
  refine ⟨fun j hj hj6 => ?_, fun j hj => ?_, ?_⟩
  · refine oi_blk (h.own j (by omega) hj6) fun q hq => hst q (World.ownsRow.lt (h.own j (by omega) hj6) q hq).2 fun e => ?_
    rcases hdj j hj6 (by omega) with e1 | e1 | e1
    · rw [e1] at hq; cases hq
    · rw [e1] at e; cases e
    · rw [hq, e] at e1; exact e1 rfl
  · rw [World.cell?_of_block (w := wx) (a := ⟨bl, j, none⟩) (hst bl hbl fun e => by have := hlt bl e; omega)]
    exact h.cell j hj
  · exact (h.low.trans (hal.mono h.low.size)).grown ha.grown (Nat.le_trans h.low.size hal.size) fun q hq => (World.ownsRow.lt (h.own k (Nat.le_refl _) hk) q hq).1
theorem ones_three (a b c : Int) : ∀ u ∈ (#[Value.int .i64 a, Value.int .i64 b, Value.int .i64 c]).toList, u.oneCell' = true := fun u hu => by
  simp at hu
  rcases hu with rfl | rfl | rfl <;> rfl
theorem CJ.ri {w wx : World} {b0 bj g cap : Nat} {ik : InsD} {lv v5 : Value} (h : CJ w b0 bj ik lv v5 wx g cap) (hll : ik.l.length ≤ 17592186043904) : Ri wx (.slice (some ⟨g, 0, none⟩) ik.l.length cap) ik.l := by
  have hc := own_capM h.row
  refine .inr ⟨g, 0, cap, rfl, by omega, by omega, fun i hi => ?_⟩
  have := h.row.cells (g := g) rfl i (.int .i64 (ik.l.getD i 0)) (by
    rw [List.getElem?_append_left (by simpa using hi), List.getElem?_map, List.getD_eq_getElem?_getD, List.getElem?_eq_getElem hi]; rfl)
  rwa [addO] at this
theorem low_step {W a b : World} (h : Below W.heap.size W a) (g : Below a.heap.size a b) : Below W.heap.size W b := h.trans (g.mono h.size)
set_option maxRecDepth 100000 in
set_option maxHeartbeats 16000000 in
theorem law_ckeeps (ik : InsD) (lv : Value) (x : Int) (hx0 : -9223372036854775808 ≤ x) (hx1 : x ≤ 9223372036854775807) (w : World) (hU : Us w) (hl : Ri w lv ik.l) (hll : ik.l.length ≤ 17592186043904) :
    Calls Tryz.prog 3 #[insV ik lv, .int .i64 x] w fun e w' => e = .returned (.bool true) ∧ Below w.heap.size w w' := by
  obtain ⟨p7, c7, rfl, _, _, _⟩ := ri_form hl
  have HU := Lib.hid hU
  have HL := Lib.hid hl
  clear hU hl
  unfold insV
  go_enter Tryz.func3, Tryz.ntmps3
  go_wp2_with (first
    | (go_at_call 4; (with_reducible refine (known08 _ (HU.out.keep (by ((repeat' (first | with_reducible assumption | with_reducible exact Below.refl _ _ | with_reducible refine Below.drew ?_ | with_reducible refine Below.alloc ?_ (by first | omega | (simp; omega) | (simp; done) | fail) _ | with_reducible refine Below.setCell ?_ (by first | omega | (simp; omega) | (simp; done) | fail) _ | fail)); (first | done | fail))))).mono ?_); rintro e wA ⟨rfl, hb⟩; have HA := Lib.hid ((by ((repeat' (first | with_reducible assumption | with_reducible exact Below.refl _ _ | with_reducible refine Below.drew ?_ | with_reducible refine Below.alloc ?_ (by first | omega | (simp; omega) | (simp; done) | fail) _ | with_reducible refine Below.setCell ?_ (by first | omega | (simp; omega) | (simp; done) | fail) _ | fail)); (first | done | fail)) : Below w.heap.size w _).trans (hb.mono (by simp))); have HX := Lib.hid ((Box7.new w ik (.slice p7 ik.l.length c7) 24).keep hb (by simp)); obtain ⟨x0, x1, x2, x3, x4, x5, x6⟩ := (HX.out.keep ((Below.refl wA.heap.size wA).alloc (Nat.le_refl _) (.cells #[] 3)) (World.block_lt_of_cell? _ _ HX.out.c0)); clear hb)
    | (at_builtin; refine wpList_app rfl (.tmp 23) (.tmp 25) rfl Tryz.underlying22 infoInt rfl rfl (v := .slice (some ⟨wA.heap.size, 0, none⟩) 0 0) (base := wA.heap.size) (n := 0) (m := ik.l.length) (xs := []) (news := ik.l.map (Value.int .i64)) (own_freshAt (c := 0) rfl (by unfold maxLen; omega) (Nat.le_refl _) rfl) rfl (HL.out.keep (HA.out.alloc HA.out.size _)).src (ones_int _) (by unfold maxLen; omega) (by omega) (by simp) ?_; intro v5 w5 hap5; simp only [Nat.zero_add, List.nil_append] at hap5; have hb5 := ((Below.refl wA.heap.size wA).alloc (Nat.le_refl _) (.cells #[] 3)).grown hap5.grown (by simp) (fun g hg => (by simp [Value.ownBlock] at hg; omega)); have HB5 := Lib.hid (HA.out.trans (hb5.mono HA.out.size)); have HX5 := Lib.hid (HX.out.keep hb5 (World.block_lt_of_cell? _ _ HX.out.c0)); have HO5 := Lib.hid (show OI w5 wA.heap.size v5 ik.l from (by have := hap5.own; unfold OI OW; simpa using this)); obtain ⟨p5, c5, rfl, _, _⟩ := oi_open HO5.out; clear hap5 hb5 x0 x1 x2 x3 x4 x5 x6; obtain ⟨x0, x1, x2, x3, x4, x5, x6⟩ := HX5.out)
    | fail)
  obtain ⟨wr, hwr⟩ : ∃ wr, w5.alloc (.cells #[.int .i64 ik.op, .int .i64 ik.d, .int .i64 ik.a, .int .i64 ik.b, .int .i64 ik.t, .int .i64 ik.k, .slice p7 ik.l.length c7] 24) = wr := ⟨_, rfl⟩
  have hal : Below w5.heap.size w5 wr := by rw [← hwr]; exact (Below.refl _ _).alloc (Nat.le_refl _) _
  have HBR := Lib.hid (HB5.out.trans (hal.mono HB5.out.size))
  have HX6 := Lib.hid (HX5.out.keep hal (World.block_lt_of_cell? _ _ HX5.out.c0))
  have HJ6 := Lib.hid (show Box7 wr w5.heap.size ik (.slice p7 ik.l.length c7) by rw [← hwr]; exact Box7.new _ _ _ _)
  have HO6 := Lib.hid (HO5.out.keep hal)
  have HLR := Lib.hid (HL.out.keep HBR.out)
  have fj : wr.frozen? ⟨w5.heap.size, 6, none⟩ = false := by
    have h : wr.heap[w5.heap.size]? = some (.cells #[.int .i64 ik.op, .int .i64 ik.d, .int .i64 ik.a, .int .i64 ik.b, .int .i64 ik.t, .int .i64 ik.k, .slice p7 ik.l.length c7] 24 (0, 0)) := by rw [← hwr]; exact heap_alloc_new w5 _
    simp [World.frozen?, h]
  have hx5 := World.block_lt_of_cell? _ _ HX5.out.c0
  dsimp only at hx5
  have hne6 : (⟨w5.heap.size, 6, none⟩ : Addr) ≠ ⟨w.heap.size, 6, none⟩ := fun e => by
    simp only [Addr.mk.injEq] at e
    omega
  have hsj : w5.heap.size < wr.heap.size := by rw [← hwr]; simp
  have q6 := HX6.out.c6
  have qj6 := HJ6.out.c6
  have hw2 : IntKind.i64.wrap ((ik.l.length : Int) + 2) = ((ik.l.length + 2 : Nat) : Int) := by rw [IntWalk.i64_in _ (by omega)]; omega
  have hmk : ∀ wx : World, (Instr.makeSlice 22 (.int .i64 0) (.int .i64 ((ik.l.length : Int) + 2))).run Tryz.prog wx = .ok (.slice (some ⟨wx.heap.size, 0, none⟩) 0 (ik.l.length + 2)) (wx.alloc (.cells (madeCells #[.int .i64 0] (ik.l.length + 2)) 3)) := fun wx => by
    have := run_make_room (P := Tryz.prog) 22 3 (.int .i64 0) 8 Tryz.underlying22 infoInt rfl .i64 .i64 (ik.l.length + 2) (by omega) (by omega) wx
    rwa [show ((ik.l.length + 2 : Nat) : Int) = (ik.l.length : Int) + 2 by omega] at this
  have HMS := Lib.hid (show (madeCells #[Value.int .i64 0] (ik.l.length + 2)).size = ik.l.length + 2 by simp [size_madeCells])
  have hszI : ∀ wx, (sizeOf (Tryz.prog.elem 22)).run Tryz.prog wx = .ok 1 wx := fun wx => by kernel_rfl
  rw [hwr]
  clear hwr hal x0 x1 x2 x3 x4 x5 x6
  go_cut [] (fun wx => ∃ g cap, CJ w w.heap.size w5.heap.size ik (.slice p7 ik.l.length c7) (.slice p5 ik.l.length c5) wx g cap)
  case first =>
    go_region_held3 (fun w' => w'.cell? ⟨w.heap.size, 6, none⟩ = some (.slice p7 ik.l.length c7)) (first | go_keep | (with_reducible exact below_cell hb3 q6) | (with_reducible exact below_cell (hb3.alloc hb3.size _) q6) | (with_reducible exact below_cell hb4 q6) | (exact (World.cell?_setCell_other _ _ _ _ hne6).trans (below_cell hb4 q6)) | fail)
     (first
      | (refine step_app rfl (.tmp 32) (.tmp 34) rfl Tryz.underlying22 infoInt rfl rfl (v := .slice (some ⟨_, 0, none⟩) 0 (ik.l.length + 2)) (base := wr.heap.size) (n := 0) (xs := []) (by first | exact own_freshAt HMS.out (by unfold maxLen; omega) (by first | omega | (simp; done)) (by first | rfl | (simp; done)) | exact World.ownsRow.alloc (own_freshAt HMS.out (by unfold maxLen; omega) (by first | omega | (simp; done)) (by first | rfl | (simp; done))) _) rfl (HLR.out.src.keep (by ((repeat' (first | with_reducible assumption | with_reducible exact Below.refl _ _ | with_reducible refine Below.drew ?_ | with_reducible refine Below.alloc ?_ (by first | omega | (simp; omega) | (simp; done) | fail) _ | with_reducible refine Below.setCell ?_ (by first | omega | (simp; omega) | (simp; done) | fail) _ | fail)); (first | done | fail)))) (ones_int ik.l) (by unfold maxLen; omega) (by omega) (by first | omega | (simp; omega) | (simp; done)) ?_; intro v3 w3 hap3; rw [Nat.zero_add, List.nil_append] at hap3; have hb3 : Below wr.heap.size wr w3 := Below.trans (by ((repeat' (first | with_reducible assumption | with_reducible exact Below.refl _ _ | with_reducible refine Below.drew ?_ | with_reducible refine Below.alloc ?_ (by first | omega | (simp; omega) | (simp; done) | fail) _ | with_reducible refine Below.setCell ?_ (by first | omega | (simp; omega) | (simp; done) | fail) _ | fail)); (first | done | fail)) : Below wr.heap.size wr _) (hap3.below (by first | omega | (simp; omega) | (simp; done)) (fun g hg => by simp [Value.ownBlock] at hg; omega)); have hs3 := hb3.size; (try (have hlit := lit_B (wr := wr) (lits := .cells #[.int .i64 (-3), .int .i64 (-3)] 3 (0, 0)) hap3.grown rfl rfl)); (try (have hlit := lit_C (wr := wr) (lits := .cells #[.int .i64 (-3), .int .i64 (-3)] 3 (0, 0)) hap3.grown rfl rfl)))
      | (refine step_app rfl (.tmp 35) (.tmp 36) rfl Tryz.underlying22 infoInt rfl rfl (v := v3) (base := wr.heap.size) (n := ik.l.length) (m := 2) (xs := ik.l.map (Value.int .i64)) (news := [.int .i64 (-3), .int .i64 (-3)]) (by first | with_reducible exact hap3.own | exact World.ownsRow.alloc hap3.own _) rfl (by first | exact src_block hlit | exact src_block (heap_alloc_new w3 _)) (ones_two _ _) (by unfold maxLen; omega) (by omega) (by have := hb3.size; simp; omega) ?_; intro v4 w4 hap4; have hb4 : Below wr.heap.size wr w4 := Below.trans (by ((repeat' (first | with_reducible assumption | with_reducible exact Below.refl _ _ | with_reducible refine Below.drew ?_ | with_reducible refine Below.alloc ?_ (by first | omega | (simp; omega) | (simp; done) | fail) _ | with_reducible refine Below.setCell ?_ (by first | omega | (simp; omega) | (simp; done) | fail) _ | fail)); (first | done | fail)) : Below wr.heap.size wr _) (hap4.below (by have := hb3.size; first | omega | (simp; omega)) (fun g hg => (hap3.own.lt g hg).1)); obtain ⟨g4, c4, rfl, hg4, hlt4⟩ := hap4.own.form (by simp); have hs4 := hb4.size; have hc4 := own_capM hap4.own; have hsl := sl_to (P := Tryz.prog) 22 Tryz.underlying22 hszI g4 0 (ik.l.length + 2) c4 ik.l.length (by omega); have HAP4 := Lib.hid hap4; have y6 := below_cell hb4 qj6; have g6 := (hb4.frozen (p := ⟨w5.heap.size, 6, none⟩) hsj).trans fj; clear hap4)
      | fail)
    all_goals (go_wp2_with fail)
    all_goals go_meet
    all_goals exact ⟨g4, c4, CJ.mk4 HBR.out hb4 HX6.out HJ6.out (HO6.out.low (Nat.zero_le _)) (fun q hq => (World.ownsRow.lt HO5.out q hq).2) (Nat.le_refl _) hx5 hsj HAP4.out.own⟩
  case rest =>
    obtain ⟨g, cap, hcj⟩ := hcut
    have HCJ := Lib.hid hcj
    obtain ⟨q0, q1, q2, q3, q4, q5, q6⟩ := hcj.j
    obtain ⟨W6, rfl⟩ : ∃ W6 : World, W6 = wc := ⟨_, rfl⟩
    have HRI := Lib.hid (hcj.ri hll)
    have HU6 := Lib.hid (HU.out.keep hcj.low)
    have HRD := Lib.hid (fun (wx : World) (hb : Below W6.heap.size W6 wx) => reads_any ik (.slice (some ⟨g, 0, none⟩) ik.l.length cap) wx (HU6.out.keep hb) (HRI.out.keep hb) hll)
    have HWR := Lib.hid (fun (wx : World) (hb : Below W6.heap.size W6 wx) => writes_any ik (.slice (some ⟨g, 0, none⟩) ik.l.length cap) wx (HU6.out.keep hb) (HRI.out.keep hb) hll)
    have HGO := Lib.hid (fun (wx : World) (hb : Below W6.heap.size W6 wx) => goes_any ik (.slice (some ⟨g, 0, none⟩) ik.l.length cap) x hx0 hx1 wx (HU6.out.keep hb) (HRI.out.keep hb) hll)
    unfold insV at HRD HWR HGO
    clear hcj
    go_wp2_with fail
    go_cut [7, 8, 9] (fun a b c wx => T3 W6.heap.size wx a (readsD ik) b (writesD ik) c (goesD ik x) ∧ Below W6.heap.size W6 wx)
    case first =>
      have dq0 : W6.drew.cell? ⟨w5.heap.size, 0, none⟩ = some (.int .i64 ik.op) := q0
      have dq1 : W6.drew.cell? ⟨w5.heap.size, 1, none⟩ = some (.int .i64 ik.d) := q1
      have dq2 : W6.drew.cell? ⟨w5.heap.size, 2, none⟩ = some (.int .i64 ik.a) := q2
      have dq3 : W6.drew.cell? ⟨w5.heap.size, 3, none⟩ = some (.int .i64 ik.b) := q3
      have dq4 : W6.drew.cell? ⟨w5.heap.size, 4, none⟩ = some (.int .i64 ik.t) := q4
      have dq5 : W6.drew.cell? ⟨w5.heap.size, 5, none⟩ = some (.int .i64 ik.k) := q5
      have dq6 : W6.drew.cell? ⟨w5.heap.size, 6, none⟩ = some (.slice (some ⟨g, 0, none⟩) ik.l.length cap) := q6
      go_region_held3 (fun w' => w'.cell? ⟨w5.heap.size, 0, none⟩ = some (.int .i64 ik.op) ∧ w'.cell? ⟨w5.heap.size, 1, none⟩ = some (.int .i64 ik.d) ∧ w'.cell? ⟨w5.heap.size, 2, none⟩ = some (.int .i64 ik.a) ∧ w'.cell? ⟨w5.heap.size, 3, none⟩ = some (.int .i64 ik.b) ∧ w'.cell? ⟨w5.heap.size, 4, none⟩ = some (.int .i64 ik.t) ∧ w'.cell? ⟨w5.heap.size, 5, none⟩ = some (.int .i64 ik.k) ∧ w'.cell? ⟨w5.heap.size, 6, none⟩ = some (.slice (some ⟨g, 0, none⟩) ik.l.length cap)) (first | ((repeat' (first | assumption | apply And.intro)); done) | fail)
       (first
        | (go_at_call 5; (with_reducible refine (HRD.out _ (by first | assumption | exact (Below.refl _ _).drew)).mono ?_); rintro e wR ⟨uR, rfl, hoR, hbR⟩; have lowR := low_step (W := W6) (by first | assumption | exact (Below.refl _ _).drew) hbR; have kR0 := below_cell lowR q0; have kR1 := below_cell lowR q1; have kR2 := below_cell lowR q2; have kR3 := below_cell lowR q3; have kR4 := below_cell lowR q4; have kR5 := below_cell lowR q5; have kR6 := below_cell lowR q6)
        | (go_at_call 6; (with_reducible refine (HWR.out _ (by first | assumption | exact (Below.refl _ _).drew)).mono ?_); rintro e wW ⟨uW, rfl, hoW, hbW⟩; have lowW := low_step (W := W6) (by first | assumption | exact (Below.refl _ _).drew) hbW; have kW0 := below_cell lowW q0; have kW1 := below_cell lowW q1; have kW2 := below_cell lowW q2; have kW3 := below_cell lowW q3; have kW4 := below_cell lowW q4; have kW5 := below_cell lowW q5; have kW6 := below_cell lowW q6)
        | (go_at_call 7; (with_reducible refine (HGO.out _ (by first | assumption | exact (Below.refl _ _).drew)).mono ?_); rintro e wG ⟨uG, rfl, hoG, hbG⟩; have lowG := low_step (W := W6) (by first | assumption | exact (Below.refl _ _).drew) hbG; have kG0 := below_cell lowG q0; have kG1 := below_cell lowG q1; have kG2 := below_cell lowG q2; have kG3 := below_cell lowG q3; have kG4 := below_cell lowG q4; have kG5 := below_cell lowG q5; have kG6 := below_cell lowG q6)
        | fail)
      all_goals (go_wp2_with fail)
      all_goals go_meet
      all_goals (first | exact ⟨T3.mk3 (w0 := W6.drew) (Nat.le_refl _) hoR hbR hoW hbW hoG hbG, by assumption⟩ | exact ⟨(T3.mk3 (w0 := W6.drew) (Nat.le_refl _) hoR hbR hoG hbG hoW hbW).s23, by assumption⟩ | exact ⟨(T3.mk3 (w0 := W6.drew) (Nat.le_refl _) hoW hbW hoR hbR hoG hbG).s12, by assumption⟩ | exact ⟨((T3.mk3 (w0 := W6.drew) (Nat.le_refl _) hoW hbW hoG hbG hoR hbR).s23).s12, by assumption⟩ | exact ⟨((T3.mk3 (w0 := W6.drew) (Nat.le_refl _) hoG hbG hoR hbR hoW hbW).s12).s23, by assumption⟩ | exact ⟨(((T3.mk3 (w0 := W6.drew) (Nat.le_refl _) hoG hbG hoW hbW hoR hbR).s23).s12).s23, by assumption⟩)
    case rest =>
      obtain ⟨ht3, hb7⟩ := hcut
      have HT3 := Lib.hid ht3
      have HB7 := Lib.hid hb7
      obtain ⟨W7, rfl⟩ : ∃ W7 : World, W7 = wc := ⟨_, rfl⟩
      have r0 := below_cell hb7 q0
      have r1 := below_cell hb7 q1
      have r2 := below_cell hb7 q2
      have r3 := below_cell hb7 q3
      have r4 := below_cell hb7 q4
      have r5 := below_cell hb7 q5
      have r6 := below_cell hb7 q6
      have HRD7 := Lib.hid (fun (wx : World) (hb : Below W7.heap.size W7 wx) => HRD.out wx (low_step HB7.out hb))
      have HWR7 := Lib.hid (fun (wx : World) (hb : Below W7.heap.size W7 wx) => HWR.out wx (low_step HB7.out hb))
      have HGO7 := Lib.hid (fun (wx : World) (hb : Below W7.heap.size W7 wx) => HGO.out wx (low_step HB7.out hb))
      obtain ⟨pa, ca, rfl, _, _⟩ := oi_open ht3.oa
      obtain ⟨pb, cb, rfl, _, _⟩ := oi_open ht3.ob
      obtain ⟨pc, cc, rfl, _, _⟩ := oi_open ht3.oc
      clear ht3 hb7 q0 q1 q2 q3 q4 q5 q6
      go_wp2_with fail
      go_cut [10, 11, 12] (fun a b c wx => T3 W7.heap.size wx a (readsD ik) b (writesD ik) c (goesD ik x) ∧ Below W7.heap.size W7 wx)
      case first =>
        have dq0 : W7.drew.cell? ⟨w5.heap.size, 0, none⟩ = some (.int .i64 ik.op) := r0
        have dq1 : W7.drew.cell? ⟨w5.heap.size, 1, none⟩ = some (.int .i64 ik.d) := r1
        have dq2 : W7.drew.cell? ⟨w5.heap.size, 2, none⟩ = some (.int .i64 ik.a) := r2
        have dq3 : W7.drew.cell? ⟨w5.heap.size, 3, none⟩ = some (.int .i64 ik.b) := r3
        have dq4 : W7.drew.cell? ⟨w5.heap.size, 4, none⟩ = some (.int .i64 ik.t) := r4
        have dq5 : W7.drew.cell? ⟨w5.heap.size, 5, none⟩ = some (.int .i64 ik.k) := r5
        have dq6 : W7.drew.cell? ⟨w5.heap.size, 6, none⟩ = some (.slice (some ⟨g, 0, none⟩) ik.l.length cap) := r6
        go_region_held3 (fun w' => w'.cell? ⟨w5.heap.size, 0, none⟩ = some (.int .i64 ik.op) ∧ w'.cell? ⟨w5.heap.size, 1, none⟩ = some (.int .i64 ik.d) ∧ w'.cell? ⟨w5.heap.size, 2, none⟩ = some (.int .i64 ik.a) ∧ w'.cell? ⟨w5.heap.size, 3, none⟩ = some (.int .i64 ik.b) ∧ w'.cell? ⟨w5.heap.size, 4, none⟩ = some (.int .i64 ik.t) ∧ w'.cell? ⟨w5.heap.size, 5, none⟩ = some (.int .i64 ik.k) ∧ w'.cell? ⟨w5.heap.size, 6, none⟩ = some (.slice (some ⟨g, 0, none⟩) ik.l.length cap)) (first | ((repeat' (first | assumption | apply And.intro)); done) | fail)
         (first
          | (go_at_call 5; (with_reducible refine (HRD7.out _ (by first | assumption | exact (Below.refl _ _).drew)).mono ?_); rintro e wR ⟨uR, rfl, hoR, hbR⟩; have lowR := low_step (W := W7) (by first | assumption | exact (Below.refl _ _).drew) hbR; have kR0 := below_cell lowR r0; have kR1 := below_cell lowR r1; have kR2 := below_cell lowR r2; have kR3 := below_cell lowR r3; have kR4 := below_cell lowR r4; have kR5 := below_cell lowR r5; have kR6 := below_cell lowR r6)
          | (go_at_call 6; (with_reducible refine (HWR7.out _ (by first | assumption | exact (Below.refl _ _).drew)).mono ?_); rintro e wW ⟨uW, rfl, hoW, hbW⟩; have lowW := low_step (W := W7) (by first | assumption | exact (Below.refl _ _).drew) hbW; have kW0 := below_cell lowW r0; have kW1 := below_cell lowW r1; have kW2 := below_cell lowW r2; have kW3 := below_cell lowW r3; have kW4 := below_cell lowW r4; have kW5 := below_cell lowW r5; have kW6 := below_cell lowW r6)
          | (go_at_call 7; (with_reducible refine (HGO7.out _ (by first | assumption | exact (Below.refl _ _).drew)).mono ?_); rintro e wG ⟨uG, rfl, hoG, hbG⟩; have lowG := low_step (W := W7) (by first | assumption | exact (Below.refl _ _).drew) hbG; have kG0 := below_cell lowG r0; have kG1 := below_cell lowG r1; have kG2 := below_cell lowG r2; have kG3 := below_cell lowG r3; have kG4 := below_cell lowG r4; have kG5 := below_cell lowG r5; have kG6 := below_cell lowG r6)
          | fail)
        all_goals (go_wp2_with fail)
        all_goals go_meet
        all_goals (first | exact ⟨T3.mk3 (w0 := W7.drew) (Nat.le_refl _) hoR hbR hoW hbW hoG hbG, by assumption⟩ | exact ⟨(T3.mk3 (w0 := W7.drew) (Nat.le_refl _) hoR hbR hoG hbG hoW hbW).s23, by assumption⟩ | exact ⟨(T3.mk3 (w0 := W7.drew) (Nat.le_refl _) hoW hbW hoR hbR hoG hbG).s12, by assumption⟩ | exact ⟨((T3.mk3 (w0 := W7.drew) (Nat.le_refl _) hoW hbW hoG hbG hoR hbR).s23).s12, by assumption⟩ | exact ⟨((T3.mk3 (w0 := W7.drew) (Nat.le_refl _) hoG hbG hoR hbR hoW hbW).s12).s23, by assumption⟩ | exact ⟨(((T3.mk3 (w0 := W7.drew) (Nat.le_refl _) hoG hbG hoW hbW hoR hbR).s23).s12).s23, by assumption⟩)
      case rest =>
        obtain ⟨hu3, hb9⟩ := hcut
        have h6 := K6.of3 HT3.out hb9 (Nat.le_refl _) hu3 HB7.out.size
        have HB9 := Lib.hid (low_step HB7.out hb9)
        obtain ⟨pd, cd, rfl, _, _⟩ := oi_open hu3.oa
        obtain ⟨pe, ce, rfl, _, _⟩ := oi_open hu3.ob
        obtain ⟨pf, cf, rfl, _, _⟩ := oi_open hu3.oc
        obtain ⟨W9, rfl⟩ : ∃ W9 : World, W9 = wc := ⟨_, rfl⟩
        have hsx := six_cell W9 22 (.slice pa (readsD ik).length ca) (.slice pb (writesD ik).length cb) (.slice pc (goesD ik x).length cc) (.slice pd (readsD ik).length cd) (.slice pe (writesD ik).length ce) (.slice pf (goesD ik x).length cf)
        have hd3 := six_three (readsD ik) (writesD ik) (goesD ik x)
        have hdl := six_len (m := 2 + ik.l.length) (readsC_len ik) (writesC_len ik) (Nat.le_trans (goesC_len ik x) (by omega))
        have hal9 := (Below.refl W9.heap.size W9).alloc (Nat.le_refl _) (.cells #[.slice pa (readsD ik).length ca, .slice pb (writesD ik).length cb, .slice pc (goesD ik x).length cc, .slice pd (readsD ik).length cd, .slice pe (writesD ik).length ce, .slice pf (goesD ik x).length cf] 22)
        have hmk0 : ∃ U D, MK W6 W9.heap.size U D D (W9.alloc (.cells #[.slice pa (readsD ik).length ca, .slice pb (writesD ik).length cb, .slice pc (goesD ik x).length cc, .slice pd (readsD ik).length cd, .slice pe (writesD ik).length ce, .slice pf (goesD ik x).length cf] 22)) ∧ (∀ k, k < 3 → D (k + 3) = D k) ∧ ∀ k, k < 6 → (D k).length ≤ 2 + ik.l.length :=
          ⟨_, _, ⟨h6.keep fun g hg => hal9.block g hg, fun j => rfl, hsx, HB9.out.alloc HB9.out.size _⟩, hd3, hdl⟩
        clear hu3 hb9 h6 hsx hd3 hdl hal9 r0 r1 r2 r3 r4 r5 r6
        go_wp2_with fail
        obtain ⟨U, D, hmk0, hd3, hdl⟩ := hmk0
        obtain ⟨bl, hbl⟩ : ∃ bl, W9.heap.size = bl := ⟨_, rfl⟩
        obtain ⟨W10, hW10⟩ : ∃ W10, W9.alloc (.cells #[.slice pa (readsD ik).length ca, .slice pb (writesD ik).length cb, .slice pc (goesD ik x).length cc, .slice pd (readsD ik).length cd, .slice pe (writesD ik).length ce, .slice pf (goesD ik x).length cf] 22) = W10 := ⟨_, rfl⟩
        have HBL := Lib.hid (show bl < W10.heap.size by rw [← hW10, ← hbl]; simp)
        rw [hW10] at hmk0
        rw [hbl] at hmk0
        simp only [hW10, hbl]
        have HM := Lib.hid hmk0
        have HD3 := Lib.hid hd3
        have HDL := Lib.hid hdl
        clear hmk0 hd3 hdl hW10 hbl
        go_loopw [14] (fun s wx => ∃ k : Nat, s = .int .i64 k ∧ k ≤ 3 ∧ Below W10.heap.size W10 wx) (fun s _ => 3 - (intOf s).toNat)
        case atStart => exact ⟨0, rfl, by omega, Below.refl _ _⟩
        case round =>
          obtain ⟨k, rfl, hk, hb⟩ := hrel
          have hm := HM.out.keep hb HBL.out
          have HB10 := Lib.hid hb
          by_cases hk3 : k < 3
          · have hkz : (k : Int) < 3 := by omega
            have hz6 : (k : Int) < 6 := by omega
            obtain ⟨m, hm3⟩ : ∃ m, k + 3 = m := ⟨_, rfl⟩
            have hw3 : IntKind.i64.wrap ((k : Int) + 3) = (m : Int) := by rw [IntWalk.i64_in _ (by omega)]; omega
            have hz63 : (m : Int) < 6 := by omega
            have hz0 : (0 : Int) ≤ (k : Int) := by omega
            have hz03 : (0 : Int) ≤ (m : Int) := by omega
            have e1 := hm.cell k (by omega)
            have e2 := hm.cell (k + 3) (by omega)
            have o1 := hm.k6.own k (by omega)
            have o2 := hm.k6.own (k + 3) (by omega)
            rw [HD3.out k hk3] at o2
            rw [hm3] at e2 o2
            have hdk := HDL.out k (by omega)
            generalize U k = uk at e1 o1
            generalize U m = uk3 at e2 o2
            generalize D k = dk at o1 o2 hdk
            obtain ⟨p1, c1, rfl, _, _⟩ := oi_open o1
            obtain ⟨p2, c2, rfl, _, _⟩ := oi_open o2
            have HO1 := Lib.hid (((OW.mine o1).ri (by omega)).keep (Below.refl wr.heap.size wr).drew)
            have HO2 := Lib.hid (((OW.mine o2).ri (by omega)).keep (Below.refl wr.heap.size wr).drew)
            have de1 : wr.drew.cell? ⟨bl, k, none⟩ = some (.slice p1 dk.length c1) := e1
            have de2 : wr.drew.cell? ⟨bl, m, none⟩ = some (.slice p2 dk.length c2) := e2
            clear hb hm o1 o2 hm3
            go_wp2_with fail
            go_region_held3 (fun w' => w'.cell? ⟨bl, k, none⟩ = some (.slice p1 dk.length c1) ∧ w'.cell? ⟨bl, m, none⟩ = some (.slice p2 dk.length c2)) (first | ((repeat' (first | assumption | apply And.intro)); done) | fail)
             (first
              | (go_at_call 8; (with_reducible refine (sameints_c _ _ dk _ HO1.out HO2.out).mono ?_); rintro e w9 ⟨rfl, hb⟩; have ne1 := below_cell hb de1; have ne2 := below_cell hb de2; have HB11 := Lib.hid (low_step (HB10.out.trans ((Below.refl _ _).drew)) hb); clear hb)
              | fail)
            go_wp2_with fail
            go_roundw
            case rel => exact ⟨k + 1, by go_num, by omega, HB11.out⟩
            case measure => simp [intOf]; omega
          · have hkz : ¬ (k : Int) < 3 := by omega
            obtain ⟨W11, rfl⟩ : ∃ W11 : World, W11 = wr := ⟨_, rfl⟩
            have HM11 := Lib.hid hm
            have HBL11 := Lib.hid (Nat.lt_of_lt_of_le HBL.out hb.size)
            clear hm hb
            go_wp2_with fail
            go_loopw [15] (fun s wx => ∃ (k : Nat) (D' : Nat → List Int), s = .int .i64 k ∧ k ≤ 6 ∧ MK W6 bl U D D' wx ∧ (∀ j, j < k → ∀ m, m < (D j).length → (D' j).getD m 0 = -10 - (j : Int)) ∧ bl < wx.heap.size) (fun s _ => 6 - (intOf s).toNat)
            case atStart => exact ⟨0, D, rfl, by omega, HM11.out, fun j hj => by omega, HBL11.out⟩
            case round =>
              obtain ⟨k, D', rfl, hk, hm, hv, hbl⟩ := hrel
              have HM2 := Lib.hid hm
              have HV2 := Lib.hid hv
              have HBL2 := Lib.hid hbl
              clear hv hbl
              by_cases hk6 : k < 6
              · have hkz : (k : Int) < 6 := by omega
                have e1 := hm.cell k hk6
                obtain ⟨p1, c1, hu, _, _⟩ := oi_open (hm.k6.own k hk6)
                obtain ⟨n, hn⟩ : ∃ n, (D k).length = n := ⟨_, rfl⟩
                rw [hm.len k, hn] at hu
                rw [hu] at e1
                have hdk := HDL.out k hk6
                rw [hn] at hdk
                have HUK := Lib.hid hu
                have HN := Lib.hid hn
                have HK6 := Lib.hid hk6
                clear hm hu hn hk6
                go_wp2_with fail
                clear e1
                go_loopw [16] (fun s wx => ∃ (i : Nat) (D' : Nat → List Int), s = .int .i64 i ∧ i ≤ n ∧ MK W6 bl U D D' wx ∧ (∀ j, j < k → ∀ m, m < (D j).length → (D' j).getD m 0 = -10 - (j : Int)) ∧ (∀ m, m < i → (D' k).getD m 0 = -10 - (k : Int)) ∧ bl < wx.heap.size) (fun s _ => n - (intOf s).toNat)
                case atStart => exact ⟨0, D', rfl, Nat.zero_le _, HM2.out, HV2.out, fun m hm => by omega, HBL2.out⟩
                case round =>
                  obtain ⟨i, D2, rfl, hi, hm3, hv3, hw3, hbl3⟩ := hrel
                  have e1 := hm3.cell k HK6.out
                  rw [HUK.out] at e1
                  have HM3 := Lib.hid hm3
                  have HV3 := Lib.hid hv3
                  have HW3 := Lib.hid hw3
                  have HBL3 := Lib.hid hbl3
                  by_cases hin : i < n
                  · have hiz : (i : Int) < (n : Int) := by omega
                    obtain ⟨p2, c2, hu2, _, hg⟩ := oi_open (hm3.k6.own k HK6.out)
                    have hl2 : (D2 k).length = n := (hm3.len k).trans HN.out
                    rw [hl2] at hg
                    obtain ⟨q, hq, _, _, hcl, hfz⟩ := hg (by omega)
                    rw [HUK.out] at hu2
                    simp only [Value.slice.injEq] at hu2
                    obtain ⟨rfl, _, rfl⟩ := hu2
                    subst hq
                    have q1 := hcl i hin
                    have q2 := hfz i
                    have HST := Lib.hid (hm3.set HK6.out HUK.out (by rw [hl2]; exact hin) (-10 - (k : Int)))
                    have HL2 := Lib.hid hl2
                    generalize (D2 k).getD i 0 = y at q1
                    clear hm3 hv3 hw3 hbl3 hcl hfz hg hl2
                    go_wp2_with fail
                    go_roundw
                    case rel =>
                      refine ⟨i + 1, _, by go_num, by omega, HST.out, fun j hj m hm => ?_, fun m hm => ?_, by simpa using HBL3.out⟩
                      · rw [if_neg (by omega)]
                        exact HV3.out j hj m hm
                      · rw [if_pos rfl, List.getD_eq_getElem?_getD, List.getElem?_set]
                        by_cases e : i = m
                        · rw [if_pos e, if_pos (by rw [HL2.out]; exact hin)]; rfl
                        · rw [if_neg e, ← List.getD_eq_getElem?_getD]; exact HW3.out m (by omega)
                    case measure => simp [intOf]; omega
                  · have hiz : ¬ (i : Int) < (n : Int) := by omega
                    clear hm3 hv3 hw3 hbl3
                    go_wp2_with fail
                    go_roundw
                    case rel => exact ⟨k + 1, D2, by go_num, by have := HK6.out; omega, HM3.out, fun j hj m hm => by
                      by_cases e : j = k
                      · subst e; exact HW3.out m (by have := HN.out; omega)
                      · exact HV3.out j (by omega) m hm, HBL3.out⟩
                    case measure => have := HK6.out; simp [intOf]; omega
              · have hkz : ¬ (k : Int) < 6 := by omega
                obtain rfl : k = 6 := by omega
                have HLT := Lib.hid hm.k6.lt
                have HDJ := Lib.hid hm.k6.dj
                have HLK := Lib.hid (show LK W6 bl U D' 0 wr from ⟨fun j _ hj => hm.k6.own j hj, hm.cell, hm.low⟩)
                have HLN := Lib.hid hm.len
                clear hm
                go_wp2_with fail
                go_loopw [17] (fun s wx => ∃ k : Nat, s = .int .i64 k ∧ k ≤ 6 ∧ LK W6 bl U D' k wx ∧ bl < wx.heap.size) (fun s _ => 6 - (intOf s).toNat)
                case atStart => exact ⟨0, rfl, by omega, HLK.out, HBL2.out⟩
                case round =>
                  obtain ⟨k, rfl, hk, hlk, hbl⟩ := hrel
                  have HLK2 := Lib.hid hlk
                  have HBL4 := Lib.hid hbl
                  clear hbl
                  by_cases hk6 : k < 6
                  · have hkz : (k : Int) < 6 := by omega
                    have e1 := hlk.cell k hk6
                    have o1 := hlk.own k (Nat.le_refl _) hk6
                    obtain ⟨p1, c1, hu, _, _⟩ := oi_open o1
                    obtain ⟨n, hn⟩ : ∃ n, (D' k).length = n := ⟨_, rfl⟩
                    rw [hn] at hu
                    rw [hu] at e1 o1
                    have hdk := HDL.out k hk6
                    have hnD : (D k).length = n := (HLN.out k).symm.trans hn
                    rw [hnD] at hdk
                    have HO1 := Lib.hid (show wr.ownsRow W6.heap.size 3 1 (.slice p1 n c1) n ((D' k).map (Value.int .i64)) from by have := o1; unfold OI OW at this; rwa [hn] at this)
                    have HUK := Lib.hid hu
                    have HN := Lib.hid hn
                    have HK6 := Lib.hid hk6
                    have HVK := Lib.hid (HV2.out k hk6)
                    have hal := (Below.refl wr.heap.size wr).alloc (Nat.le_refl _) (.cells #[.int .i64 (-50), .int .i64 (-50), .int .i64 (-50)] 3)
                    have HAL := Lib.hid hal
                    have hlow := hlk.low.size
                    rw [hnD] at HVK
                    clear hlk o1 hu hn hk6 hal hnD
                    go_wp2_with (first
                      | (at_builtin; refine wpList_app rfl (.tmp 111) (.tmp 112) rfl Tryz.underlying22 infoInt rfl rfl (v := .slice p1 n c1) (base := W6.heap.size) (n := n) (m := 3) (xs := (D' k).map (Value.int .i64)) (news := [.int .i64 (-50), .int .i64 (-50), .int .i64 (-50)]) (ownB_block HO1.out (Nat.le_refl _) (fun q hq => HAL.out.block q (World.ownsRow.lt HO1.out q hq).2)) rfl (by exact src_top (by first | rfl | (simp; done))) (ones_three _ _ _) (by unfold maxLen; omega) (by omega) (by simp; omega) ?_; intro v18 w18 hap; obtain ⟨g18, c18, rfl, _, _⟩ := hap.own.form (by omega); have HAP := Lib.hid hap; clear hap)
                      | fail)
                    go_loop [19] (fun s => ∃ i : Nat, s = .int .i64 i ∧ i ≤ n) (fun s => n - (intOf s).toNat)
                    case atStart => exact ⟨0, rfl, Nat.zero_le _⟩
                    case round =>
                      obtain ⟨i, rfl, hi⟩ := hrel
                      by_cases hin : i < n
                      · have hiz : (i : Int) + 3 < (n : Int) + 3 := by omega
                        have hcl : w18.cell? ⟨g18, i, none⟩ = some (.int .i64 (-10 - (k : Int))) := by
                          have hl : i < (D' k).length := by rw [HN.out]; exact hin
                          have := HAP.out.own.cells (g := g18) rfl i (.int .i64 ((D' k).getD i 0)) (by
                            rw [List.getElem?_append_left (by simpa using hl), List.getElem?_map, List.getD_eq_getElem?_getD, List.getElem?_eq_getElem hl]; rfl)
                          rw [addO, Nat.zero_add, HVK.out i hin] at this
                          exact this
                        have ne : ((-10 - (k : Int)) != (-10 - (k : Int))) = false := by simp
                        go_wp2_with fail
                        go_round
                        case rel => exact ⟨i + 1, by go_num, by omega⟩
                        case measure => simp [intOf]; omega
                      · have hiz : ¬ (i : Int) + 3 < (n : Int) + 3 := by omega
                        go_wp2_with fail
                        go_roundw
                        case rel => exact ⟨k + 1, by go_num, by have := HK6.out; omega, HLK2.out.app HK6.out HAL.out HBL4.out (HLT.out k HK6.out) (fun j hj hjk => HDJ.out j k hj HK6.out hjk) (by rw [HUK.out]; exact HAP.out), Nat.lt_of_lt_of_le HBL4.out (Nat.le_trans HAL.out.size HAP.out.grown.size)⟩
                        case measure => have := HK6.out; simp [intOf]; omega
                  · have hkz : ¬ (k : Int) < 6 := by omega
                    have hcj := HCJ.out.keep hlk.low
                    have HCE := Lib.hid hcj
                    obtain ⟨z0, z1, z2, z3, z4, z5, z6⟩ := hcj.j
                    have y6 := hcj.x.c6
                    have hcap := own_capM hcj.row
                    have hcapz : (ik.l.length : Int) + 2 ≤ (cap : Int) := by omega
                    have s1 := hcj.row.cells (g := g) rfl ik.l.length (.int .i64 (-3)) (by rw [List.getElem?_append_right (by simp)]; simp)
                    have s2 := hcj.row.cells (g := g) rfl (ik.l.length + 1) (.int .i64 (-3)) (by rw [List.getElem?_append_right (by simp)]; simp)
                    rw [addO, Nat.zero_add] at s1 s2
                    clear hcj hlk
                    go_wp2_with (first
                      | (go_at_call 8; (with_reducible refine (sameints_c _ _ ik.l wr (HCE.out.ri hll) ((OW.mine HCE.out.was).ri (by omega))).mono ?_); rintro e w20 ⟨rfl, hb⟩; have HB20 := Lib.hid hb; have t1 := below_cell hb s1; have t2 := below_cell hb s2; have t6 := below_cell hb y6; clear hb)
                      | fail)
                    go_ret
                    exact ⟨rfl, HCE.out.low.trans (HB20.out.mono HCE.out.low.size)⟩
end Go.Proofs.YtebnbgnoldocaaaGreatDoor
