/- The law SlideKeeps. -/
import Derived.Test.YtfhjpgbnojdlkaaPGLawSc
import Derived.Test.YtfhjpgbnojdlkaaPGApRows
namespace Go.Proofs.Ytfhjpgbnojdlkaa
open Go Go.ChangeShapes Go.WideShapes Go.ChangeAt Go.RowKit
set_option linter.unusedVariables false
set_option linter.unusedSimpArgs false
/-- What Reach answers: the list and the error. -/
def RS (ws : List Int) (top : Int) (rs : List Int) (L : List Nat) (E : Int) : Prop :=
  (rootsB ws top rs = false ∧ L = [] ∧ E = 3) ∨ (rootsB ws top rs = true ∧ E = 0 ∧ ∃ M, (∀ a, M a = true ↔ Rch ws rs a) ∧ L = (objList ws top).filter M)
theorem RS.unique {ws : List Int} {top : Int} {rs : List Int} {L L' : List Nat} {E E' : Int} (h : RS ws top rs L E) (k : RS ws top rs L' E') : L' = L ∧ E' = E := by
  rcases h with ⟨h1, h2, h3⟩ | ⟨h1, h2, M, hM, h3⟩
  · rcases k with ⟨k1, k2, k3⟩ | ⟨k1, _⟩
    · exact ⟨k2.trans h2.symm, k3.trans h3.symm⟩
    · rw [h1] at k1; cases k1
  · rcases k with ⟨k1, _⟩ | ⟨k1, k2, N, hN, k3⟩
    · rw [h1] at k1; cases k1
    · have : N = M := by
        funext a
        rw [Bool.eq_iff_iff, hN, hM]
      subst this
      exact ⟨k3.trans h3.symm, k2.trans h2.symm⟩
theorem RS.len {ws : List Int} {top : Int} {rs : List Int} {L : List Nat} {E : Int} (h : RS ws top rs L E) : L.length ≤ 1048576 := by
  rcases h with ⟨_, rfl, _⟩ | ⟨_, _, M, _, rfl⟩
  · simp
  · have := objs_len ws top
    have := List.length_filter_le M (objList ws top)
    omega
theorem RS.pos {ws : List Int} {top : Int} {rs : List Int} {L : List Nat} {E : Int} (h : RS ws top rs L E) (hf : Fit ws) {a : Nat} (ha : a ∈ L) : 1 ≤ a := by
  rcases h with ⟨_, rfl, _⟩ | ⟨h1, _, M, _, rfl⟩
  · simp at ha
  · obtain ⟨_, _, tn, rfl, _, _, ho, _⟩ := roots_split h1 hf
    exact (ho.in1 a (List.mem_filter.1 ha).1).1
def RePostG (ws : List Int) (top : Int) (rs : List Int) (w : World) (e : Ending) (w' : World) : Prop :=
  ∃ u L E, e = .returned (.tuple #[u, .int .i64 E]) ∧ OW .i64 3 w' w.heap.size u (L.map fun n : Nat => (n : Int)) ∧ Below w.heap.size w w' ∧ RS ws top rs L E
theorem sreach_gen (v : Value) (ws : List Int) (top : Int) (rv : Value) (rs : List Int) (w : World) (hr : Rd w v ws) (hf : Fit ws) (ht : -9223372036854775808 ≤ top ∧ top ≤ 9223372036854775807) (hrr : Rd w rv rs) (hfr : Fit rs) :
    Calls Try.prog 12 #[.agg #[v, .int .i64 top], rv] w (RePostG ws top rs w) := by
  cases h : rootsB ws top rs
  · refine (sreach_bad v ws top rv rs w hr hf ht hrr hfr h).mono ?_
    rintro e w' ⟨rfl, hb⟩
    exact ⟨_, [], 3, rfl, OW.nil _ _, hb, .inl ⟨h, rfl, rfl⟩⟩
  · refine (sreach_good v ws top rv rs w hr hf ht hrr hfr h).mono ?_
    rintro e w' ⟨u, M, rfl, hM, hu, hb⟩
    exact ⟨_, _, 0, rfl, hu, hb, .inr ⟨h, rfl, M, hM, rfl⟩⟩
theorem rd_room14 {w : World} {g : Nat} {ls : List Int} (h : LU w g (roomL ls)) (hm : ls.length ≤ 17592186043904) : Rd w (.slice (some ⟨g, 0, none⟩) ls.length (ls.length + 6)) ls :=
  .inr ⟨g, 0, _, rfl, by omega, hm, fun i hi => by
    rw [Nat.zero_add, LR.cell h (by rw [roomL_len]; omega), roomL_lo hi]⟩
/-- The list while -1 is written into it. -/
def mOne (L : List Nat) (i : Nat) : List Int := List.replicate i (-1) ++ (L.drop i).map fun n : Nat => (n : Int)
theorem mOne_len {L : List Nat} {i : Nat} (h : i ≤ L.length) : (mOne L i).length = L.length := by unfold mOne; simp; omega
theorem mOne_zero (L : List Nat) : mOne L 0 = L.map fun n : Nat => (n : Int) := by unfold mOne; simp
theorem mOne_set {L : List Nat} {i : Nat} (h : i < L.length) : (mOne L i).set i (-1) = mOne L (i + 1) := by
  unfold mOne
  rw [List.set_append_right _ _ (by simp), List.length_replicate, Nat.sub_self]
  have : L.drop i = L[i] :: L.drop (i + 1) := List.drop_eq_getElem_cons h
  rw [this, List.map_cons, List.set_cons_zero, List.replicate_succ', List.append_assoc]
  rfl
theorem mOne_all (L : List Nat) : mOne L L.length = List.replicate L.length (-1) := by unfold mOne; simp
/-- One more is written. -/
theorem ow_store {w : World} {B g c i : Nat} {ys : List Int} (h : OW .i64 3 w B (.slice (some ⟨g, 0, none⟩) ys.length c) ys) (x : Int) : OW .i64 3 (w.setCell ⟨g, i, none⟩ (.int .i64 x)) B (.slice (some ⟨g, 0, none⟩) ys.length c) (ys.set i x) := by
  have h2 := (World.ownsRow.stored (g := g) h i (.int .i64 x)).1
  unfold OW
  rw [List.length_set, List.map_set]
  exact h2
theorem k_meas {i n : Nat} (h : i < n) : n - (intOf (Value.int .i64 ((i : Int) + 1))).toNat < n - (intOf (Value.int .i64 (i : Int))).toNat := mk_meas h
theorem ow_cell {w : World} {B i : Nat} {u : Value} {ys : List Int} (h : OW .i64 3 w B u ys) (hi : i < ys.length) : ∃ g c, u = .slice (some ⟨g, 0, none⟩) ys.length c ∧ B ≤ g ∧ g < w.heap.size ∧ w.cell? ⟨g, i, none⟩ = some (.int .i64 (ys.getD i 0)) ∧ w.frozen? ⟨g, i, none⟩ = false := by
  rcases h.2 with ⟨e, e2⟩ | ⟨g, cap, cur, e, hg, hgb, _⟩
  · omega
  · refine ⟨g, cap, e, hg, (Array.getElem?_eq_some_iff.1 hgb).1, ?_, ?_⟩
    · have h0 := h
      unfold OW at h0
      rw [e] at h0
      rw [World.ownsRow.cellAt (g := g) h0 i (by omega), List.getElem?_map, List.getElem?_eq_getElem hi, List.getD_eq_getElem?_getD, List.getElem?_eq_getElem hi]
      rfl
    · simp [World.frozen?, hgb]
theorem wr_lu {w : World} {g i : Nat} {ws : List Int} (h : LU w g ws) (hi : i < ws.length) : Wr w g i := ⟨by rw [LR.cell h hi]; rfl, LR.frozen h i⟩
theorem rowW_lu {w : World} {g S0 n : Nat} {ws : List Int} (h : LU w g ws) (hn : n ≤ ws.length) (hS : S0 ≤ g) (hm : n ≤ 8796093022208) : RowW w S0 (.slice (some ⟨g, 0, none⟩) n ws.length) :=
  .inr ⟨g, 0, n, ws.length, rfl, hn, hS, fun j hj => by rw [Nat.zero_add]; exact wr_lu h hj, hm⟩
theorem rowW_wd {w : World} {g S0 c : Nat} {ws : List Int} (h : Wd w g c ws) (hS : S0 ≤ g) (hm : ws.length ≤ 8796093022208) : RowW w S0 (.slice (some ⟨g, 0, none⟩) ws.length c) := by
  obtain ⟨f, h1, h2⟩ := h.row
  exact .inr ⟨g, 0, ws.length, c, rfl, h.le, hS, fun j hj => by rw [Nat.zero_add]; exact ⟨by rw [h1.cell hj]; rfl, h.frozen j⟩, hm⟩
theorem rng_block {b' o' n c b o : Nat} (h : Rng (.slice (some ⟨b', o', none⟩) n c) b o) : b = b' := by
  obtain ⟨off, n', c', e, _⟩ := h
  simp only [Value.slice.injEq, Option.some.injEq, Addr.mk.injEq, and_true] at e
  exact e.1.1.symm
theorem rows3 {w : World} {S0 b1 b2 b3 n1 n2 n3 c1 c2 c3 : Nat} (h1 : RowW w S0 (.slice (some ⟨b1, 0, none⟩) n1 c1)) (h2 : RowW w S0 (.slice (some ⟨b2, 0, none⟩) n2 c2)) (h3 : RowW w S0 (.slice (some ⟨b3, 0, none⟩) n3 c3)) (d12 : b1 ≠ b2) (d13 : b1 ≠ b3) (d23 : b2 ≠ b3) :
    RowsA w S0 [.slice (some ⟨b1, 0, none⟩) n1 c1, .slice (some ⟨b2, 0, none⟩) n2 c2, .slice (some ⟨b3, 0, none⟩) n3 c3] := by
  refine ⟨fun i hi => ?_, fun i j b o hi hj hr hs => ?_⟩
  · match i, hi with
    | 0, _ => exact h1
    | 1, _ => exact h2
    | 2, _ => exact h3
  · match i, j, hi, hj with
    | 0, 0, _, _ => rfl
    | 1, 1, _, _ => rfl
    | 2, 2, _, _ => rfl
    | 0, 1, _, _ => exact absurd ((rng_block hr).symm.trans (rng_block hs)) d12
    | 0, 2, _, _ => exact absurd ((rng_block hr).symm.trans (rng_block hs)) d13
    | 1, 0, _, _ => exact absurd ((rng_block hs).symm.trans (rng_block hr)) d12
    | 1, 2, _, _ => exact absurd ((rng_block hr).symm.trans (rng_block hs)) d23
    | 2, 0, _, _ => exact absurd ((rng_block hs).symm.trans (rng_block hr)) d13
    | 2, 1, _, _ => exact absurd ((rng_block hs).symm.trans (rng_block hr)) d23
theorem three_max : 3 ≤ maxLen := by unfold maxLen; omega
theorem three_mill : 3 ≤ 4194304 := by omega
set_option maxRecDepth 100000 in
theorem apart3 {w : World} {S0 b1 b2 b3 n1 n2 n3 c1 c2 c3 : Nat} {vs : List Value} (hv : vs = [.slice (some ⟨b1, 0, none⟩) n1 c1, .slice (some ⟨b2, 0, none⟩) n2 c2, .slice (some ⟨b3, 0, none⟩) n3 c3])
    (h1 : RowW w S0 (.slice (some ⟨b1, 0, none⟩) n1 c1)) (h2 : RowW w S0 (.slice (some ⟨b2, 0, none⟩) n2 c2)) (h3 : RowW w S0 (.slice (some ⟨b3, 0, none⟩) n3 c3)) (d12 : b1 ≠ b2) (d13 : b1 ≠ b3) (d23 : b2 ≠ b3)
    (l1 : b1 < w.heap.size) (l2 : b2 < w.heap.size) (l3 : b3 < w.heap.size) (hS : S0 ≤ w.heap.size) :
    Calls Try.prog 28 #[.slice (some ⟨w.heap.size, 0, none⟩) 3 3] (w.alloc (.cells #[.slice (some ⟨b1, 0, none⟩) n1 c1, .slice (some ⟨b2, 0, none⟩) n2 c2, .slice (some ⟨b3, 0, none⟩) n3 c3] 22)) fun e w' => e = .returned (.bool true) ∧ Below S0 (w.alloc (.cells #[.slice (some ⟨b1, 0, none⟩) n1 c1, .slice (some ⟨b2, 0, none⟩) n2 c2, .slice (some ⟨b3, 0, none⟩) n3 c3] 22)) w' := by
  have hb : Below w.heap.size w (w.alloc (.cells #[.slice (some ⟨b1, 0, none⟩) n1 c1, .slice (some ⟨b2, 0, none⟩) n2 c2, .slice (some ⟨b3, 0, none⟩) n3 c3] 22)) := (Below.refl _ _).alloc (Nat.le_refl _) _
  have hr := (rows3 h1 h2 h3 d12 d13 d23).keep hb
  have hown : (w.alloc (.cells #[.slice (some ⟨b1, 0, none⟩) n1 c1, .slice (some ⟨b2, 0, none⟩) n2 c2, .slice (some ⟨b3, 0, none⟩) n3 c3] 22)).ownsRow w.heap.size 22 1 (.slice (some ⟨w.heap.size, 0, none⟩) 3 3) 3 [.slice (some ⟨b1, 0, none⟩) n1 c1, .slice (some ⟨b2, 0, none⟩) n2 c2, .slice (some ⟨b3, 0, none⟩) n3 c3] :=
    World.ownsRow_lit w #[.slice (some ⟨b1, 0, none⟩) n1 c1, .slice (some ⟨b2, 0, none⟩) n2 c2, .slice (some ⟨b3, 0, none⟩) n3 c3] 3 (Nat.le_refl _) three_max (by simp)
  obtain ⟨tg, ns, ha⟩ := hr.ahyp (p := some ⟨w.heap.size, 0, none⟩) (c := 3) (B := w.heap.size) (T := 22) (by simp; omega) three_mill hown (fun i b o hi hr => by
    match i, hi with
    | 0, _ => rw [rng_block hr]; exact l1
    | 1, _ => rw [rng_block hr]; exact l2
    | 2, _ => rw [rng_block hr]; exact l3)
  exact apart_any (some ⟨w.heap.size, 0, none⟩) 3 [.slice (some ⟨b1, 0, none⟩) n1 c1, .slice (some ⟨b2, 0, none⟩) n2 c2, .slice (some ⟨b3, 0, none⟩) n3 c3] ns tg S0 _ ha
set_option maxRecDepth 100000 in
set_option maxHeartbeats 4000000 in
theorem law_skeeps (v : Value) (ws : List Int) (top : Int) (rv : Value) (rs : List Int) (w : World) (hr : Rd w v ws) (hf : Fit ws) (ht : -9223372036854775808 ≤ top ∧ top ≤ 9223372036854775807) (hrr : Rd w rv rs) (hfr : Fit rs) (hml : rs.length ≤ 1048576) :
    Calls Try.prog 8 #[.agg #[v, .int .i64 top], rv] w fun e w' => e = .returned (.bool true) ∧ Below w.heap.size w w' := by
  have HR := Lib.hid hr
  have HRR := Lib.hid hrr
  obtain ⟨pv, cv, rfl, hmv⟩ := rd_form0 hr
  obtain ⟨pr, cr, rfl, hmr⟩ := rd_form0 hrr
  have HB0 := Lib.hid (show Below w.heap.size w (w.alloc (Obj.cells #[.slice pv ws.length cv, .int .i64 top] 24)) from (Below.refl _ _).alloc (Nat.le_refl _) _)
  clear hr hrr
  go_enter Try.func8, Try.ntmps8
  go_wp2_with fail
  refine (known14 _).mono ?_
  rintro e w1 ⟨rfl, hb⟩
  have y0 := below_cell hb (a := ⟨w.heap.size, 0, none⟩) (v := .slice pv ws.length cv) (by simp)
  have y1 := below_cell hb (a := ⟨w.heap.size, 1, none⟩) (v := .int .i64 top) (by simp)
  have HB1 := Lib.hid (HB0.out.trans (hb.mono (by simp)))
  have hw1 : w.heap.size < w1.heap.size := World.block_lt_of_cell? w1 _ y0
  clear hb HB0
  go_wp2_with fail
  refine (copy13_any _ ws top w1 (HR.out.keep HB1.out)).mono ?_
  rintro e w2 ⟨v2, rfl, hown, hb⟩
  have y0 := below_cell hb y0
  have y1 := below_cell hb y1
  have HB2 := Lib.hid (HB1.out.trans (hb.mono HB1.out.size))
  have hs12 := hb.size
  have HOWN := Lib.hid hown
  have hv2 : ∃ p c, v2 = .slice p ws.length c := by
    rcases hown.2 with ⟨e, e2⟩ | ⟨g, cap, cur, e, _⟩
    · exact ⟨none, 0, by rw [e, e2]⟩
    · exact ⟨_, _, e⟩
  obtain ⟨p2, c2, rfl⟩ := hv2
  have HRD2 := Lib.hid (rd_own hown hmv)
  have y0a := fun o => alloc_cell y0 o
  have y1a := fun o => alloc_cell y1 o
  clear hb hown
  go_wp2_with fail
  obtain ⟨w3, hw3⟩ : ∃ w3, w2.alloc (Obj.cells #[.slice p2 ws.length c2, .int .i64 top] 24) = w3 := ⟨_, rfl⟩
  rw [hw3]
  have hb3 : Below w2.heap.size w2 w3 := by rw [← hw3]; exact (Below.refl _ _).alloc (Nat.le_refl _) _
  have z0 : w3.cell? ⟨w2.heap.size, 0, none⟩ = some (.slice p2 ws.length c2) := by rw [← hw3]; simp
  have z1 : w3.cell? ⟨w2.heap.size, 1, none⟩ = some (.int .i64 top) := by rw [← hw3]; simp
  have y0 := below_cell hb3 y0
  have y1 := below_cell hb3 y1
  have HB3 := Lib.hid (HB2.out.trans (hb3.mono HB2.out.size))
  have HRD3 := Lib.hid (HRD2.out.keep hb3)
  have hs3 : w3.heap.size = w2.heap.size + 1 := by rw [← hw3]; simp
  have HW3 := Lib.hid hw3
  clear y0a y1a hb3 hw3
  refine (room_any _ rs w3 (HRR.out.keep HB3.out)).mono ?_
  rintro e w4 ⟨gi, rfl, hlu, hgi, hb⟩
  have hil := LR.lt hlu
  have HLU := Lib.hid hlu
  have HI4 := Lib.hid (rd_room14 hlu hmr)
  have y0 := below_cell hb y0
  have y1 := below_cell hb y1
  have z0 := below_cell hb z0
  have z1 := below_cell hb z1
  have HB4 := Lib.hid (HB3.out.trans (hb.mono HB3.out.size))
  have HRD4 := Lib.hid (HRD3.out.keep hb)
  have HK34 := Lib.hid hb
  clear hb hlu
  go_wp2_with fail
  refine (sreach_gen _ ws top _ rs w4 HRD4.out hf ht HI4.out hfr).mono ?_
  rintro e w5 ⟨u5, L, E, rfl, how5, hb, hrs5⟩
  have HK45 := Lib.hid hb
  have y0 := below_cell hb y0
  have y1 := below_cell hb y1
  have z0 := below_cell hb z0
  have z1 := below_cell hb z1
  have HO5 := Lib.hid how5
  have HRS := Lib.hid hrs5
  obtain ⟨p5, c5, rfl⟩ := ow_form how5
  clear hb how5 hrs5
  go_wp2_with fail
  refine (sreach_gen _ ws top _ rs w5 (HRD4.out.keep HK45.out) hf ht (HI4.out.keep HK45.out) hfr).mono ?_
  rintro e w6 ⟨u6, L6, E6, rfl, how6, hb, hrs6⟩
  obtain ⟨rfl, rfl⟩ := HRS.out.unique hrs6
  have HK56 := Lib.hid hb
  have y0 := below_cell hb y0
  have y1 := below_cell hb y1
  have z0 := below_cell hb z0
  have z1 := below_cell hb z1
  have HO6 := Lib.hid how6
  obtain ⟨p6, c6, rfl⟩ := ow_form how6
  have HB6 := Lib.hid ((HB4.out.trans (HK45.out.mono HB4.out.size)).trans (hb.mono (Nat.le_trans HB4.out.size HK45.out.size)))
  clear hb how6 hrs6
  simp only [List.length_map]
  go_wp2_with fail
  refine (same13 _ _ ws top w6 ((HRD4.out.keep HK45.out).keep HK56.out) (HR.out.keep HB6.out)).mono ?_
  rintro e w7 ⟨rfl, hb⟩
  have HK67 := Lib.hid hb
  have y0 := below_cell hb y0
  have y1 := below_cell hb y1
  have z0 := below_cell hb z0
  have z1 := below_cell hb z1
  have hll := HRS.out.len
  have HI1 := Lib.hid (ri_ow (OW.keep (OW.keep HO5.out HK56.out) hb) (by omega))
  have HI2 := Lib.hid (ri_ow (OW.keep HO6.out hb) (by omega))
  rw [List.length_map] at HI1 HI2
  clear hb
  go_wp2_with fail
  refine (sameints _ _ _ w7 HI1.out HI2.out).mono ?_
  rintro e w8 ⟨rfl, q, rfl⟩
  go_wp2_with fail
  obtain ⟨w8, hw8⟩ : ∃ w8, w7.drewN q = w8 := ⟨_, rfl⟩
  have hb78 : Below w7.heap.size w7 w8 := by rw [← hw8]; exact below_drewN (Below.refl _ _) q
  rw [hw8]
  have HK58 := Lib.hid ((HK56.out.trans (HK67.out.mono HK56.out.size)).trans (hb78.mono (Nat.le_trans HK56.out.size HK67.out.size)))
  have HO5' := Lib.hid (OW.keep HO5.out HK58.out)
  have HO6' := Lib.hid (OW.keep (OW.keep HO6.out HK67.out) hb78)
  have y0 := below_cell hb78 y0
  have y1 := below_cell hb78 y1
  have z0 := below_cell hb78 z0
  have z1 := below_cell hb78 z1
  have HB8 := Lib.hid ((HB6.out.trans (HK67.out.mono HB6.out.size)).trans (hb78.mono (Nat.le_trans HB6.out.size HK67.out.size)))
  have HK48 := Lib.hid (HK45.out.trans (HK58.out.mono HK45.out.size))
  have HNB := Lib.hid (show ∀ b, b < w4.heap.size ∨ w5.heap.size ≤ b → (Value.slice p5 L6.length c5).ownBlock ≠ some b from fun b hb e => by
    have := OW.lt HO5.out (g := b) (by simpa using e)
    omega)
  clear hw8 hb78 HI1 HI2
  go_loopw [11] (fun s wr => ∃ i : Nat, s = .int .i64 i ∧ i ≤ L6.length ∧ OW .i64 3 wr w4.heap.size (.slice p5 L6.length c5) (mOne L6 i) ∧ Kw (fun b => (Value.slice p5 L6.length c5).ownBlock ≠ some b) w8 wr) (fun s _ => L6.length - (intOf s).toNat)
  case atStart => exact ⟨0, by go_num, Nat.zero_le _, by have := HO5'.out; rw [List.length_map] at this; rw [mOne_zero]; exact this, Kw.refl _ _⟩
  case round =>
    obtain ⟨i, rfl, hi, how, hkw⟩ := hrel
    have HKW := Lib.hid hkw
    by_cases hlt : i < L6.length
    · have hlz : (i : Int) < (L6.length : Int) := Int.ofNat_lt.2 hlt
      have hml6 := mOne_len hi
      obtain ⟨g, c, hv, hgb, hgl, hc, hz⟩ := ow_cell how (i := i) (by omega)
      rw [hml6] at hv
      injection hv with e1 e2 e3
      subst e1; subst e3
      have hst := ow_store (i := i) (g := g) (c := c5) (by rw [hml6]; exact how) (-1)
      rw [mOne_set hlt, hml6] at hst
      have HST := Lib.hid hst
      generalize (mOne L6 i).getD i 0 = x9 at hc
      clear how hkw hst hml6
      go_wp2_with fail
      go_roundw
      case rel => exact ⟨i + 1, by go_num, hlt, HST.out, HKW.out.setCell _ _ (fun h => h (by simp [Value.ownBlock]))⟩
      case measure => exact mk_meas hlt
    · have hke : i = L6.length := Nat.le_antisymm hi (Nat.not_lt.1 hlt)
      have HKE := Lib.hid hke
      have hlz : ¬ (i : Int) < (L6.length : Int) := by omega
      rw [hke, mOne_all] at how
      have HOS := Lib.hid (show wr.ownsRow w4.heap.size 3 1 (.slice p5 L6.length c5) L6.length ((List.replicate L6.length (-1 : Int)).map (Value.int .i64)) from by
        have h := how
        unfold OW at h
        rwa [List.length_replicate] at h)
      clear how hkw hke
      have hw4w : w4.heap.size ≤ wr.heap.size := Nat.le_trans HK48.out.size HKW.out.size
      go_wp2_with (with_reducible refine wpList_app (t := 26) (e := 3) (z := .int .i64 0) (bytes := 8) (base := w4.heap.size) (n := L6.length) (m := 3) (xs := (List.replicate L6.length (-1 : Int)).map (Value.int .i64)) (news := [.int .i64 (-1), .int .i64 (-1), .int .i64 (-1)]) (v := .slice p5 L6.length c5) (x := .slice (some ⟨wr.heap.size, 0, none⟩) 3 3) rfl (.tmp 53) (.tmp 54) rfl Try.underlying26 infoI64 rfl rfl (HOS.out.alloc _) rfl (src_top (cs := #[.int .i64 (-1), .int .i64 (-1), .int .i64 (-1)]) rfl) (by simp [Value.oneCell']) (by unfold maxLen; omega) (by omega) (by simp; omega) ?_; intro u' w9 hap; have HAP := Lib.hid hap; clear hap)
      have HK9 := Lib.hid (show Kw (fun b => (Value.slice p5 L6.length c5).ownBlock ≠ some b) w8 w9 from (HKW.out.alloc _).grown HAP.out.grown (fun g hg hr => hr hg))
      have HO69 := Lib.hid (OW.kw HO6'.out HK9.out (fun g hg => HNB.out g (.inr (OW.lt HO6.out hg).1)))
      have HUO := Lib.hid HAP.out.own
      have HLL := Lib.hid hll
      clear HKW HOS HAP hw4w HKE hlz hi
      go_loopw [13] (fun s wr => ∃ i : Nat, s = .int .i64 i ∧ i ≤ L6.length ∧ w9 = wr) (fun s _ => L6.length - (intOf s).toNat)
      case atStart => exact ⟨0, by go_num, Nat.zero_le _, rfl⟩
      case round =>
        obtain ⟨i, rfl, hi, rfl⟩ := hrel
        by_cases hlt : i < L6.length
        · have hlz : (i : Int) < (L6.length : Int) := Int.ofNat_lt.2 hlt
          obtain ⟨g6, c6', hv, _, _, hc6, _⟩ := ow_cell HO69.out (i := i) (by rw [List.length_map]; exact hlt)
          rw [List.length_map] at hv
          injection hv with e1 e2 e3
          subst e1; subst e3
          have hx : (L6.map fun n : Nat => (n : Int)).getD i 0 = ((L6.getD i 0 : Nat) : Int) := by
            rw [List.getD_eq_getElem?_getD, List.getElem?_map, List.getElem?_eq_getElem hlt, List.getD_eq_getElem?_getD, List.getElem?_eq_getElem hlt]; rfl
          rw [hx] at hc6
          have hpos := HRS.out.pos hf (mem_getD hlt)
          obtain ⟨x, hxx⟩ : ∃ x, L6.getD i 0 = x := ⟨_, rfl⟩
          rw [hxx] at hc6 hpos
          have hxn : ¬ (x : Int) < 1 := by omega
          obtain ⟨gu, cu, hu, hcu⟩ : ∃ gu cu, u' = .slice (some ⟨gu, 0, none⟩) (L6.length + 3) cu ∧ w9.cell? ⟨gu, i, none⟩ = some (.int .i64 (-1)) := by
            have h := HUO.out
            rcases h.2 with ⟨e, e2⟩ | ⟨g, cap, cur, e, _⟩
            · omega
            · refine ⟨g, cap, e, ?_⟩
              rw [e] at h
              rw [World.ownsRow.cellAt (g := g) h i (by omega), List.getElem?_append_left (by simp; exact hlt), List.getElem?_map, List.getElem?_replicate, if_pos hlt]
              rfl
          subst hu
          have hiz : (i : Int) < (L6.length : Int) + 3 := by omega
          clear hx hxx hpos
          go_wp2_with fail
          go_roundw
          case rel => exact ⟨i + 1, by go_num, hlt, by trivial⟩
          case measure => exact mk_meas hlt
        · have hke : i = L6.length := Nat.le_antisymm hi (Nat.not_lt.1 hlt)
          have hlz : ¬ (i : Int) < (L6.length : Int) := by omega
          have HB49 := Lib.hid (show Below w4.heap.size w4 w9 from HK48.out.trans (HK9.out.below HK48.out.size (fun b hb => HNB.out b (.inl hb))))
          have hkb : ∀ b, b < w4.heap.size → w9.heap[b]? = w8.heap[b]? := fun b hb => HK9.out.block b (HNB.out b (.inl hb)) (by have := HK48.out.size; omega)
          have HKB := Lib.hid hkb
          have h24 : w2.heap.size < w4.heap.size := by have := HK34.out.size; omega
          have hw4 : w.heap.size < w4.heap.size := by omega
          have y0 := (World.cell?_of_block (a := ⟨w.heap.size, 0, none⟩) (hkb _ (by dsimp only; omega))).trans y0
          have y1 := (World.cell?_of_block (a := ⟨w.heap.size, 1, none⟩) (hkb _ (by dsimp only; omega))).trans y1
          have z0 := (World.cell?_of_block (a := ⟨w2.heap.size, 0, none⟩) (hkb _ (by dsimp only; omega))).trans z0
          have z1 := (World.cell?_of_block (a := ⟨w2.heap.size, 1, none⟩) (hkb _ (by dsimp only; omega))).trans z1
          have HB9 := Lib.hid (HB4.out.trans (HB49.out.mono HB4.out.size))
          have HI9 := Lib.hid (HI4.out.keep HB49.out)
          have HL9 := Lib.hid (LR.keep HLU.out HB49.out)
          have HR9 := Lib.hid (HRD4.out.keep HB49.out)
          clear hkb hlz hi hke
          go_wp2_with fail
          rcases HRS.out with ⟨hro, hL, hE⟩ | ⟨hro, hE, _⟩
          · subst hE
            refine (collect_bad _ _ ws top _ rs w9 z0 z1 HR9.out hf ht HI9.out hfr hro).mono ?_
            rintro e w10 ⟨rfl, hb⟩
            have HB10 := Lib.hid (HB9.out.trans (hb.mono HB9.out.size))
            have HL10 := Lib.hid (LR.keep HL9.out hb)
            clear hb hro
            go_wp2_with fail
            refine (kept_any gi _ rs w10 HL10.out (HRR.out.keep HB10.out)).mono ?_
            rintro e w11 ⟨rfl, hb⟩
            have HB11 := Lib.hid (HB10.out.trans (hb.mono HB10.out.size))
            clear hb
            go_wp2_with fail
            go_ret
            exact ⟨rfl, HB11.out⟩
          · subst hE
            obtain ⟨hm, hy, tn, htt, h1, h2, ho, hou, hfree⟩ := roots_split hro hf
            subst htt
            have hml20 := mem_len hm
            obtain ⟨g, c, hv, hg, hgl, hpm⟩ := copy_pm HOWN.out hml20 h2 h1 hf
            injection hv with e1 e2 e3
            subst e1; subst e3
            rw [HW3.out] at hpm
            have hpm9 := (hpm.keep HK34.out).keep HB49.out
            have hs49 := HB49.out.size
            refine (collect_yes hpm9 hm ho h2 hfree _ rs (fun A hA => rd_room14 (hA.lu HL9.out (by omega)) hmr) hfr hy).mono ?_
            intro e w10 hco
            obtain ⟨gr, M, res, rfl, hM, hcr, b0, b1, bz, hwd, hlu, hgr, hbt⟩ := hco.out
            have HB10 := Lib.hid (HB9.out.trans (hbt.below HB9.out.size (by omega) (by omega)))
            have HL10 := Lib.hid (LR.block HL9.out (hbt.block gi (by omega) (by omega) (by omega)))
            have HWD := Lib.hid hwd
            have HCL := Lib.hid hcr.len
            have HLR := Lib.hid hlu
            have hs10 := hbt.size
            clear hco hM hcr hwd hlu hbt hpm hpm9 hro hm hy ho hou hfree bz b1
            go_wp2_with fail
            refine (kept_any gi _ rs w10 HL10.out (HRR.out.keep HB10.out)).mono ?_
            rintro e w11 ⟨rfl, hb⟩
            have HB11 := Lib.hid (HB10.out.trans (hb.mono HB10.out.size))
            have HL11 := Lib.hid (LR.keep HL10.out hb)
            have HWD11 := Lib.hid (HWD.out.keep hb)
            have HLR11 := Lib.hid (LR.keep HLR.out hb)
            have b0 := below_cell hb b0
            clear hb
            go_wp2_with fail
            obtain ⟨vs, hvs⟩ : ∃ vs : List Value, vs = [.slice (some ⟨gr, 0, none⟩) rs.length rs.length, .slice (some ⟨gi, 0, none⟩) rs.length (rs.length + 6), .slice (some ⟨g, 0, none⟩) ws.length c2] := ⟨_, rfl⟩
            have hap := apart3 (w := w11) (S0 := w.heap.size) hvs (by
              have h := rowW_lu (n := rs.length) (S0 := w.heap.size) HLR11.out (by rw [List.length_map]; exact Nat.le_refl _) (by have := HB9.out.size; omega) (by omega)
              rwa [List.length_map] at h) (by
              have h := rowW_lu (n := rs.length) (S0 := w.heap.size) HL11.out (by rw [roomL_len]; omega) (by omega) (by omega)
              rwa [roomL_len] at h) (by
              have h := rowW_wd (S0 := w.heap.size) HWD11.out (by omega) (by rw [HCL.out]; omega)
              rwa [HCL.out] at h) (by omega) (by omega) (by omega) (LR.lt HLR11.out) (LR.lt HL11.out) HWD11.out.lt HB11.out.size
            refine hap.mono ?_
            rintro e w13 ⟨rfl, hb⟩
            have HB13 := Lib.hid ((HB11.out.alloc HB11.out.size _).trans hb)
            clear hb hap hvs
            go_wp2_with fail
            go_ret
            exact ⟨rfl, HB13.out⟩
end Go.Proofs.Ytfhjpgbnojdlkaa
