/- Layer 8: the document's Reads, Writes, Goes, Allocates: what the flags say. -/
import Derived.Test.YtnniohimbmnapaaDoorFRef2
namespace Go.Proofs.YtnniohimbmnapaaDoor
open Go.ChangeShapes Go.WideShapes Go.RowKit
set_option linter.unusedVariables false
set_option linter.unusedSimpArgs false
theorem own_baseR {w : World} {B B' n : Nat} {T : TypeId} {v : Value} {xs : List Value} (h : w.ownsRow B T 1 v n xs) (hB : B' ≤ B) : w.ownsRow B' T 1 v n xs := by
  refine ⟨h.1, ?_⟩
  rcases h.2 with h2 | ⟨g2, cap, cur2, h3, h4, r1, r2⟩
  · exact .inl h2
  · exact .inr ⟨g2, cap, cur2, h3, by omega, r1, r2⟩
set_option maxRecDepth 100000 in
set_option maxHeartbeats 1000000 in
theorem rreads_000 (i : InsD) (lv : Value) (w : World) (hl : Ri w lv i.l) (hll : i.l.length ≤ 17592186043904) (kn d a b t : Bool) (l k lo hi : Int) (hr : rowAt i.op = ⟨kn, d, a, b, t, l, k, lo, hi⟩) (ha : a = false) (hb : b = false) (hq : (l != -1) = false) :
    Calls Tryd.prog 26 #[insV i lv] w (LPost w (readsD i)) := by
  have HD := Lib.hid (show readsD i = [] from by
    have hro := rowOk i.op
    have e1 := hro.a
    have e2 := hro.b
    have e3 := hro.l
    have e4 := hro.d
    have e5 := hro.u
    rw [hr] at e1 e2 e3 e4
    simp only [ha, hb, hq, Bool.true_and, Bool.false_and] at e1 e2 e3 e4 e5
    simp [readsD, writesD, ← e1, ← e2, ← e3, ← e4, ← e5])
  have HL := Lib.hid hl
  obtain ⟨p, c, hlv, hx1, hx2, hx3⟩ := ri_form hl
  clear hl hx1 hx3
  subst hlv
  have HR := Lib.hid hr
  clear hr
  subst ha hb
  unfold insV
  go_enter Tryd.func26, Tryd.ntmps26
  go_wp2_with fail
  refine (rowof_any _ _).mono ?_
  rintro e w1 ⟨rfl, hb1⟩
  rw [HR.out]
  unfold rowV
  have hs1 : w.heap.size + 1 ≤ w1.heap.size := by have := hb1.size; simpa using this
  have HB7 := Lib.hid ((Box7.new w i (.slice p i.l.length c) 50).keep hb1 (by simp))
  have HW := Lib.hid (show Below w.heap.size w w1 from ((Below.refl _ _).alloc (Nat.le_refl _) _).trans (hb1.mono (by simp)))
  have HBX := Lib.hid (HB7.out.keep (B := w1.heap.size) ((Below.refl _ _).alloc (Nat.le_refl _) (Obj.cells #[Value.bool kn, Value.bool d, Value.bool false, Value.bool false, Value.bool t, Value.int .i64 l, Value.int .i64 k, Value.int .i64 lo, Value.int .i64 hi] 80)) (by omega))
  have HX := Lib.hid (HW.out.alloc HW.out.size (Obj.cells #[Value.bool kn, Value.bool d, Value.bool false, Value.bool false, Value.bool t, Value.int .i64 l, Value.int .i64 k, Value.int .i64 lo, Value.int .i64 hi] 80))
  clear hb1
  obtain ⟨_, _, _, _, _, _, _⟩ := HBX.out
  obtain ⟨_, _, _, _, _, _, _⟩ := HB7.out
  have hw0 := HX.out
  go_wp2_with (first
    | fail)
  go_ret
  exact ⟨_, rfl, by rw [HD.out]; exact OW.nil _ _, HX.out⟩
set_option maxRecDepth 100000 in
set_option maxHeartbeats 1000000 in
theorem rreads_001 (i : InsD) (lv : Value) (w : World) (hl : Ri w lv i.l) (hll : i.l.length ≤ 17592186043904) (kn d a b t : Bool) (l k lo hi : Int) (hr : rowAt i.op = ⟨kn, d, a, b, t, l, k, lo, hi⟩) (ha : a = false) (hb : b = false) (hq : (l != -1) = true) (ho : (i.op != 35) = false) :
    Calls Tryd.prog 26 #[insV i lv] w (LPost w (readsD i)) := by
  have HD := Lib.hid (show readsD i = [] from by
    have hro := rowOk i.op
    have e1 := hro.a
    have e2 := hro.b
    have e3 := hro.l
    have e4 := hro.d
    have e5 := hro.u
    rw [hr] at e1 e2 e3 e4
    simp only [ha, hb, hq, ho, Bool.true_and, Bool.false_and] at e1 e2 e3 e4 e5
    simp [readsD, writesD, ← e1, ← e2, ← e3, ← e4, ← e5])
  have HL := Lib.hid hl
  obtain ⟨p, c, hlv, hx1, hx2, hx3⟩ := ri_form hl
  clear hl hx1 hx3
  subst hlv
  have HR := Lib.hid hr
  clear hr
  subst ha hb
  unfold insV
  go_enter Tryd.func26, Tryd.ntmps26
  go_wp2_with fail
  refine (rowof_any _ _).mono ?_
  rintro e w1 ⟨rfl, hb1⟩
  rw [HR.out]
  unfold rowV
  have hs1 : w.heap.size + 1 ≤ w1.heap.size := by have := hb1.size; simpa using this
  have HB7 := Lib.hid ((Box7.new w i (.slice p i.l.length c) 50).keep hb1 (by simp))
  have HW := Lib.hid (show Below w.heap.size w w1 from ((Below.refl _ _).alloc (Nat.le_refl _) _).trans (hb1.mono (by simp)))
  have HBX := Lib.hid (HB7.out.keep (B := w1.heap.size) ((Below.refl _ _).alloc (Nat.le_refl _) (Obj.cells #[Value.bool kn, Value.bool d, Value.bool false, Value.bool false, Value.bool t, Value.int .i64 l, Value.int .i64 k, Value.int .i64 lo, Value.int .i64 hi] 80)) (by omega))
  have HX := Lib.hid (HW.out.alloc HW.out.size (Obj.cells #[Value.bool kn, Value.bool d, Value.bool false, Value.bool false, Value.bool t, Value.int .i64 l, Value.int .i64 k, Value.int .i64 lo, Value.int .i64 hi] 80))
  clear hb1
  obtain ⟨_, _, _, _, _, _, _⟩ := HBX.out
  obtain ⟨_, _, _, _, _, _, _⟩ := HB7.out
  have hw0 := HX.out
  go_wp2_with (first
    | fail)
  go_ret
  exact ⟨_, rfl, by rw [HD.out]; exact OW.nil _ _, HX.out⟩
set_option maxRecDepth 100000 in
set_option maxHeartbeats 1000000 in
theorem rreads_002 (i : InsD) (lv : Value) (w : World) (hl : Ri w lv i.l) (hll : i.l.length ≤ 17592186043904) (kn d a b t : Bool) (l k lo hi : Int) (hr : rowAt i.op = ⟨kn, d, a, b, t, l, k, lo, hi⟩) (ha : a = false) (hb : b = false) (hq : (l != -1) = true) (ho : (i.op != 35) = true) :
    Calls Tryd.prog 26 #[insV i lv] w (LPost w (readsD i)) := by
  have HD := Lib.hid (show readsD i = i.l from by
    have hro := rowOk i.op
    have e1 := hro.a
    have e2 := hro.b
    have e3 := hro.l
    have e4 := hro.d
    have e5 := hro.u
    rw [hr] at e1 e2 e3 e4
    simp only [ha, hb, hq, ho, Bool.true_and, Bool.false_and] at e1 e2 e3 e4 e5
    simp [readsD, writesD, ← e1, ← e2, ← e3, ← e4, ← e5])
  have HL := Lib.hid hl
  obtain ⟨p, c, hlv, hx1, hx2, hx3⟩ := ri_form hl
  clear hl hx1 hx3
  subst hlv
  have HR := Lib.hid hr
  clear hr
  subst ha hb
  unfold insV
  go_enter Tryd.func26, Tryd.ntmps26
  go_wp2_with fail
  refine (rowof_any _ _).mono ?_
  rintro e w1 ⟨rfl, hb1⟩
  rw [HR.out]
  unfold rowV
  have hs1 : w.heap.size + 1 ≤ w1.heap.size := by have := hb1.size; simpa using this
  have HB7 := Lib.hid ((Box7.new w i (.slice p i.l.length c) 50).keep hb1 (by simp))
  have HW := Lib.hid (show Below w.heap.size w w1 from ((Below.refl _ _).alloc (Nat.le_refl _) _).trans (hb1.mono (by simp)))
  have HBX := Lib.hid (HB7.out.keep (B := w1.heap.size) ((Below.refl _ _).alloc (Nat.le_refl _) (Obj.cells #[Value.bool kn, Value.bool d, Value.bool false, Value.bool false, Value.bool t, Value.int .i64 l, Value.int .i64 k, Value.int .i64 lo, Value.int .i64 hi] 80)) (by omega))
  have HX := Lib.hid (HW.out.alloc HW.out.size (Obj.cells #[Value.bool kn, Value.bool d, Value.bool false, Value.bool false, Value.bool t, Value.int .i64 l, Value.int .i64 k, Value.int .i64 lo, Value.int .i64 hi] 80))
  clear hb1
  obtain ⟨_, _, _, _, _, _, _⟩ := HBX.out
  obtain ⟨_, _, _, _, _, _, _⟩ := HB7.out
  have hw0 := HX.out
  go_wp2_with (first
    | (at_builtin; refine wpList_app rfl (.tmp 30) (.tmp 32) rfl Tryd.underlying31 infoInt rfl rfl (v := .slice none 0 0) (base := (w1.heap.size + 1)) (n := 0) (m := i.l.length) (xs := []) (news := (i.l.map (Value.int .i64))) (World.ownsRow_nil _ _ _ _) rfl ((HL.out.keep (by ((repeat' (first | with_reducible assumption | with_reducible exact Below.refl _ _ | with_reducible refine Below.drew ?_ | with_reducible refine Below.alloc ?_ (by first | omega | (simp; omega) | (simp; done) | fail) _ | with_reducible refine Below.setCell ?_ (by first | omega | (simp; omega) | (simp; done) | fail) _ | fail)); (first | done | fail)))).src) (ones_int i.l) (by unfold maxLen; omega) (by omega) (by first | omega | (simp; omega) | (simp; done)) ?_; intro v20 w20 hap; have hy20 : Below (w1.heap.size + 1) (w1.alloc (Obj.cells #[Value.bool kn, Value.bool d, Value.bool false, Value.bool false, Value.bool t, Value.int .i64 l, Value.int .i64 k, Value.int .i64 lo, Value.int .i64 hi] 80)) w20 := Below.trans (by ((repeat' (first | with_reducible assumption | with_reducible exact Below.refl _ _ | with_reducible refine Below.drew ?_ | with_reducible refine Below.alloc ?_ (by first | omega | (simp; omega) | (simp; done) | fail) _ | with_reducible refine Below.setCell ?_ (by first | omega | (simp; omega) | (simp; done) | fail) _ | fail)); (first | done | fail)) : Below (w1.heap.size + 1) (w1.alloc (Obj.cells #[Value.bool kn, Value.bool d, Value.bool false, Value.bool false, Value.bool t, Value.int .i64 l, Value.int .i64 k, Value.int .i64 lo, Value.int .i64 hi] 80)) _) (hap.below (by first | omega | (simp; omega) | (simp; done)) (fun g hg => (by simp [Value.ownBlock] at hg))); have hb20 : Below w.heap.size w w20 := HX.out.trans (hy20.mono (by omega)); have hs20 : (w1.heap.size + 1) ≤ w20.heap.size := (by have hz := hy20.size; simpa using hz); obtain ⟨_, _, _, _, _, _, _⟩ := HBX.out.keep hy20 (by omega); have hq20 := (hy20.cell (p := ⟨w1.heap.size, 2, none⟩) (Nat.lt_succ_self _)).trans (cell_new rfl); have hq30 := (hy20.cell (p := ⟨w1.heap.size, 3, none⟩) (Nat.lt_succ_self _)).trans (cell_new rfl); have hq50 := (hy20.cell (p := ⟨w1.heap.size, 5, none⟩) (Nat.lt_succ_self _)).trans (cell_new rfl); have HP20 := Lib.hid hap; clear hap)
    | fail)
  go_ret
  exact ⟨_, rfl, by rw [HD.out]; exact own_conv (own_baseR (own_keep HP20.out.own (by ((repeat' (first | with_reducible assumption | with_reducible exact Below.refl _ _ | with_reducible refine Below.drew ?_ | with_reducible refine Below.alloc ?_ (by first | omega | (simp; omega) | (simp; done) | fail) _ | with_reducible refine Below.setCell ?_ (by first | omega | (simp; omega) | (simp; done) | fail) _ | fail)); (first | done | fail)))) (by omega)) (by first | (simp; done) | (simp; omega)) (by simp), by ((repeat' (first | with_reducible assumption | with_reducible exact Below.refl _ _ | with_reducible refine Below.drew ?_ | with_reducible refine Below.alloc ?_ (by first | omega | (simp; omega) | (simp; done) | fail) _ | with_reducible refine Below.setCell ?_ (by first | omega | (simp; omega) | (simp; done) | fail) _ | fail)); (first | done | fail))⟩
set_option maxRecDepth 100000 in
set_option maxHeartbeats 1000000 in
theorem rreads_010 (i : InsD) (lv : Value) (w : World) (hl : Ri w lv i.l) (hll : i.l.length ≤ 17592186043904) (kn d a b t : Bool) (l k lo hi : Int) (hr : rowAt i.op = ⟨kn, d, a, b, t, l, k, lo, hi⟩) (ha : a = false) (hb : b = true) (hq : (l != -1) = false) :
    Calls Tryd.prog 26 #[insV i lv] w (LPost w (readsD i)) := by
  have HD := Lib.hid (show readsD i = [i.b] from by
    have hro := rowOk i.op
    have e1 := hro.a
    have e2 := hro.b
    have e3 := hro.l
    have e4 := hro.d
    have e5 := hro.u
    rw [hr] at e1 e2 e3 e4
    simp only [ha, hb, hq, Bool.true_and, Bool.false_and] at e1 e2 e3 e4 e5
    simp [readsD, writesD, ← e1, ← e2, ← e3, ← e4, ← e5])
  have HL := Lib.hid hl
  obtain ⟨p, c, hlv, hx1, hx2, hx3⟩ := ri_form hl
  clear hl hx1 hx3
  subst hlv
  have HR := Lib.hid hr
  clear hr
  subst ha hb
  unfold insV
  go_enter Tryd.func26, Tryd.ntmps26
  go_wp2_with fail
  refine (rowof_any _ _).mono ?_
  rintro e w1 ⟨rfl, hb1⟩
  rw [HR.out]
  unfold rowV
  have hs1 : w.heap.size + 1 ≤ w1.heap.size := by have := hb1.size; simpa using this
  have HB7 := Lib.hid ((Box7.new w i (.slice p i.l.length c) 50).keep hb1 (by simp))
  have HW := Lib.hid (show Below w.heap.size w w1 from ((Below.refl _ _).alloc (Nat.le_refl _) _).trans (hb1.mono (by simp)))
  have HBX := Lib.hid (HB7.out.keep (B := w1.heap.size) ((Below.refl _ _).alloc (Nat.le_refl _) (Obj.cells #[Value.bool kn, Value.bool d, Value.bool false, Value.bool true, Value.bool t, Value.int .i64 l, Value.int .i64 k, Value.int .i64 lo, Value.int .i64 hi] 80)) (by omega))
  have HX := Lib.hid (HW.out.alloc HW.out.size (Obj.cells #[Value.bool kn, Value.bool d, Value.bool false, Value.bool true, Value.bool t, Value.int .i64 l, Value.int .i64 k, Value.int .i64 lo, Value.int .i64 hi] 80))
  clear hb1
  obtain ⟨_, _, _, _, _, _, _⟩ := HBX.out
  obtain ⟨_, _, _, _, _, _, _⟩ := HB7.out
  have hw0 := HX.out
  go_wp2_with (first
    | (at_builtin; refine wpList_app rfl (.tmp 17) (.tmp 20) rfl Tryd.underlying31 infoInt rfl rfl (v := .slice none 0 0) (base := (w1.heap.size + 1)) (n := 0) (m := 1) (xs := []) (news := [.int .i64 i.b]) (World.ownsRow_nil _ _ _ _) rfl (by exact src_top (by first | rfl | (simp; done))) (ones_int [i.b]) (by unfold maxLen; omega) (by omega) (by first | omega | (simp; omega) | (simp; done)) ?_; intro v20 w20 hap; have hy20 : Below (w1.heap.size + 1) (w1.alloc (Obj.cells #[Value.bool kn, Value.bool d, Value.bool false, Value.bool true, Value.bool t, Value.int .i64 l, Value.int .i64 k, Value.int .i64 lo, Value.int .i64 hi] 80)) w20 := Below.trans (by ((repeat' (first | with_reducible assumption | with_reducible exact Below.refl _ _ | with_reducible refine Below.drew ?_ | with_reducible refine Below.alloc ?_ (by first | omega | (simp; omega) | (simp; done) | fail) _ | with_reducible refine Below.setCell ?_ (by first | omega | (simp; omega) | (simp; done) | fail) _ | fail)); (first | done | fail)) : Below (w1.heap.size + 1) (w1.alloc (Obj.cells #[Value.bool kn, Value.bool d, Value.bool false, Value.bool true, Value.bool t, Value.int .i64 l, Value.int .i64 k, Value.int .i64 lo, Value.int .i64 hi] 80)) _) (hap.below (by first | omega | (simp; omega) | (simp; done)) (fun g hg => (by simp [Value.ownBlock] at hg))); have hb20 : Below w.heap.size w w20 := HX.out.trans (hy20.mono (by omega)); have hs20 : (w1.heap.size + 1) ≤ w20.heap.size := (by have hz := hy20.size; simpa using hz); obtain ⟨_, _, _, _, _, _, _⟩ := HBX.out.keep hy20 (by omega); have hq20 := (hy20.cell (p := ⟨w1.heap.size, 2, none⟩) (Nat.lt_succ_self _)).trans (cell_new rfl); have hq30 := (hy20.cell (p := ⟨w1.heap.size, 3, none⟩) (Nat.lt_succ_self _)).trans (cell_new rfl); have hq50 := (hy20.cell (p := ⟨w1.heap.size, 5, none⟩) (Nat.lt_succ_self _)).trans (cell_new rfl); have HP20 := Lib.hid hap; clear hap)
    | fail)
  go_ret
  exact ⟨_, rfl, by rw [HD.out]; exact own_conv (own_baseR (own_keep HP20.out.own (by ((repeat' (first | with_reducible assumption | with_reducible exact Below.refl _ _ | with_reducible refine Below.drew ?_ | with_reducible refine Below.alloc ?_ (by first | omega | (simp; omega) | (simp; done) | fail) _ | with_reducible refine Below.setCell ?_ (by first | omega | (simp; omega) | (simp; done) | fail) _ | fail)); (first | done | fail)))) (by omega)) (by first | (simp; done) | (simp; omega)) (by simp), by ((repeat' (first | with_reducible assumption | with_reducible exact Below.refl _ _ | with_reducible refine Below.drew ?_ | with_reducible refine Below.alloc ?_ (by first | omega | (simp; omega) | (simp; done) | fail) _ | with_reducible refine Below.setCell ?_ (by first | omega | (simp; omega) | (simp; done) | fail) _ | fail)); (first | done | fail))⟩
set_option maxRecDepth 100000 in
set_option maxHeartbeats 1000000 in
theorem rreads_011 (i : InsD) (lv : Value) (w : World) (hl : Ri w lv i.l) (hll : i.l.length ≤ 17592186043904) (kn d a b t : Bool) (l k lo hi : Int) (hr : rowAt i.op = ⟨kn, d, a, b, t, l, k, lo, hi⟩) (ha : a = false) (hb : b = true) (hq : (l != -1) = true) (ho : (i.op != 35) = false) :
    Calls Tryd.prog 26 #[insV i lv] w (LPost w (readsD i)) := by
  have HD := Lib.hid (show readsD i = [i.b] from by
    have hro := rowOk i.op
    have e1 := hro.a
    have e2 := hro.b
    have e3 := hro.l
    have e4 := hro.d
    have e5 := hro.u
    rw [hr] at e1 e2 e3 e4
    simp only [ha, hb, hq, ho, Bool.true_and, Bool.false_and] at e1 e2 e3 e4 e5
    simp [readsD, writesD, ← e1, ← e2, ← e3, ← e4, ← e5])
  have HL := Lib.hid hl
  obtain ⟨p, c, hlv, hx1, hx2, hx3⟩ := ri_form hl
  clear hl hx1 hx3
  subst hlv
  have HR := Lib.hid hr
  clear hr
  subst ha hb
  unfold insV
  go_enter Tryd.func26, Tryd.ntmps26
  go_wp2_with fail
  refine (rowof_any _ _).mono ?_
  rintro e w1 ⟨rfl, hb1⟩
  rw [HR.out]
  unfold rowV
  have hs1 : w.heap.size + 1 ≤ w1.heap.size := by have := hb1.size; simpa using this
  have HB7 := Lib.hid ((Box7.new w i (.slice p i.l.length c) 50).keep hb1 (by simp))
  have HW := Lib.hid (show Below w.heap.size w w1 from ((Below.refl _ _).alloc (Nat.le_refl _) _).trans (hb1.mono (by simp)))
  have HBX := Lib.hid (HB7.out.keep (B := w1.heap.size) ((Below.refl _ _).alloc (Nat.le_refl _) (Obj.cells #[Value.bool kn, Value.bool d, Value.bool false, Value.bool true, Value.bool t, Value.int .i64 l, Value.int .i64 k, Value.int .i64 lo, Value.int .i64 hi] 80)) (by omega))
  have HX := Lib.hid (HW.out.alloc HW.out.size (Obj.cells #[Value.bool kn, Value.bool d, Value.bool false, Value.bool true, Value.bool t, Value.int .i64 l, Value.int .i64 k, Value.int .i64 lo, Value.int .i64 hi] 80))
  clear hb1
  obtain ⟨_, _, _, _, _, _, _⟩ := HBX.out
  obtain ⟨_, _, _, _, _, _, _⟩ := HB7.out
  have hw0 := HX.out
  go_wp2_with (first
    | (at_builtin; refine wpList_app rfl (.tmp 17) (.tmp 20) rfl Tryd.underlying31 infoInt rfl rfl (v := .slice none 0 0) (base := (w1.heap.size + 1)) (n := 0) (m := 1) (xs := []) (news := [.int .i64 i.b]) (World.ownsRow_nil _ _ _ _) rfl (by exact src_top (by first | rfl | (simp; done))) (ones_int [i.b]) (by unfold maxLen; omega) (by omega) (by first | omega | (simp; omega) | (simp; done)) ?_; intro v20 w20 hap; have hy20 : Below (w1.heap.size + 1) (w1.alloc (Obj.cells #[Value.bool kn, Value.bool d, Value.bool false, Value.bool true, Value.bool t, Value.int .i64 l, Value.int .i64 k, Value.int .i64 lo, Value.int .i64 hi] 80)) w20 := Below.trans (by ((repeat' (first | with_reducible assumption | with_reducible exact Below.refl _ _ | with_reducible refine Below.drew ?_ | with_reducible refine Below.alloc ?_ (by first | omega | (simp; omega) | (simp; done) | fail) _ | with_reducible refine Below.setCell ?_ (by first | omega | (simp; omega) | (simp; done) | fail) _ | fail)); (first | done | fail)) : Below (w1.heap.size + 1) (w1.alloc (Obj.cells #[Value.bool kn, Value.bool d, Value.bool false, Value.bool true, Value.bool t, Value.int .i64 l, Value.int .i64 k, Value.int .i64 lo, Value.int .i64 hi] 80)) _) (hap.below (by first | omega | (simp; omega) | (simp; done)) (fun g hg => (by simp [Value.ownBlock] at hg))); have hb20 : Below w.heap.size w w20 := HX.out.trans (hy20.mono (by omega)); have hs20 : (w1.heap.size + 1) ≤ w20.heap.size := (by have hz := hy20.size; simpa using hz); obtain ⟨_, _, _, _, _, _, _⟩ := HBX.out.keep hy20 (by omega); have hq20 := (hy20.cell (p := ⟨w1.heap.size, 2, none⟩) (Nat.lt_succ_self _)).trans (cell_new rfl); have hq30 := (hy20.cell (p := ⟨w1.heap.size, 3, none⟩) (Nat.lt_succ_self _)).trans (cell_new rfl); have hq50 := (hy20.cell (p := ⟨w1.heap.size, 5, none⟩) (Nat.lt_succ_self _)).trans (cell_new rfl); have HP20 := Lib.hid hap; clear hap)
    | fail)
  go_ret
  exact ⟨_, rfl, by rw [HD.out]; exact own_conv (own_baseR (own_keep HP20.out.own (by ((repeat' (first | with_reducible assumption | with_reducible exact Below.refl _ _ | with_reducible refine Below.drew ?_ | with_reducible refine Below.alloc ?_ (by first | omega | (simp; omega) | (simp; done) | fail) _ | with_reducible refine Below.setCell ?_ (by first | omega | (simp; omega) | (simp; done) | fail) _ | fail)); (first | done | fail)))) (by omega)) (by first | (simp; done) | (simp; omega)) (by simp), by ((repeat' (first | with_reducible assumption | with_reducible exact Below.refl _ _ | with_reducible refine Below.drew ?_ | with_reducible refine Below.alloc ?_ (by first | omega | (simp; omega) | (simp; done) | fail) _ | with_reducible refine Below.setCell ?_ (by first | omega | (simp; omega) | (simp; done) | fail) _ | fail)); (first | done | fail))⟩
set_option maxRecDepth 100000 in
set_option maxHeartbeats 1000000 in
theorem rreads_012 (i : InsD) (lv : Value) (w : World) (hl : Ri w lv i.l) (hll : i.l.length ≤ 17592186043904) (kn d a b t : Bool) (l k lo hi : Int) (hr : rowAt i.op = ⟨kn, d, a, b, t, l, k, lo, hi⟩) (ha : a = false) (hb : b = true) (hq : (l != -1) = true) (ho : (i.op != 35) = true) :
    Calls Tryd.prog 26 #[insV i lv] w (LPost w (readsD i)) := by
  have HD := Lib.hid (show readsD i = [i.b] ++ i.l from by
    have hro := rowOk i.op
    have e1 := hro.a
    have e2 := hro.b
    have e3 := hro.l
    have e4 := hro.d
    have e5 := hro.u
    rw [hr] at e1 e2 e3 e4
    simp only [ha, hb, hq, ho, Bool.true_and, Bool.false_and] at e1 e2 e3 e4 e5
    simp [readsD, writesD, ← e1, ← e2, ← e3, ← e4, ← e5])
  have HL := Lib.hid hl
  obtain ⟨p, c, hlv, hx1, hx2, hx3⟩ := ri_form hl
  clear hl hx1 hx3
  subst hlv
  have HR := Lib.hid hr
  clear hr
  subst ha hb
  unfold insV
  go_enter Tryd.func26, Tryd.ntmps26
  go_wp2_with fail
  refine (rowof_any _ _).mono ?_
  rintro e w1 ⟨rfl, hb1⟩
  rw [HR.out]
  unfold rowV
  have hs1 : w.heap.size + 1 ≤ w1.heap.size := by have := hb1.size; simpa using this
  have HB7 := Lib.hid ((Box7.new w i (.slice p i.l.length c) 50).keep hb1 (by simp))
  have HW := Lib.hid (show Below w.heap.size w w1 from ((Below.refl _ _).alloc (Nat.le_refl _) _).trans (hb1.mono (by simp)))
  have HBX := Lib.hid (HB7.out.keep (B := w1.heap.size) ((Below.refl _ _).alloc (Nat.le_refl _) (Obj.cells #[Value.bool kn, Value.bool d, Value.bool false, Value.bool true, Value.bool t, Value.int .i64 l, Value.int .i64 k, Value.int .i64 lo, Value.int .i64 hi] 80)) (by omega))
  have HX := Lib.hid (HW.out.alloc HW.out.size (Obj.cells #[Value.bool kn, Value.bool d, Value.bool false, Value.bool true, Value.bool t, Value.int .i64 l, Value.int .i64 k, Value.int .i64 lo, Value.int .i64 hi] 80))
  clear hb1
  obtain ⟨_, _, _, _, _, _, _⟩ := HBX.out
  obtain ⟨_, _, _, _, _, _, _⟩ := HB7.out
  have hw0 := HX.out
  go_wp2_with (first
    | (at_builtin; refine wpList_app rfl (.tmp 17) (.tmp 20) rfl Tryd.underlying31 infoInt rfl rfl (v := .slice none 0 0) (base := (w1.heap.size + 1)) (n := 0) (m := 1) (xs := []) (news := [.int .i64 i.b]) (World.ownsRow_nil _ _ _ _) rfl (by exact src_top (by first | rfl | (simp; done))) (ones_int [i.b]) (by unfold maxLen; omega) (by omega) (by first | omega | (simp; omega) | (simp; done)) ?_; intro v20 w20 hap; have hy20 : Below (w1.heap.size + 1) (w1.alloc (Obj.cells #[Value.bool kn, Value.bool d, Value.bool false, Value.bool true, Value.bool t, Value.int .i64 l, Value.int .i64 k, Value.int .i64 lo, Value.int .i64 hi] 80)) w20 := Below.trans (by ((repeat' (first | with_reducible assumption | with_reducible exact Below.refl _ _ | with_reducible refine Below.drew ?_ | with_reducible refine Below.alloc ?_ (by first | omega | (simp; omega) | (simp; done) | fail) _ | with_reducible refine Below.setCell ?_ (by first | omega | (simp; omega) | (simp; done) | fail) _ | fail)); (first | done | fail)) : Below (w1.heap.size + 1) (w1.alloc (Obj.cells #[Value.bool kn, Value.bool d, Value.bool false, Value.bool true, Value.bool t, Value.int .i64 l, Value.int .i64 k, Value.int .i64 lo, Value.int .i64 hi] 80)) _) (hap.below (by first | omega | (simp; omega) | (simp; done)) (fun g hg => (by simp [Value.ownBlock] at hg))); have hb20 : Below w.heap.size w w20 := HX.out.trans (hy20.mono (by omega)); have hs20 : (w1.heap.size + 1) ≤ w20.heap.size := (by have hz := hy20.size; simpa using hz); obtain ⟨_, _, _, _, _, _, _⟩ := HBX.out.keep hy20 (by omega); have hq20 := (hy20.cell (p := ⟨w1.heap.size, 2, none⟩) (Nat.lt_succ_self _)).trans (cell_new rfl); have hq30 := (hy20.cell (p := ⟨w1.heap.size, 3, none⟩) (Nat.lt_succ_self _)).trans (cell_new rfl); have hq50 := (hy20.cell (p := ⟨w1.heap.size, 5, none⟩) (Nat.lt_succ_self _)).trans (cell_new rfl); have HP20 := Lib.hid hap; clear hap)
    | (at_builtin; refine wpList_app rfl (.tmp 30) (.tmp 32) rfl Tryd.underlying31 infoInt rfl rfl (v := v20) (base := (w1.heap.size + 1)) (n := (0 + 1)) (m := i.l.length) (xs := ([] ++ [.int .i64 i.b])) (news := (i.l.map (Value.int .i64))) (own_keep HP20.out.own (by ((repeat' (first | with_reducible assumption | with_reducible exact Below.refl _ _ | with_reducible refine Below.drew ?_ | with_reducible refine Below.alloc ?_ (by first | omega | (simp; omega) | (simp; done) | fail) _ | with_reducible refine Below.setCell ?_ (by first | omega | (simp; omega) | (simp; done) | fail) _ | fail)); (first | done | fail)))) rfl ((HL.out.keep (by ((repeat' (first | with_reducible assumption | with_reducible exact Below.refl _ _ | with_reducible refine Below.drew ?_ | with_reducible refine Below.alloc ?_ (by first | omega | (simp; omega) | (simp; done) | fail) _ | with_reducible refine Below.setCell ?_ (by first | omega | (simp; omega) | (simp; done) | fail) _ | fail)); (first | done | fail)))).src) (ones_int i.l) (by unfold maxLen; omega) (by omega) (by first | omega | (simp; omega) | (simp; done)) ?_; intro v21 w21 hap; have hy21 : Below (w1.heap.size + 1) (w1.alloc (Obj.cells #[Value.bool kn, Value.bool d, Value.bool false, Value.bool true, Value.bool t, Value.int .i64 l, Value.int .i64 k, Value.int .i64 lo, Value.int .i64 hi] 80)) w21 := Below.trans (by ((repeat' (first | with_reducible assumption | with_reducible exact Below.refl _ _ | with_reducible refine Below.drew ?_ | with_reducible refine Below.alloc ?_ (by first | omega | (simp; omega) | (simp; done) | fail) _ | with_reducible refine Below.setCell ?_ (by first | omega | (simp; omega) | (simp; done) | fail) _ | fail)); (first | done | fail)) : Below (w1.heap.size + 1) (w1.alloc (Obj.cells #[Value.bool kn, Value.bool d, Value.bool false, Value.bool true, Value.bool t, Value.int .i64 l, Value.int .i64 k, Value.int .i64 lo, Value.int .i64 hi] 80)) _) (hap.below (by first | omega | (simp; omega) | (simp; done)) (fun g hg => (HP20.out.own.lt g hg).1)); have hb21 : Below w.heap.size w w21 := HX.out.trans (hy21.mono (by omega)); have hs21 : (w1.heap.size + 1) ≤ w21.heap.size := (by have hz := hy21.size; simpa using hz); obtain ⟨_, _, _, _, _, _, _⟩ := HBX.out.keep hy21 (by omega); have hq21 := (hy21.cell (p := ⟨w1.heap.size, 2, none⟩) (Nat.lt_succ_self _)).trans (cell_new rfl); have hq31 := (hy21.cell (p := ⟨w1.heap.size, 3, none⟩) (Nat.lt_succ_self _)).trans (cell_new rfl); have hq51 := (hy21.cell (p := ⟨w1.heap.size, 5, none⟩) (Nat.lt_succ_self _)).trans (cell_new rfl); have HP21 := Lib.hid hap; clear hap)
    | fail)
  go_ret
  exact ⟨_, rfl, by rw [HD.out]; exact own_conv (own_baseR (own_keep HP21.out.own (by ((repeat' (first | with_reducible assumption | with_reducible exact Below.refl _ _ | with_reducible refine Below.drew ?_ | with_reducible refine Below.alloc ?_ (by first | omega | (simp; omega) | (simp; done) | fail) _ | with_reducible refine Below.setCell ?_ (by first | omega | (simp; omega) | (simp; done) | fail) _ | fail)); (first | done | fail)))) (by omega)) (by first | (simp; done) | (simp; omega)) (by simp), by ((repeat' (first | with_reducible assumption | with_reducible exact Below.refl _ _ | with_reducible refine Below.drew ?_ | with_reducible refine Below.alloc ?_ (by first | omega | (simp; omega) | (simp; done) | fail) _ | with_reducible refine Below.setCell ?_ (by first | omega | (simp; omega) | (simp; done) | fail) _ | fail)); (first | done | fail))⟩
set_option maxRecDepth 100000 in
set_option maxHeartbeats 1000000 in
theorem rreads_100 (i : InsD) (lv : Value) (w : World) (hl : Ri w lv i.l) (hll : i.l.length ≤ 17592186043904) (kn d a b t : Bool) (l k lo hi : Int) (hr : rowAt i.op = ⟨kn, d, a, b, t, l, k, lo, hi⟩) (ha : a = true) (hb : b = false) (hq : (l != -1) = false) :
    Calls Tryd.prog 26 #[insV i lv] w (LPost w (readsD i)) := by
  have HD := Lib.hid (show readsD i = [i.a] from by
    have hro := rowOk i.op
    have e1 := hro.a
    have e2 := hro.b
    have e3 := hro.l
    have e4 := hro.d
    have e5 := hro.u
    rw [hr] at e1 e2 e3 e4
    simp only [ha, hb, hq, Bool.true_and, Bool.false_and] at e1 e2 e3 e4 e5
    simp [readsD, writesD, ← e1, ← e2, ← e3, ← e4, ← e5])
  have HL := Lib.hid hl
  obtain ⟨p, c, hlv, hx1, hx2, hx3⟩ := ri_form hl
  clear hl hx1 hx3
  subst hlv
  have HR := Lib.hid hr
  clear hr
  subst ha hb
  unfold insV
  go_enter Tryd.func26, Tryd.ntmps26
  go_wp2_with fail
  refine (rowof_any _ _).mono ?_
  rintro e w1 ⟨rfl, hb1⟩
  rw [HR.out]
  unfold rowV
  have hs1 : w.heap.size + 1 ≤ w1.heap.size := by have := hb1.size; simpa using this
  have HB7 := Lib.hid ((Box7.new w i (.slice p i.l.length c) 50).keep hb1 (by simp))
  have HW := Lib.hid (show Below w.heap.size w w1 from ((Below.refl _ _).alloc (Nat.le_refl _) _).trans (hb1.mono (by simp)))
  have HBX := Lib.hid (HB7.out.keep (B := w1.heap.size) ((Below.refl _ _).alloc (Nat.le_refl _) (Obj.cells #[Value.bool kn, Value.bool d, Value.bool true, Value.bool false, Value.bool t, Value.int .i64 l, Value.int .i64 k, Value.int .i64 lo, Value.int .i64 hi] 80)) (by omega))
  have HX := Lib.hid (HW.out.alloc HW.out.size (Obj.cells #[Value.bool kn, Value.bool d, Value.bool true, Value.bool false, Value.bool t, Value.int .i64 l, Value.int .i64 k, Value.int .i64 lo, Value.int .i64 hi] 80))
  clear hb1
  obtain ⟨_, _, _, _, _, _, _⟩ := HBX.out
  obtain ⟨_, _, _, _, _, _, _⟩ := HB7.out
  have hw0 := HX.out
  go_wp2_with (first
    | (at_builtin; refine wpList_app rfl (.tmp 10) (.tmp 13) rfl Tryd.underlying31 infoInt rfl rfl (v := .slice none 0 0) (base := (w1.heap.size + 1)) (n := 0) (m := 1) (xs := []) (news := [.int .i64 i.a]) (World.ownsRow_nil _ _ _ _) rfl (by exact src_top (by first | rfl | (simp; done))) (ones_int [i.a]) (by unfold maxLen; omega) (by omega) (by first | omega | (simp; omega) | (simp; done)) ?_; intro v20 w20 hap; have hy20 : Below (w1.heap.size + 1) (w1.alloc (Obj.cells #[Value.bool kn, Value.bool d, Value.bool true, Value.bool false, Value.bool t, Value.int .i64 l, Value.int .i64 k, Value.int .i64 lo, Value.int .i64 hi] 80)) w20 := Below.trans (by ((repeat' (first | with_reducible assumption | with_reducible exact Below.refl _ _ | with_reducible refine Below.drew ?_ | with_reducible refine Below.alloc ?_ (by first | omega | (simp; omega) | (simp; done) | fail) _ | with_reducible refine Below.setCell ?_ (by first | omega | (simp; omega) | (simp; done) | fail) _ | fail)); (first | done | fail)) : Below (w1.heap.size + 1) (w1.alloc (Obj.cells #[Value.bool kn, Value.bool d, Value.bool true, Value.bool false, Value.bool t, Value.int .i64 l, Value.int .i64 k, Value.int .i64 lo, Value.int .i64 hi] 80)) _) (hap.below (by first | omega | (simp; omega) | (simp; done)) (fun g hg => (by simp [Value.ownBlock] at hg))); have hb20 : Below w.heap.size w w20 := HX.out.trans (hy20.mono (by omega)); have hs20 : (w1.heap.size + 1) ≤ w20.heap.size := (by have hz := hy20.size; simpa using hz); obtain ⟨_, _, _, _, _, _, _⟩ := HBX.out.keep hy20 (by omega); have hq20 := (hy20.cell (p := ⟨w1.heap.size, 2, none⟩) (Nat.lt_succ_self _)).trans (cell_new rfl); have hq30 := (hy20.cell (p := ⟨w1.heap.size, 3, none⟩) (Nat.lt_succ_self _)).trans (cell_new rfl); have hq50 := (hy20.cell (p := ⟨w1.heap.size, 5, none⟩) (Nat.lt_succ_self _)).trans (cell_new rfl); have HP20 := Lib.hid hap; clear hap)
    | fail)
  go_ret
  exact ⟨_, rfl, by rw [HD.out]; exact own_conv (own_baseR (own_keep HP20.out.own (by ((repeat' (first | with_reducible assumption | with_reducible exact Below.refl _ _ | with_reducible refine Below.drew ?_ | with_reducible refine Below.alloc ?_ (by first | omega | (simp; omega) | (simp; done) | fail) _ | with_reducible refine Below.setCell ?_ (by first | omega | (simp; omega) | (simp; done) | fail) _ | fail)); (first | done | fail)))) (by omega)) (by first | (simp; done) | (simp; omega)) (by simp), by ((repeat' (first | with_reducible assumption | with_reducible exact Below.refl _ _ | with_reducible refine Below.drew ?_ | with_reducible refine Below.alloc ?_ (by first | omega | (simp; omega) | (simp; done) | fail) _ | with_reducible refine Below.setCell ?_ (by first | omega | (simp; omega) | (simp; done) | fail) _ | fail)); (first | done | fail))⟩
set_option maxRecDepth 100000 in
set_option maxHeartbeats 1000000 in
theorem rreads_101 (i : InsD) (lv : Value) (w : World) (hl : Ri w lv i.l) (hll : i.l.length ≤ 17592186043904) (kn d a b t : Bool) (l k lo hi : Int) (hr : rowAt i.op = ⟨kn, d, a, b, t, l, k, lo, hi⟩) (ha : a = true) (hb : b = false) (hq : (l != -1) = true) (ho : (i.op != 35) = false) :
    Calls Tryd.prog 26 #[insV i lv] w (LPost w (readsD i)) := by
  have HD := Lib.hid (show readsD i = [i.a] from by
    have hro := rowOk i.op
    have e1 := hro.a
    have e2 := hro.b
    have e3 := hro.l
    have e4 := hro.d
    have e5 := hro.u
    rw [hr] at e1 e2 e3 e4
    simp only [ha, hb, hq, ho, Bool.true_and, Bool.false_and] at e1 e2 e3 e4 e5
    simp [readsD, writesD, ← e1, ← e2, ← e3, ← e4, ← e5])
  have HL := Lib.hid hl
  obtain ⟨p, c, hlv, hx1, hx2, hx3⟩ := ri_form hl
  clear hl hx1 hx3
  subst hlv
  have HR := Lib.hid hr
  clear hr
  subst ha hb
  unfold insV
  go_enter Tryd.func26, Tryd.ntmps26
  go_wp2_with fail
  refine (rowof_any _ _).mono ?_
  rintro e w1 ⟨rfl, hb1⟩
  rw [HR.out]
  unfold rowV
  have hs1 : w.heap.size + 1 ≤ w1.heap.size := by have := hb1.size; simpa using this
  have HB7 := Lib.hid ((Box7.new w i (.slice p i.l.length c) 50).keep hb1 (by simp))
  have HW := Lib.hid (show Below w.heap.size w w1 from ((Below.refl _ _).alloc (Nat.le_refl _) _).trans (hb1.mono (by simp)))
  have HBX := Lib.hid (HB7.out.keep (B := w1.heap.size) ((Below.refl _ _).alloc (Nat.le_refl _) (Obj.cells #[Value.bool kn, Value.bool d, Value.bool true, Value.bool false, Value.bool t, Value.int .i64 l, Value.int .i64 k, Value.int .i64 lo, Value.int .i64 hi] 80)) (by omega))
  have HX := Lib.hid (HW.out.alloc HW.out.size (Obj.cells #[Value.bool kn, Value.bool d, Value.bool true, Value.bool false, Value.bool t, Value.int .i64 l, Value.int .i64 k, Value.int .i64 lo, Value.int .i64 hi] 80))
  clear hb1
  obtain ⟨_, _, _, _, _, _, _⟩ := HBX.out
  obtain ⟨_, _, _, _, _, _, _⟩ := HB7.out
  have hw0 := HX.out
  go_wp2_with (first
    | (at_builtin; refine wpList_app rfl (.tmp 10) (.tmp 13) rfl Tryd.underlying31 infoInt rfl rfl (v := .slice none 0 0) (base := (w1.heap.size + 1)) (n := 0) (m := 1) (xs := []) (news := [.int .i64 i.a]) (World.ownsRow_nil _ _ _ _) rfl (by exact src_top (by first | rfl | (simp; done))) (ones_int [i.a]) (by unfold maxLen; omega) (by omega) (by first | omega | (simp; omega) | (simp; done)) ?_; intro v20 w20 hap; have hy20 : Below (w1.heap.size + 1) (w1.alloc (Obj.cells #[Value.bool kn, Value.bool d, Value.bool true, Value.bool false, Value.bool t, Value.int .i64 l, Value.int .i64 k, Value.int .i64 lo, Value.int .i64 hi] 80)) w20 := Below.trans (by ((repeat' (first | with_reducible assumption | with_reducible exact Below.refl _ _ | with_reducible refine Below.drew ?_ | with_reducible refine Below.alloc ?_ (by first | omega | (simp; omega) | (simp; done) | fail) _ | with_reducible refine Below.setCell ?_ (by first | omega | (simp; omega) | (simp; done) | fail) _ | fail)); (first | done | fail)) : Below (w1.heap.size + 1) (w1.alloc (Obj.cells #[Value.bool kn, Value.bool d, Value.bool true, Value.bool false, Value.bool t, Value.int .i64 l, Value.int .i64 k, Value.int .i64 lo, Value.int .i64 hi] 80)) _) (hap.below (by first | omega | (simp; omega) | (simp; done)) (fun g hg => (by simp [Value.ownBlock] at hg))); have hb20 : Below w.heap.size w w20 := HX.out.trans (hy20.mono (by omega)); have hs20 : (w1.heap.size + 1) ≤ w20.heap.size := (by have hz := hy20.size; simpa using hz); obtain ⟨_, _, _, _, _, _, _⟩ := HBX.out.keep hy20 (by omega); have hq20 := (hy20.cell (p := ⟨w1.heap.size, 2, none⟩) (Nat.lt_succ_self _)).trans (cell_new rfl); have hq30 := (hy20.cell (p := ⟨w1.heap.size, 3, none⟩) (Nat.lt_succ_self _)).trans (cell_new rfl); have hq50 := (hy20.cell (p := ⟨w1.heap.size, 5, none⟩) (Nat.lt_succ_self _)).trans (cell_new rfl); have HP20 := Lib.hid hap; clear hap)
    | fail)
  go_ret
  exact ⟨_, rfl, by rw [HD.out]; exact own_conv (own_baseR (own_keep HP20.out.own (by ((repeat' (first | with_reducible assumption | with_reducible exact Below.refl _ _ | with_reducible refine Below.drew ?_ | with_reducible refine Below.alloc ?_ (by first | omega | (simp; omega) | (simp; done) | fail) _ | with_reducible refine Below.setCell ?_ (by first | omega | (simp; omega) | (simp; done) | fail) _ | fail)); (first | done | fail)))) (by omega)) (by first | (simp; done) | (simp; omega)) (by simp), by ((repeat' (first | with_reducible assumption | with_reducible exact Below.refl _ _ | with_reducible refine Below.drew ?_ | with_reducible refine Below.alloc ?_ (by first | omega | (simp; omega) | (simp; done) | fail) _ | with_reducible refine Below.setCell ?_ (by first | omega | (simp; omega) | (simp; done) | fail) _ | fail)); (first | done | fail))⟩
set_option maxRecDepth 100000 in
set_option maxHeartbeats 1000000 in
theorem rreads_102 (i : InsD) (lv : Value) (w : World) (hl : Ri w lv i.l) (hll : i.l.length ≤ 17592186043904) (kn d a b t : Bool) (l k lo hi : Int) (hr : rowAt i.op = ⟨kn, d, a, b, t, l, k, lo, hi⟩) (ha : a = true) (hb : b = false) (hq : (l != -1) = true) (ho : (i.op != 35) = true) :
    Calls Tryd.prog 26 #[insV i lv] w (LPost w (readsD i)) := by
  have HD := Lib.hid (show readsD i = [i.a] ++ i.l from by
    have hro := rowOk i.op
    have e1 := hro.a
    have e2 := hro.b
    have e3 := hro.l
    have e4 := hro.d
    have e5 := hro.u
    rw [hr] at e1 e2 e3 e4
    simp only [ha, hb, hq, ho, Bool.true_and, Bool.false_and] at e1 e2 e3 e4 e5
    simp [readsD, writesD, ← e1, ← e2, ← e3, ← e4, ← e5])
  have HL := Lib.hid hl
  obtain ⟨p, c, hlv, hx1, hx2, hx3⟩ := ri_form hl
  clear hl hx1 hx3
  subst hlv
  have HR := Lib.hid hr
  clear hr
  subst ha hb
  unfold insV
  go_enter Tryd.func26, Tryd.ntmps26
  go_wp2_with fail
  refine (rowof_any _ _).mono ?_
  rintro e w1 ⟨rfl, hb1⟩
  rw [HR.out]
  unfold rowV
  have hs1 : w.heap.size + 1 ≤ w1.heap.size := by have := hb1.size; simpa using this
  have HB7 := Lib.hid ((Box7.new w i (.slice p i.l.length c) 50).keep hb1 (by simp))
  have HW := Lib.hid (show Below w.heap.size w w1 from ((Below.refl _ _).alloc (Nat.le_refl _) _).trans (hb1.mono (by simp)))
  have HBX := Lib.hid (HB7.out.keep (B := w1.heap.size) ((Below.refl _ _).alloc (Nat.le_refl _) (Obj.cells #[Value.bool kn, Value.bool d, Value.bool true, Value.bool false, Value.bool t, Value.int .i64 l, Value.int .i64 k, Value.int .i64 lo, Value.int .i64 hi] 80)) (by omega))
  have HX := Lib.hid (HW.out.alloc HW.out.size (Obj.cells #[Value.bool kn, Value.bool d, Value.bool true, Value.bool false, Value.bool t, Value.int .i64 l, Value.int .i64 k, Value.int .i64 lo, Value.int .i64 hi] 80))
  clear hb1
  obtain ⟨_, _, _, _, _, _, _⟩ := HBX.out
  obtain ⟨_, _, _, _, _, _, _⟩ := HB7.out
  have hw0 := HX.out
  go_wp2_with (first
    | (at_builtin; refine wpList_app rfl (.tmp 10) (.tmp 13) rfl Tryd.underlying31 infoInt rfl rfl (v := .slice none 0 0) (base := (w1.heap.size + 1)) (n := 0) (m := 1) (xs := []) (news := [.int .i64 i.a]) (World.ownsRow_nil _ _ _ _) rfl (by exact src_top (by first | rfl | (simp; done))) (ones_int [i.a]) (by unfold maxLen; omega) (by omega) (by first | omega | (simp; omega) | (simp; done)) ?_; intro v20 w20 hap; have hy20 : Below (w1.heap.size + 1) (w1.alloc (Obj.cells #[Value.bool kn, Value.bool d, Value.bool true, Value.bool false, Value.bool t, Value.int .i64 l, Value.int .i64 k, Value.int .i64 lo, Value.int .i64 hi] 80)) w20 := Below.trans (by ((repeat' (first | with_reducible assumption | with_reducible exact Below.refl _ _ | with_reducible refine Below.drew ?_ | with_reducible refine Below.alloc ?_ (by first | omega | (simp; omega) | (simp; done) | fail) _ | with_reducible refine Below.setCell ?_ (by first | omega | (simp; omega) | (simp; done) | fail) _ | fail)); (first | done | fail)) : Below (w1.heap.size + 1) (w1.alloc (Obj.cells #[Value.bool kn, Value.bool d, Value.bool true, Value.bool false, Value.bool t, Value.int .i64 l, Value.int .i64 k, Value.int .i64 lo, Value.int .i64 hi] 80)) _) (hap.below (by first | omega | (simp; omega) | (simp; done)) (fun g hg => (by simp [Value.ownBlock] at hg))); have hb20 : Below w.heap.size w w20 := HX.out.trans (hy20.mono (by omega)); have hs20 : (w1.heap.size + 1) ≤ w20.heap.size := (by have hz := hy20.size; simpa using hz); obtain ⟨_, _, _, _, _, _, _⟩ := HBX.out.keep hy20 (by omega); have hq20 := (hy20.cell (p := ⟨w1.heap.size, 2, none⟩) (Nat.lt_succ_self _)).trans (cell_new rfl); have hq30 := (hy20.cell (p := ⟨w1.heap.size, 3, none⟩) (Nat.lt_succ_self _)).trans (cell_new rfl); have hq50 := (hy20.cell (p := ⟨w1.heap.size, 5, none⟩) (Nat.lt_succ_self _)).trans (cell_new rfl); have HP20 := Lib.hid hap; clear hap)
    | (at_builtin; refine wpList_app rfl (.tmp 30) (.tmp 32) rfl Tryd.underlying31 infoInt rfl rfl (v := v20) (base := (w1.heap.size + 1)) (n := (0 + 1)) (m := i.l.length) (xs := ([] ++ [.int .i64 i.a])) (news := (i.l.map (Value.int .i64))) (own_keep HP20.out.own (by ((repeat' (first | with_reducible assumption | with_reducible exact Below.refl _ _ | with_reducible refine Below.drew ?_ | with_reducible refine Below.alloc ?_ (by first | omega | (simp; omega) | (simp; done) | fail) _ | with_reducible refine Below.setCell ?_ (by first | omega | (simp; omega) | (simp; done) | fail) _ | fail)); (first | done | fail)))) rfl ((HL.out.keep (by ((repeat' (first | with_reducible assumption | with_reducible exact Below.refl _ _ | with_reducible refine Below.drew ?_ | with_reducible refine Below.alloc ?_ (by first | omega | (simp; omega) | (simp; done) | fail) _ | with_reducible refine Below.setCell ?_ (by first | omega | (simp; omega) | (simp; done) | fail) _ | fail)); (first | done | fail)))).src) (ones_int i.l) (by unfold maxLen; omega) (by omega) (by first | omega | (simp; omega) | (simp; done)) ?_; intro v21 w21 hap; have hy21 : Below (w1.heap.size + 1) (w1.alloc (Obj.cells #[Value.bool kn, Value.bool d, Value.bool true, Value.bool false, Value.bool t, Value.int .i64 l, Value.int .i64 k, Value.int .i64 lo, Value.int .i64 hi] 80)) w21 := Below.trans (by ((repeat' (first | with_reducible assumption | with_reducible exact Below.refl _ _ | with_reducible refine Below.drew ?_ | with_reducible refine Below.alloc ?_ (by first | omega | (simp; omega) | (simp; done) | fail) _ | with_reducible refine Below.setCell ?_ (by first | omega | (simp; omega) | (simp; done) | fail) _ | fail)); (first | done | fail)) : Below (w1.heap.size + 1) (w1.alloc (Obj.cells #[Value.bool kn, Value.bool d, Value.bool true, Value.bool false, Value.bool t, Value.int .i64 l, Value.int .i64 k, Value.int .i64 lo, Value.int .i64 hi] 80)) _) (hap.below (by first | omega | (simp; omega) | (simp; done)) (fun g hg => (HP20.out.own.lt g hg).1)); have hb21 : Below w.heap.size w w21 := HX.out.trans (hy21.mono (by omega)); have hs21 : (w1.heap.size + 1) ≤ w21.heap.size := (by have hz := hy21.size; simpa using hz); obtain ⟨_, _, _, _, _, _, _⟩ := HBX.out.keep hy21 (by omega); have hq21 := (hy21.cell (p := ⟨w1.heap.size, 2, none⟩) (Nat.lt_succ_self _)).trans (cell_new rfl); have hq31 := (hy21.cell (p := ⟨w1.heap.size, 3, none⟩) (Nat.lt_succ_self _)).trans (cell_new rfl); have hq51 := (hy21.cell (p := ⟨w1.heap.size, 5, none⟩) (Nat.lt_succ_self _)).trans (cell_new rfl); have HP21 := Lib.hid hap; clear hap)
    | fail)
  go_ret
  exact ⟨_, rfl, by rw [HD.out]; exact own_conv (own_baseR (own_keep HP21.out.own (by ((repeat' (first | with_reducible assumption | with_reducible exact Below.refl _ _ | with_reducible refine Below.drew ?_ | with_reducible refine Below.alloc ?_ (by first | omega | (simp; omega) | (simp; done) | fail) _ | with_reducible refine Below.setCell ?_ (by first | omega | (simp; omega) | (simp; done) | fail) _ | fail)); (first | done | fail)))) (by omega)) (by first | (simp; done) | (simp; omega)) (by simp), by ((repeat' (first | with_reducible assumption | with_reducible exact Below.refl _ _ | with_reducible refine Below.drew ?_ | with_reducible refine Below.alloc ?_ (by first | omega | (simp; omega) | (simp; done) | fail) _ | with_reducible refine Below.setCell ?_ (by first | omega | (simp; omega) | (simp; done) | fail) _ | fail)); (first | done | fail))⟩
set_option maxRecDepth 100000 in
set_option maxHeartbeats 1000000 in
theorem rreads_110 (i : InsD) (lv : Value) (w : World) (hl : Ri w lv i.l) (hll : i.l.length ≤ 17592186043904) (kn d a b t : Bool) (l k lo hi : Int) (hr : rowAt i.op = ⟨kn, d, a, b, t, l, k, lo, hi⟩) (ha : a = true) (hb : b = true) (hq : (l != -1) = false) :
    Calls Tryd.prog 26 #[insV i lv] w (LPost w (readsD i)) := by
  have HD := Lib.hid (show readsD i = [i.a] ++ [i.b] from by
    have hro := rowOk i.op
    have e1 := hro.a
    have e2 := hro.b
    have e3 := hro.l
    have e4 := hro.d
    have e5 := hro.u
    rw [hr] at e1 e2 e3 e4
    simp only [ha, hb, hq, Bool.true_and, Bool.false_and] at e1 e2 e3 e4 e5
    simp [readsD, writesD, ← e1, ← e2, ← e3, ← e4, ← e5])
  have HL := Lib.hid hl
  obtain ⟨p, c, hlv, hx1, hx2, hx3⟩ := ri_form hl
  clear hl hx1 hx3
  subst hlv
  have HR := Lib.hid hr
  clear hr
  subst ha hb
  unfold insV
  go_enter Tryd.func26, Tryd.ntmps26
  go_wp2_with fail
  refine (rowof_any _ _).mono ?_
  rintro e w1 ⟨rfl, hb1⟩
  rw [HR.out]
  unfold rowV
  have hs1 : w.heap.size + 1 ≤ w1.heap.size := by have := hb1.size; simpa using this
  have HB7 := Lib.hid ((Box7.new w i (.slice p i.l.length c) 50).keep hb1 (by simp))
  have HW := Lib.hid (show Below w.heap.size w w1 from ((Below.refl _ _).alloc (Nat.le_refl _) _).trans (hb1.mono (by simp)))
  have HBX := Lib.hid (HB7.out.keep (B := w1.heap.size) ((Below.refl _ _).alloc (Nat.le_refl _) (Obj.cells #[Value.bool kn, Value.bool d, Value.bool true, Value.bool true, Value.bool t, Value.int .i64 l, Value.int .i64 k, Value.int .i64 lo, Value.int .i64 hi] 80)) (by omega))
  have HX := Lib.hid (HW.out.alloc HW.out.size (Obj.cells #[Value.bool kn, Value.bool d, Value.bool true, Value.bool true, Value.bool t, Value.int .i64 l, Value.int .i64 k, Value.int .i64 lo, Value.int .i64 hi] 80))
  clear hb1
  obtain ⟨_, _, _, _, _, _, _⟩ := HBX.out
  obtain ⟨_, _, _, _, _, _, _⟩ := HB7.out
  have hw0 := HX.out
  go_wp2_with (first
    | (at_builtin; refine wpList_app rfl (.tmp 10) (.tmp 13) rfl Tryd.underlying31 infoInt rfl rfl (v := .slice none 0 0) (base := (w1.heap.size + 1)) (n := 0) (m := 1) (xs := []) (news := [.int .i64 i.a]) (World.ownsRow_nil _ _ _ _) rfl (by exact src_top (by first | rfl | (simp; done))) (ones_int [i.a]) (by unfold maxLen; omega) (by omega) (by first | omega | (simp; omega) | (simp; done)) ?_; intro v20 w20 hap; have hy20 : Below (w1.heap.size + 1) (w1.alloc (Obj.cells #[Value.bool kn, Value.bool d, Value.bool true, Value.bool true, Value.bool t, Value.int .i64 l, Value.int .i64 k, Value.int .i64 lo, Value.int .i64 hi] 80)) w20 := Below.trans (by ((repeat' (first | with_reducible assumption | with_reducible exact Below.refl _ _ | with_reducible refine Below.drew ?_ | with_reducible refine Below.alloc ?_ (by first | omega | (simp; omega) | (simp; done) | fail) _ | with_reducible refine Below.setCell ?_ (by first | omega | (simp; omega) | (simp; done) | fail) _ | fail)); (first | done | fail)) : Below (w1.heap.size + 1) (w1.alloc (Obj.cells #[Value.bool kn, Value.bool d, Value.bool true, Value.bool true, Value.bool t, Value.int .i64 l, Value.int .i64 k, Value.int .i64 lo, Value.int .i64 hi] 80)) _) (hap.below (by first | omega | (simp; omega) | (simp; done)) (fun g hg => (by simp [Value.ownBlock] at hg))); have hb20 : Below w.heap.size w w20 := HX.out.trans (hy20.mono (by omega)); have hs20 : (w1.heap.size + 1) ≤ w20.heap.size := (by have hz := hy20.size; simpa using hz); obtain ⟨_, _, _, _, _, _, _⟩ := HBX.out.keep hy20 (by omega); have hq20 := (hy20.cell (p := ⟨w1.heap.size, 2, none⟩) (Nat.lt_succ_self _)).trans (cell_new rfl); have hq30 := (hy20.cell (p := ⟨w1.heap.size, 3, none⟩) (Nat.lt_succ_self _)).trans (cell_new rfl); have hq50 := (hy20.cell (p := ⟨w1.heap.size, 5, none⟩) (Nat.lt_succ_self _)).trans (cell_new rfl); have HP20 := Lib.hid hap; clear hap)
    | (at_builtin; refine wpList_app rfl (.tmp 17) (.tmp 20) rfl Tryd.underlying31 infoInt rfl rfl (v := v20) (base := (w1.heap.size + 1)) (n := (0 + 1)) (m := 1) (xs := ([] ++ [.int .i64 i.a])) (news := [.int .i64 i.b]) (own_keep HP20.out.own (by ((repeat' (first | with_reducible assumption | with_reducible exact Below.refl _ _ | with_reducible refine Below.drew ?_ | with_reducible refine Below.alloc ?_ (by first | omega | (simp; omega) | (simp; done) | fail) _ | with_reducible refine Below.setCell ?_ (by first | omega | (simp; omega) | (simp; done) | fail) _ | fail)); (first | done | fail)))) rfl (by exact src_top (by first | rfl | (simp; done))) (ones_int [i.b]) (by unfold maxLen; omega) (by omega) (by first | omega | (simp; omega) | (simp; done)) ?_; intro v21 w21 hap; have hy21 : Below (w1.heap.size + 1) (w1.alloc (Obj.cells #[Value.bool kn, Value.bool d, Value.bool true, Value.bool true, Value.bool t, Value.int .i64 l, Value.int .i64 k, Value.int .i64 lo, Value.int .i64 hi] 80)) w21 := Below.trans (by ((repeat' (first | with_reducible assumption | with_reducible exact Below.refl _ _ | with_reducible refine Below.drew ?_ | with_reducible refine Below.alloc ?_ (by first | omega | (simp; omega) | (simp; done) | fail) _ | with_reducible refine Below.setCell ?_ (by first | omega | (simp; omega) | (simp; done) | fail) _ | fail)); (first | done | fail)) : Below (w1.heap.size + 1) (w1.alloc (Obj.cells #[Value.bool kn, Value.bool d, Value.bool true, Value.bool true, Value.bool t, Value.int .i64 l, Value.int .i64 k, Value.int .i64 lo, Value.int .i64 hi] 80)) _) (hap.below (by first | omega | (simp; omega) | (simp; done)) (fun g hg => (HP20.out.own.lt g hg).1)); have hb21 : Below w.heap.size w w21 := HX.out.trans (hy21.mono (by omega)); have hs21 : (w1.heap.size + 1) ≤ w21.heap.size := (by have hz := hy21.size; simpa using hz); obtain ⟨_, _, _, _, _, _, _⟩ := HBX.out.keep hy21 (by omega); have hq21 := (hy21.cell (p := ⟨w1.heap.size, 2, none⟩) (Nat.lt_succ_self _)).trans (cell_new rfl); have hq31 := (hy21.cell (p := ⟨w1.heap.size, 3, none⟩) (Nat.lt_succ_self _)).trans (cell_new rfl); have hq51 := (hy21.cell (p := ⟨w1.heap.size, 5, none⟩) (Nat.lt_succ_self _)).trans (cell_new rfl); have HP21 := Lib.hid hap; clear hap)
    | fail)
  go_ret
  exact ⟨_, rfl, by rw [HD.out]; exact own_conv (own_baseR (own_keep HP21.out.own (by ((repeat' (first | with_reducible assumption | with_reducible exact Below.refl _ _ | with_reducible refine Below.drew ?_ | with_reducible refine Below.alloc ?_ (by first | omega | (simp; omega) | (simp; done) | fail) _ | with_reducible refine Below.setCell ?_ (by first | omega | (simp; omega) | (simp; done) | fail) _ | fail)); (first | done | fail)))) (by omega)) (by first | (simp; done) | (simp; omega)) (by simp), by ((repeat' (first | with_reducible assumption | with_reducible exact Below.refl _ _ | with_reducible refine Below.drew ?_ | with_reducible refine Below.alloc ?_ (by first | omega | (simp; omega) | (simp; done) | fail) _ | with_reducible refine Below.setCell ?_ (by first | omega | (simp; omega) | (simp; done) | fail) _ | fail)); (first | done | fail))⟩
set_option maxRecDepth 100000 in
set_option maxHeartbeats 1000000 in
theorem rreads_111 (i : InsD) (lv : Value) (w : World) (hl : Ri w lv i.l) (hll : i.l.length ≤ 17592186043904) (kn d a b t : Bool) (l k lo hi : Int) (hr : rowAt i.op = ⟨kn, d, a, b, t, l, k, lo, hi⟩) (ha : a = true) (hb : b = true) (hq : (l != -1) = true) (ho : (i.op != 35) = false) :
    Calls Tryd.prog 26 #[insV i lv] w (LPost w (readsD i)) := by
  have HD := Lib.hid (show readsD i = [i.a] ++ [i.b] from by
    have hro := rowOk i.op
    have e1 := hro.a
    have e2 := hro.b
    have e3 := hro.l
    have e4 := hro.d
    have e5 := hro.u
    rw [hr] at e1 e2 e3 e4
    simp only [ha, hb, hq, ho, Bool.true_and, Bool.false_and] at e1 e2 e3 e4 e5
    simp [readsD, writesD, ← e1, ← e2, ← e3, ← e4, ← e5])
  have HL := Lib.hid hl
  obtain ⟨p, c, hlv, hx1, hx2, hx3⟩ := ri_form hl
  clear hl hx1 hx3
  subst hlv
  have HR := Lib.hid hr
  clear hr
  subst ha hb
  unfold insV
  go_enter Tryd.func26, Tryd.ntmps26
  go_wp2_with fail
  refine (rowof_any _ _).mono ?_
  rintro e w1 ⟨rfl, hb1⟩
  rw [HR.out]
  unfold rowV
  have hs1 : w.heap.size + 1 ≤ w1.heap.size := by have := hb1.size; simpa using this
  have HB7 := Lib.hid ((Box7.new w i (.slice p i.l.length c) 50).keep hb1 (by simp))
  have HW := Lib.hid (show Below w.heap.size w w1 from ((Below.refl _ _).alloc (Nat.le_refl _) _).trans (hb1.mono (by simp)))
  have HBX := Lib.hid (HB7.out.keep (B := w1.heap.size) ((Below.refl _ _).alloc (Nat.le_refl _) (Obj.cells #[Value.bool kn, Value.bool d, Value.bool true, Value.bool true, Value.bool t, Value.int .i64 l, Value.int .i64 k, Value.int .i64 lo, Value.int .i64 hi] 80)) (by omega))
  have HX := Lib.hid (HW.out.alloc HW.out.size (Obj.cells #[Value.bool kn, Value.bool d, Value.bool true, Value.bool true, Value.bool t, Value.int .i64 l, Value.int .i64 k, Value.int .i64 lo, Value.int .i64 hi] 80))
  clear hb1
  obtain ⟨_, _, _, _, _, _, _⟩ := HBX.out
  obtain ⟨_, _, _, _, _, _, _⟩ := HB7.out
  have hw0 := HX.out
  go_wp2_with (first
    | (at_builtin; refine wpList_app rfl (.tmp 10) (.tmp 13) rfl Tryd.underlying31 infoInt rfl rfl (v := .slice none 0 0) (base := (w1.heap.size + 1)) (n := 0) (m := 1) (xs := []) (news := [.int .i64 i.a]) (World.ownsRow_nil _ _ _ _) rfl (by exact src_top (by first | rfl | (simp; done))) (ones_int [i.a]) (by unfold maxLen; omega) (by omega) (by first | omega | (simp; omega) | (simp; done)) ?_; intro v20 w20 hap; have hy20 : Below (w1.heap.size + 1) (w1.alloc (Obj.cells #[Value.bool kn, Value.bool d, Value.bool true, Value.bool true, Value.bool t, Value.int .i64 l, Value.int .i64 k, Value.int .i64 lo, Value.int .i64 hi] 80)) w20 := Below.trans (by ((repeat' (first | with_reducible assumption | with_reducible exact Below.refl _ _ | with_reducible refine Below.drew ?_ | with_reducible refine Below.alloc ?_ (by first | omega | (simp; omega) | (simp; done) | fail) _ | with_reducible refine Below.setCell ?_ (by first | omega | (simp; omega) | (simp; done) | fail) _ | fail)); (first | done | fail)) : Below (w1.heap.size + 1) (w1.alloc (Obj.cells #[Value.bool kn, Value.bool d, Value.bool true, Value.bool true, Value.bool t, Value.int .i64 l, Value.int .i64 k, Value.int .i64 lo, Value.int .i64 hi] 80)) _) (hap.below (by first | omega | (simp; omega) | (simp; done)) (fun g hg => (by simp [Value.ownBlock] at hg))); have hb20 : Below w.heap.size w w20 := HX.out.trans (hy20.mono (by omega)); have hs20 : (w1.heap.size + 1) ≤ w20.heap.size := (by have hz := hy20.size; simpa using hz); obtain ⟨_, _, _, _, _, _, _⟩ := HBX.out.keep hy20 (by omega); have hq20 := (hy20.cell (p := ⟨w1.heap.size, 2, none⟩) (Nat.lt_succ_self _)).trans (cell_new rfl); have hq30 := (hy20.cell (p := ⟨w1.heap.size, 3, none⟩) (Nat.lt_succ_self _)).trans (cell_new rfl); have hq50 := (hy20.cell (p := ⟨w1.heap.size, 5, none⟩) (Nat.lt_succ_self _)).trans (cell_new rfl); have HP20 := Lib.hid hap; clear hap)
    | (at_builtin; refine wpList_app rfl (.tmp 17) (.tmp 20) rfl Tryd.underlying31 infoInt rfl rfl (v := v20) (base := (w1.heap.size + 1)) (n := (0 + 1)) (m := 1) (xs := ([] ++ [.int .i64 i.a])) (news := [.int .i64 i.b]) (own_keep HP20.out.own (by ((repeat' (first | with_reducible assumption | with_reducible exact Below.refl _ _ | with_reducible refine Below.drew ?_ | with_reducible refine Below.alloc ?_ (by first | omega | (simp; omega) | (simp; done) | fail) _ | with_reducible refine Below.setCell ?_ (by first | omega | (simp; omega) | (simp; done) | fail) _ | fail)); (first | done | fail)))) rfl (by exact src_top (by first | rfl | (simp; done))) (ones_int [i.b]) (by unfold maxLen; omega) (by omega) (by first | omega | (simp; omega) | (simp; done)) ?_; intro v21 w21 hap; have hy21 : Below (w1.heap.size + 1) (w1.alloc (Obj.cells #[Value.bool kn, Value.bool d, Value.bool true, Value.bool true, Value.bool t, Value.int .i64 l, Value.int .i64 k, Value.int .i64 lo, Value.int .i64 hi] 80)) w21 := Below.trans (by ((repeat' (first | with_reducible assumption | with_reducible exact Below.refl _ _ | with_reducible refine Below.drew ?_ | with_reducible refine Below.alloc ?_ (by first | omega | (simp; omega) | (simp; done) | fail) _ | with_reducible refine Below.setCell ?_ (by first | omega | (simp; omega) | (simp; done) | fail) _ | fail)); (first | done | fail)) : Below (w1.heap.size + 1) (w1.alloc (Obj.cells #[Value.bool kn, Value.bool d, Value.bool true, Value.bool true, Value.bool t, Value.int .i64 l, Value.int .i64 k, Value.int .i64 lo, Value.int .i64 hi] 80)) _) (hap.below (by first | omega | (simp; omega) | (simp; done)) (fun g hg => (HP20.out.own.lt g hg).1)); have hb21 : Below w.heap.size w w21 := HX.out.trans (hy21.mono (by omega)); have hs21 : (w1.heap.size + 1) ≤ w21.heap.size := (by have hz := hy21.size; simpa using hz); obtain ⟨_, _, _, _, _, _, _⟩ := HBX.out.keep hy21 (by omega); have hq21 := (hy21.cell (p := ⟨w1.heap.size, 2, none⟩) (Nat.lt_succ_self _)).trans (cell_new rfl); have hq31 := (hy21.cell (p := ⟨w1.heap.size, 3, none⟩) (Nat.lt_succ_self _)).trans (cell_new rfl); have hq51 := (hy21.cell (p := ⟨w1.heap.size, 5, none⟩) (Nat.lt_succ_self _)).trans (cell_new rfl); have HP21 := Lib.hid hap; clear hap)
    | fail)
  go_ret
  exact ⟨_, rfl, by rw [HD.out]; exact own_conv (own_baseR (own_keep HP21.out.own (by ((repeat' (first | with_reducible assumption | with_reducible exact Below.refl _ _ | with_reducible refine Below.drew ?_ | with_reducible refine Below.alloc ?_ (by first | omega | (simp; omega) | (simp; done) | fail) _ | with_reducible refine Below.setCell ?_ (by first | omega | (simp; omega) | (simp; done) | fail) _ | fail)); (first | done | fail)))) (by omega)) (by first | (simp; done) | (simp; omega)) (by simp), by ((repeat' (first | with_reducible assumption | with_reducible exact Below.refl _ _ | with_reducible refine Below.drew ?_ | with_reducible refine Below.alloc ?_ (by first | omega | (simp; omega) | (simp; done) | fail) _ | with_reducible refine Below.setCell ?_ (by first | omega | (simp; omega) | (simp; done) | fail) _ | fail)); (first | done | fail))⟩
set_option maxRecDepth 100000 in
set_option maxHeartbeats 1000000 in
theorem rreads_112 (i : InsD) (lv : Value) (w : World) (hl : Ri w lv i.l) (hll : i.l.length ≤ 17592186043904) (kn d a b t : Bool) (l k lo hi : Int) (hr : rowAt i.op = ⟨kn, d, a, b, t, l, k, lo, hi⟩) (ha : a = true) (hb : b = true) (hq : (l != -1) = true) (ho : (i.op != 35) = true) :
    Calls Tryd.prog 26 #[insV i lv] w (LPost w (readsD i)) := by
  have HD := Lib.hid (show readsD i = [i.a] ++ [i.b] ++ i.l from by
    have hro := rowOk i.op
    have e1 := hro.a
    have e2 := hro.b
    have e3 := hro.l
    have e4 := hro.d
    have e5 := hro.u
    rw [hr] at e1 e2 e3 e4
    simp only [ha, hb, hq, ho, Bool.true_and, Bool.false_and] at e1 e2 e3 e4 e5
    simp [readsD, writesD, ← e1, ← e2, ← e3, ← e4, ← e5])
  have HL := Lib.hid hl
  obtain ⟨p, c, hlv, hx1, hx2, hx3⟩ := ri_form hl
  clear hl hx1 hx3
  subst hlv
  have HR := Lib.hid hr
  clear hr
  subst ha hb
  unfold insV
  go_enter Tryd.func26, Tryd.ntmps26
  go_wp2_with fail
  refine (rowof_any _ _).mono ?_
  rintro e w1 ⟨rfl, hb1⟩
  rw [HR.out]
  unfold rowV
  have hs1 : w.heap.size + 1 ≤ w1.heap.size := by have := hb1.size; simpa using this
  have HB7 := Lib.hid ((Box7.new w i (.slice p i.l.length c) 50).keep hb1 (by simp))
  have HW := Lib.hid (show Below w.heap.size w w1 from ((Below.refl _ _).alloc (Nat.le_refl _) _).trans (hb1.mono (by simp)))
  have HBX := Lib.hid (HB7.out.keep (B := w1.heap.size) ((Below.refl _ _).alloc (Nat.le_refl _) (Obj.cells #[Value.bool kn, Value.bool d, Value.bool true, Value.bool true, Value.bool t, Value.int .i64 l, Value.int .i64 k, Value.int .i64 lo, Value.int .i64 hi] 80)) (by omega))
  have HX := Lib.hid (HW.out.alloc HW.out.size (Obj.cells #[Value.bool kn, Value.bool d, Value.bool true, Value.bool true, Value.bool t, Value.int .i64 l, Value.int .i64 k, Value.int .i64 lo, Value.int .i64 hi] 80))
  clear hb1
  obtain ⟨_, _, _, _, _, _, _⟩ := HBX.out
  obtain ⟨_, _, _, _, _, _, _⟩ := HB7.out
  have hw0 := HX.out
  go_wp2_with (first
    | (at_builtin; refine wpList_app rfl (.tmp 10) (.tmp 13) rfl Tryd.underlying31 infoInt rfl rfl (v := .slice none 0 0) (base := (w1.heap.size + 1)) (n := 0) (m := 1) (xs := []) (news := [.int .i64 i.a]) (World.ownsRow_nil _ _ _ _) rfl (by exact src_top (by first | rfl | (simp; done))) (ones_int [i.a]) (by unfold maxLen; omega) (by omega) (by first | omega | (simp; omega) | (simp; done)) ?_; intro v20 w20 hap; have hy20 : Below (w1.heap.size + 1) (w1.alloc (Obj.cells #[Value.bool kn, Value.bool d, Value.bool true, Value.bool true, Value.bool t, Value.int .i64 l, Value.int .i64 k, Value.int .i64 lo, Value.int .i64 hi] 80)) w20 := Below.trans (by ((repeat' (first | with_reducible assumption | with_reducible exact Below.refl _ _ | with_reducible refine Below.drew ?_ | with_reducible refine Below.alloc ?_ (by first | omega | (simp; omega) | (simp; done) | fail) _ | with_reducible refine Below.setCell ?_ (by first | omega | (simp; omega) | (simp; done) | fail) _ | fail)); (first | done | fail)) : Below (w1.heap.size + 1) (w1.alloc (Obj.cells #[Value.bool kn, Value.bool d, Value.bool true, Value.bool true, Value.bool t, Value.int .i64 l, Value.int .i64 k, Value.int .i64 lo, Value.int .i64 hi] 80)) _) (hap.below (by first | omega | (simp; omega) | (simp; done)) (fun g hg => (by simp [Value.ownBlock] at hg))); have hb20 : Below w.heap.size w w20 := HX.out.trans (hy20.mono (by omega)); have hs20 : (w1.heap.size + 1) ≤ w20.heap.size := (by have hz := hy20.size; simpa using hz); obtain ⟨_, _, _, _, _, _, _⟩ := HBX.out.keep hy20 (by omega); have hq20 := (hy20.cell (p := ⟨w1.heap.size, 2, none⟩) (Nat.lt_succ_self _)).trans (cell_new rfl); have hq30 := (hy20.cell (p := ⟨w1.heap.size, 3, none⟩) (Nat.lt_succ_self _)).trans (cell_new rfl); have hq50 := (hy20.cell (p := ⟨w1.heap.size, 5, none⟩) (Nat.lt_succ_self _)).trans (cell_new rfl); have HP20 := Lib.hid hap; clear hap)
    | (at_builtin; refine wpList_app rfl (.tmp 17) (.tmp 20) rfl Tryd.underlying31 infoInt rfl rfl (v := v20) (base := (w1.heap.size + 1)) (n := (0 + 1)) (m := 1) (xs := ([] ++ [.int .i64 i.a])) (news := [.int .i64 i.b]) (own_keep HP20.out.own (by ((repeat' (first | with_reducible assumption | with_reducible exact Below.refl _ _ | with_reducible refine Below.drew ?_ | with_reducible refine Below.alloc ?_ (by first | omega | (simp; omega) | (simp; done) | fail) _ | with_reducible refine Below.setCell ?_ (by first | omega | (simp; omega) | (simp; done) | fail) _ | fail)); (first | done | fail)))) rfl (by exact src_top (by first | rfl | (simp; done))) (ones_int [i.b]) (by unfold maxLen; omega) (by omega) (by first | omega | (simp; omega) | (simp; done)) ?_; intro v21 w21 hap; have hy21 : Below (w1.heap.size + 1) (w1.alloc (Obj.cells #[Value.bool kn, Value.bool d, Value.bool true, Value.bool true, Value.bool t, Value.int .i64 l, Value.int .i64 k, Value.int .i64 lo, Value.int .i64 hi] 80)) w21 := Below.trans (by ((repeat' (first | with_reducible assumption | with_reducible exact Below.refl _ _ | with_reducible refine Below.drew ?_ | with_reducible refine Below.alloc ?_ (by first | omega | (simp; omega) | (simp; done) | fail) _ | with_reducible refine Below.setCell ?_ (by first | omega | (simp; omega) | (simp; done) | fail) _ | fail)); (first | done | fail)) : Below (w1.heap.size + 1) (w1.alloc (Obj.cells #[Value.bool kn, Value.bool d, Value.bool true, Value.bool true, Value.bool t, Value.int .i64 l, Value.int .i64 k, Value.int .i64 lo, Value.int .i64 hi] 80)) _) (hap.below (by first | omega | (simp; omega) | (simp; done)) (fun g hg => (HP20.out.own.lt g hg).1)); have hb21 : Below w.heap.size w w21 := HX.out.trans (hy21.mono (by omega)); have hs21 : (w1.heap.size + 1) ≤ w21.heap.size := (by have hz := hy21.size; simpa using hz); obtain ⟨_, _, _, _, _, _, _⟩ := HBX.out.keep hy21 (by omega); have hq21 := (hy21.cell (p := ⟨w1.heap.size, 2, none⟩) (Nat.lt_succ_self _)).trans (cell_new rfl); have hq31 := (hy21.cell (p := ⟨w1.heap.size, 3, none⟩) (Nat.lt_succ_self _)).trans (cell_new rfl); have hq51 := (hy21.cell (p := ⟨w1.heap.size, 5, none⟩) (Nat.lt_succ_self _)).trans (cell_new rfl); have HP21 := Lib.hid hap; clear hap)
    | (at_builtin; refine wpList_app rfl (.tmp 30) (.tmp 32) rfl Tryd.underlying31 infoInt rfl rfl (v := v21) (base := (w1.heap.size + 1)) (n := ((0 + 1) + 1)) (m := i.l.length) (xs := (([] ++ [.int .i64 i.a]) ++ [.int .i64 i.b])) (news := (i.l.map (Value.int .i64))) (own_keep HP21.out.own (by ((repeat' (first | with_reducible assumption | with_reducible exact Below.refl _ _ | with_reducible refine Below.drew ?_ | with_reducible refine Below.alloc ?_ (by first | omega | (simp; omega) | (simp; done) | fail) _ | with_reducible refine Below.setCell ?_ (by first | omega | (simp; omega) | (simp; done) | fail) _ | fail)); (first | done | fail)))) rfl ((HL.out.keep (by ((repeat' (first | with_reducible assumption | with_reducible exact Below.refl _ _ | with_reducible refine Below.drew ?_ | with_reducible refine Below.alloc ?_ (by first | omega | (simp; omega) | (simp; done) | fail) _ | with_reducible refine Below.setCell ?_ (by first | omega | (simp; omega) | (simp; done) | fail) _ | fail)); (first | done | fail)))).src) (ones_int i.l) (by unfold maxLen; omega) (by omega) (by first | omega | (simp; omega) | (simp; done)) ?_; intro v22 w22 hap; have hy22 : Below (w1.heap.size + 1) (w1.alloc (Obj.cells #[Value.bool kn, Value.bool d, Value.bool true, Value.bool true, Value.bool t, Value.int .i64 l, Value.int .i64 k, Value.int .i64 lo, Value.int .i64 hi] 80)) w22 := Below.trans (by ((repeat' (first | with_reducible assumption | with_reducible exact Below.refl _ _ | with_reducible refine Below.drew ?_ | with_reducible refine Below.alloc ?_ (by first | omega | (simp; omega) | (simp; done) | fail) _ | with_reducible refine Below.setCell ?_ (by first | omega | (simp; omega) | (simp; done) | fail) _ | fail)); (first | done | fail)) : Below (w1.heap.size + 1) (w1.alloc (Obj.cells #[Value.bool kn, Value.bool d, Value.bool true, Value.bool true, Value.bool t, Value.int .i64 l, Value.int .i64 k, Value.int .i64 lo, Value.int .i64 hi] 80)) _) (hap.below (by first | omega | (simp; omega) | (simp; done)) (fun g hg => (HP21.out.own.lt g hg).1)); have hb22 : Below w.heap.size w w22 := HX.out.trans (hy22.mono (by omega)); have hs22 : (w1.heap.size + 1) ≤ w22.heap.size := (by have hz := hy22.size; simpa using hz); obtain ⟨_, _, _, _, _, _, _⟩ := HBX.out.keep hy22 (by omega); have hq22 := (hy22.cell (p := ⟨w1.heap.size, 2, none⟩) (Nat.lt_succ_self _)).trans (cell_new rfl); have hq32 := (hy22.cell (p := ⟨w1.heap.size, 3, none⟩) (Nat.lt_succ_self _)).trans (cell_new rfl); have hq52 := (hy22.cell (p := ⟨w1.heap.size, 5, none⟩) (Nat.lt_succ_self _)).trans (cell_new rfl); have HP22 := Lib.hid hap; clear hap)
    | fail)
  go_ret
  exact ⟨_, rfl, by rw [HD.out]; exact own_conv (own_baseR (own_keep HP22.out.own (by ((repeat' (first | with_reducible assumption | with_reducible exact Below.refl _ _ | with_reducible refine Below.drew ?_ | with_reducible refine Below.alloc ?_ (by first | omega | (simp; omega) | (simp; done) | fail) _ | with_reducible refine Below.setCell ?_ (by first | omega | (simp; omega) | (simp; done) | fail) _ | fail)); (first | done | fail)))) (by omega)) (by first | (simp; done) | (simp; omega)) (by simp), by ((repeat' (first | with_reducible assumption | with_reducible exact Below.refl _ _ | with_reducible refine Below.drew ?_ | with_reducible refine Below.alloc ?_ (by first | omega | (simp; omega) | (simp; done) | fail) _ | with_reducible refine Below.setCell ?_ (by first | omega | (simp; omega) | (simp; done) | fail) _ | fail)); (first | done | fail))⟩
set_option maxRecDepth 100000 in
set_option maxHeartbeats 1000000 in
theorem rwrites_00 (i : InsD) (lv : Value) (w : World) (hl : Ri w lv i.l) (hll : i.l.length ≤ 17592186043904) (kn d a b t : Bool) (l k lo hi : Int) (hr : rowAt i.op = ⟨kn, d, a, b, t, l, k, lo, hi⟩) (hd : d = false) (ho : (i.op == 35) = false) :
    Calls Tryd.prog 29 #[insV i lv] w (LPost w (writesD i)) := by
  have HD := Lib.hid (show writesD i = [] from by
    have hro := rowOk i.op
    have e1 := hro.a
    have e2 := hro.b
    have e3 := hro.l
    have e4 := hro.d
    have e5 := hro.u
    rw [hr] at e1 e2 e3 e4
    simp only [hd, ho] at e1 e2 e3 e4 e5
    simp [readsD, writesD, ← e1, ← e2, ← e3, ← e4, ← e5])
  have HL := Lib.hid hl
  obtain ⟨p, c, hlv, hx1, hx2, hx3⟩ := ri_form hl
  clear hl hx1 hx3
  subst hlv
  have HR := Lib.hid hr
  clear hr
  subst hd
  have hfld := row_field1
  unfold insV
  go_enter Tryd.func29, Tryd.ntmps29
  go_wp2_with fail
  refine (rowof_any _ _).mono ?_
  rintro e w1 ⟨rfl, hb1⟩
  rw [HR.out]
  unfold rowV
  have hs1 : w.heap.size + 1 ≤ w1.heap.size := by have := hb1.size; simpa using this
  have HB7 := Lib.hid ((Box7.new w i (.slice p i.l.length c) 50).keep hb1 (by simp))
  have HW := Lib.hid (show Below w.heap.size w w1 from ((Below.refl _ _).alloc (Nat.le_refl _) _).trans (hb1.mono (by simp)))
  have HBX := HB7
  have HX := HW
  clear hb1
  obtain ⟨_, _, _, _, _, _, _⟩ := HBX.out
  have hw0 := HX.out
  go_wp2_with (first
    | fail)
  go_ret
  exact ⟨_, rfl, by rw [HD.out]; exact OW.nil _ _, HX.out⟩
set_option maxRecDepth 100000 in
set_option maxHeartbeats 1000000 in
theorem rwrites_01 (i : InsD) (lv : Value) (w : World) (hl : Ri w lv i.l) (hll : i.l.length ≤ 17592186043904) (kn d a b t : Bool) (l k lo hi : Int) (hr : rowAt i.op = ⟨kn, d, a, b, t, l, k, lo, hi⟩) (hd : d = false) (ho : (i.op == 35) = true) :
    Calls Tryd.prog 29 #[insV i lv] w (LPost w (writesD i)) := by
  have HD := Lib.hid (show writesD i = i.l from by
    have hro := rowOk i.op
    have e1 := hro.a
    have e2 := hro.b
    have e3 := hro.l
    have e4 := hro.d
    have e5 := hro.u
    rw [hr] at e1 e2 e3 e4
    simp only [hd, ho] at e1 e2 e3 e4 e5
    simp [readsD, writesD, ← e1, ← e2, ← e3, ← e4, ← e5])
  have HL := Lib.hid hl
  obtain ⟨p, c, hlv, hx1, hx2, hx3⟩ := ri_form hl
  clear hl hx1 hx3
  subst hlv
  have HR := Lib.hid hr
  clear hr
  subst hd
  have hfld := row_field1
  unfold insV
  go_enter Tryd.func29, Tryd.ntmps29
  go_wp2_with fail
  refine (rowof_any _ _).mono ?_
  rintro e w1 ⟨rfl, hb1⟩
  rw [HR.out]
  unfold rowV
  have hs1 : w.heap.size + 1 ≤ w1.heap.size := by have := hb1.size; simpa using this
  have HB7 := Lib.hid ((Box7.new w i (.slice p i.l.length c) 50).keep hb1 (by simp))
  have HW := Lib.hid (show Below w.heap.size w w1 from ((Below.refl _ _).alloc (Nat.le_refl _) _).trans (hb1.mono (by simp)))
  have HBX := HB7
  have HX := HW
  clear hb1
  obtain ⟨_, _, _, _, _, _, _⟩ := HBX.out
  have hw0 := HX.out
  go_wp2_with (first
    | (at_builtin; refine wpList_app rfl (.tmp 16) (.tmp 18) rfl Tryd.underlying31 infoInt rfl rfl (v := .slice none 0 0) (base := w1.heap.size) (n := 0) (m := i.l.length) (xs := []) (news := (i.l.map (Value.int .i64))) (World.ownsRow_nil _ _ _ _) rfl ((HL.out.keep (by ((repeat' (first | with_reducible assumption | with_reducible exact Below.refl _ _ | with_reducible refine Below.drew ?_ | with_reducible refine Below.alloc ?_ (by first | omega | (simp; omega) | (simp; done) | fail) _ | with_reducible refine Below.setCell ?_ (by first | omega | (simp; omega) | (simp; done) | fail) _ | fail)); (first | done | fail)))).src) (ones_int i.l) (by unfold maxLen; omega) (by omega) (by first | omega | (simp; omega) | (simp; done)) ?_; intro v20 w20 hap; have hy20 : Below w1.heap.size w1 w20 := Below.trans (by ((repeat' (first | with_reducible assumption | with_reducible exact Below.refl _ _ | with_reducible refine Below.drew ?_ | with_reducible refine Below.alloc ?_ (by first | omega | (simp; omega) | (simp; done) | fail) _ | with_reducible refine Below.setCell ?_ (by first | omega | (simp; omega) | (simp; done) | fail) _ | fail)); (first | done | fail)) : Below w1.heap.size w1 _) (hap.below (by first | omega | (simp; omega) | (simp; done)) (fun g hg => (by simp [Value.ownBlock] at hg))); have hb20 : Below w.heap.size w w20 := HX.out.trans (hy20.mono (by omega)); have hs20 : w1.heap.size ≤ w20.heap.size := (by have hz := hy20.size; simpa using hz); obtain ⟨_, _, _, _, _, _, _⟩ := HBX.out.keep hy20 (by omega); have HP20 := Lib.hid hap; clear hap)
    | fail)
  go_ret
  exact ⟨_, rfl, by rw [HD.out]; exact own_conv (own_baseR (own_keep HP20.out.own (by ((repeat' (first | with_reducible assumption | with_reducible exact Below.refl _ _ | with_reducible refine Below.drew ?_ | with_reducible refine Below.alloc ?_ (by first | omega | (simp; omega) | (simp; done) | fail) _ | with_reducible refine Below.setCell ?_ (by first | omega | (simp; omega) | (simp; done) | fail) _ | fail)); (first | done | fail)))) (by omega)) (by first | (simp; done) | (simp; omega)) (by simp), by ((repeat' (first | with_reducible assumption | with_reducible exact Below.refl _ _ | with_reducible refine Below.drew ?_ | with_reducible refine Below.alloc ?_ (by first | omega | (simp; omega) | (simp; done) | fail) _ | with_reducible refine Below.setCell ?_ (by first | omega | (simp; omega) | (simp; done) | fail) _ | fail)); (first | done | fail))⟩
set_option maxRecDepth 100000 in
set_option maxHeartbeats 1000000 in
theorem rwrites_10 (i : InsD) (lv : Value) (w : World) (hl : Ri w lv i.l) (hll : i.l.length ≤ 17592186043904) (kn d a b t : Bool) (l k lo hi : Int) (hr : rowAt i.op = ⟨kn, d, a, b, t, l, k, lo, hi⟩) (hd : d = true) (ho : (i.op == 35) = false) :
    Calls Tryd.prog 29 #[insV i lv] w (LPost w (writesD i)) := by
  have HD := Lib.hid (show writesD i = [i.d] from by
    have hro := rowOk i.op
    have e1 := hro.a
    have e2 := hro.b
    have e3 := hro.l
    have e4 := hro.d
    have e5 := hro.u
    rw [hr] at e1 e2 e3 e4
    simp only [hd, ho] at e1 e2 e3 e4 e5
    simp [readsD, writesD, ← e1, ← e2, ← e3, ← e4, ← e5])
  have HL := Lib.hid hl
  obtain ⟨p, c, hlv, hx1, hx2, hx3⟩ := ri_form hl
  clear hl hx1 hx3
  subst hlv
  have HR := Lib.hid hr
  clear hr
  subst hd
  have hfld := row_field1
  unfold insV
  go_enter Tryd.func29, Tryd.ntmps29
  go_wp2_with fail
  refine (rowof_any _ _).mono ?_
  rintro e w1 ⟨rfl, hb1⟩
  rw [HR.out]
  unfold rowV
  have hs1 : w.heap.size + 1 ≤ w1.heap.size := by have := hb1.size; simpa using this
  have HB7 := Lib.hid ((Box7.new w i (.slice p i.l.length c) 50).keep hb1 (by simp))
  have HW := Lib.hid (show Below w.heap.size w w1 from ((Below.refl _ _).alloc (Nat.le_refl _) _).trans (hb1.mono (by simp)))
  have HBX := HB7
  have HX := HW
  clear hb1
  obtain ⟨_, _, _, _, _, _, _⟩ := HBX.out
  have hw0 := HX.out
  go_wp2_with (first
    | (at_builtin; refine wpList_app rfl (.tmp 8) (.tmp 11) rfl Tryd.underlying31 infoInt rfl rfl (v := .slice none 0 0) (base := w1.heap.size) (n := 0) (m := 1) (xs := []) (news := [.int .i64 i.d]) (World.ownsRow_nil _ _ _ _) rfl (by exact src_top (by first | rfl | (simp; done))) (ones_int [i.d]) (by unfold maxLen; omega) (by omega) (by first | omega | (simp; omega) | (simp; done)) ?_; intro v20 w20 hap; have hy20 : Below w1.heap.size w1 w20 := Below.trans (by ((repeat' (first | with_reducible assumption | with_reducible exact Below.refl _ _ | with_reducible refine Below.drew ?_ | with_reducible refine Below.alloc ?_ (by first | omega | (simp; omega) | (simp; done) | fail) _ | with_reducible refine Below.setCell ?_ (by first | omega | (simp; omega) | (simp; done) | fail) _ | fail)); (first | done | fail)) : Below w1.heap.size w1 _) (hap.below (by first | omega | (simp; omega) | (simp; done)) (fun g hg => (by simp [Value.ownBlock] at hg))); have hb20 : Below w.heap.size w w20 := HX.out.trans (hy20.mono (by omega)); have hs20 : w1.heap.size ≤ w20.heap.size := (by have hz := hy20.size; simpa using hz); obtain ⟨_, _, _, _, _, _, _⟩ := HBX.out.keep hy20 (by omega); have HP20 := Lib.hid hap; clear hap)
    | fail)
  go_ret
  exact ⟨_, rfl, by rw [HD.out]; exact own_conv (own_baseR (own_keep HP20.out.own (by ((repeat' (first | with_reducible assumption | with_reducible exact Below.refl _ _ | with_reducible refine Below.drew ?_ | with_reducible refine Below.alloc ?_ (by first | omega | (simp; omega) | (simp; done) | fail) _ | with_reducible refine Below.setCell ?_ (by first | omega | (simp; omega) | (simp; done) | fail) _ | fail)); (first | done | fail)))) (by omega)) (by first | (simp; done) | (simp; omega)) (by simp), by ((repeat' (first | with_reducible assumption | with_reducible exact Below.refl _ _ | with_reducible refine Below.drew ?_ | with_reducible refine Below.alloc ?_ (by first | omega | (simp; omega) | (simp; done) | fail) _ | with_reducible refine Below.setCell ?_ (by first | omega | (simp; omega) | (simp; done) | fail) _ | fail)); (first | done | fail))⟩
set_option maxRecDepth 100000 in
set_option maxHeartbeats 1000000 in
theorem rwrites_11 (i : InsD) (lv : Value) (w : World) (hl : Ri w lv i.l) (hll : i.l.length ≤ 17592186043904) (kn d a b t : Bool) (l k lo hi : Int) (hr : rowAt i.op = ⟨kn, d, a, b, t, l, k, lo, hi⟩) (hd : d = true) (ho : (i.op == 35) = true) :
    Calls Tryd.prog 29 #[insV i lv] w (LPost w (writesD i)) := by
  have HD := Lib.hid (show writesD i = [i.d] ++ i.l from by
    have hro := rowOk i.op
    have e1 := hro.a
    have e2 := hro.b
    have e3 := hro.l
    have e4 := hro.d
    have e5 := hro.u
    rw [hr] at e1 e2 e3 e4
    simp only [hd, ho] at e1 e2 e3 e4 e5
    simp [readsD, writesD, ← e1, ← e2, ← e3, ← e4, ← e5])
  have HL := Lib.hid hl
  obtain ⟨p, c, hlv, hx1, hx2, hx3⟩ := ri_form hl
  clear hl hx1 hx3
  subst hlv
  have HR := Lib.hid hr
  clear hr
  subst hd
  have hfld := row_field1
  unfold insV
  go_enter Tryd.func29, Tryd.ntmps29
  go_wp2_with fail
  refine (rowof_any _ _).mono ?_
  rintro e w1 ⟨rfl, hb1⟩
  rw [HR.out]
  unfold rowV
  have hs1 : w.heap.size + 1 ≤ w1.heap.size := by have := hb1.size; simpa using this
  have HB7 := Lib.hid ((Box7.new w i (.slice p i.l.length c) 50).keep hb1 (by simp))
  have HW := Lib.hid (show Below w.heap.size w w1 from ((Below.refl _ _).alloc (Nat.le_refl _) _).trans (hb1.mono (by simp)))
  have HBX := HB7
  have HX := HW
  clear hb1
  obtain ⟨_, _, _, _, _, _, _⟩ := HBX.out
  have hw0 := HX.out
  go_wp2_with (first
    | (at_builtin; refine wpList_app rfl (.tmp 8) (.tmp 11) rfl Tryd.underlying31 infoInt rfl rfl (v := .slice none 0 0) (base := w1.heap.size) (n := 0) (m := 1) (xs := []) (news := [.int .i64 i.d]) (World.ownsRow_nil _ _ _ _) rfl (by exact src_top (by first | rfl | (simp; done))) (ones_int [i.d]) (by unfold maxLen; omega) (by omega) (by first | omega | (simp; omega) | (simp; done)) ?_; intro v20 w20 hap; have hy20 : Below w1.heap.size w1 w20 := Below.trans (by ((repeat' (first | with_reducible assumption | with_reducible exact Below.refl _ _ | with_reducible refine Below.drew ?_ | with_reducible refine Below.alloc ?_ (by first | omega | (simp; omega) | (simp; done) | fail) _ | with_reducible refine Below.setCell ?_ (by first | omega | (simp; omega) | (simp; done) | fail) _ | fail)); (first | done | fail)) : Below w1.heap.size w1 _) (hap.below (by first | omega | (simp; omega) | (simp; done)) (fun g hg => (by simp [Value.ownBlock] at hg))); have hb20 : Below w.heap.size w w20 := HX.out.trans (hy20.mono (by omega)); have hs20 : w1.heap.size ≤ w20.heap.size := (by have hz := hy20.size; simpa using hz); obtain ⟨_, _, _, _, _, _, _⟩ := HBX.out.keep hy20 (by omega); have HP20 := Lib.hid hap; clear hap)
    | (at_builtin; refine wpList_app rfl (.tmp 16) (.tmp 18) rfl Tryd.underlying31 infoInt rfl rfl (v := v20) (base := w1.heap.size) (n := (0 + 1)) (m := i.l.length) (xs := ([] ++ [.int .i64 i.d])) (news := (i.l.map (Value.int .i64))) (own_keep HP20.out.own (by ((repeat' (first | with_reducible assumption | with_reducible exact Below.refl _ _ | with_reducible refine Below.drew ?_ | with_reducible refine Below.alloc ?_ (by first | omega | (simp; omega) | (simp; done) | fail) _ | with_reducible refine Below.setCell ?_ (by first | omega | (simp; omega) | (simp; done) | fail) _ | fail)); (first | done | fail)))) rfl ((HL.out.keep (by ((repeat' (first | with_reducible assumption | with_reducible exact Below.refl _ _ | with_reducible refine Below.drew ?_ | with_reducible refine Below.alloc ?_ (by first | omega | (simp; omega) | (simp; done) | fail) _ | with_reducible refine Below.setCell ?_ (by first | omega | (simp; omega) | (simp; done) | fail) _ | fail)); (first | done | fail)))).src) (ones_int i.l) (by unfold maxLen; omega) (by omega) (by first | omega | (simp; omega) | (simp; done)) ?_; intro v21 w21 hap; have hy21 : Below w1.heap.size w1 w21 := Below.trans (by ((repeat' (first | with_reducible assumption | with_reducible exact Below.refl _ _ | with_reducible refine Below.drew ?_ | with_reducible refine Below.alloc ?_ (by first | omega | (simp; omega) | (simp; done) | fail) _ | with_reducible refine Below.setCell ?_ (by first | omega | (simp; omega) | (simp; done) | fail) _ | fail)); (first | done | fail)) : Below w1.heap.size w1 _) (hap.below (by first | omega | (simp; omega) | (simp; done)) (fun g hg => (HP20.out.own.lt g hg).1)); have hb21 : Below w.heap.size w w21 := HX.out.trans (hy21.mono (by omega)); have hs21 : w1.heap.size ≤ w21.heap.size := (by have hz := hy21.size; simpa using hz); obtain ⟨_, _, _, _, _, _, _⟩ := HBX.out.keep hy21 (by omega); have HP21 := Lib.hid hap; clear hap)
    | fail)
  go_ret
  exact ⟨_, rfl, by rw [HD.out]; exact own_conv (own_baseR (own_keep HP21.out.own (by ((repeat' (first | with_reducible assumption | with_reducible exact Below.refl _ _ | with_reducible refine Below.drew ?_ | with_reducible refine Below.alloc ?_ (by first | omega | (simp; omega) | (simp; done) | fail) _ | with_reducible refine Below.setCell ?_ (by first | omega | (simp; omega) | (simp; done) | fail) _ | fail)); (first | done | fail)))) (by omega)) (by first | (simp; done) | (simp; omega)) (by simp), by ((repeat' (first | with_reducible assumption | with_reducible exact Below.refl _ _ | with_reducible refine Below.drew ?_ | with_reducible refine Below.alloc ?_ (by first | omega | (simp; omega) | (simp; done) | fail) _ | with_reducible refine Below.setCell ?_ (by first | omega | (simp; omega) | (simp; done) | fail) _ | fail)); (first | done | fail))⟩
theorem rreads_any (i : InsD) (lv : Value) (w : World) (hl : Ri w lv i.l) (hll : i.l.length ≤ 17592186043904) : Calls Tryd.prog 26 #[insV i lv] w (LPost w (readsD i)) := by
  obtain ⟨⟨kn, d, a, b, t, l, k, lo, hi⟩, hr⟩ : ∃ r, rowAt i.op = r := ⟨_, rfl⟩
  cases ha : a <;> cases hb : b <;> cases hq : (l != -1)
  · exact rreads_000 i lv w hl hll kn d a b t l k lo hi (by rw [hr, ha, hb]) ha hb hq
  · cases ho : (i.op != 35) with
    | false => exact rreads_001 i lv w hl hll kn d a b t l k lo hi (by rw [hr, ha, hb]) ha hb hq ho
    | true => exact rreads_002 i lv w hl hll kn d a b t l k lo hi (by rw [hr, ha, hb]) ha hb hq ho
  · exact rreads_010 i lv w hl hll kn d a b t l k lo hi (by rw [hr, ha, hb]) ha hb hq
  · cases ho : (i.op != 35) with
    | false => exact rreads_011 i lv w hl hll kn d a b t l k lo hi (by rw [hr, ha, hb]) ha hb hq ho
    | true => exact rreads_012 i lv w hl hll kn d a b t l k lo hi (by rw [hr, ha, hb]) ha hb hq ho
  · exact rreads_100 i lv w hl hll kn d a b t l k lo hi (by rw [hr, ha, hb]) ha hb hq
  · cases ho : (i.op != 35) with
    | false => exact rreads_101 i lv w hl hll kn d a b t l k lo hi (by rw [hr, ha, hb]) ha hb hq ho
    | true => exact rreads_102 i lv w hl hll kn d a b t l k lo hi (by rw [hr, ha, hb]) ha hb hq ho
  · exact rreads_110 i lv w hl hll kn d a b t l k lo hi (by rw [hr, ha, hb]) ha hb hq
  · cases ho : (i.op != 35) with
    | false => exact rreads_111 i lv w hl hll kn d a b t l k lo hi (by rw [hr, ha, hb]) ha hb hq ho
    | true => exact rreads_112 i lv w hl hll kn d a b t l k lo hi (by rw [hr, ha, hb]) ha hb hq ho
theorem rwrites_any (i : InsD) (lv : Value) (w : World) (hl : Ri w lv i.l) (hll : i.l.length ≤ 17592186043904) : Calls Tryd.prog 29 #[insV i lv] w (LPost w (writesD i)) := by
  obtain ⟨⟨kn, d, a, b, t, l, k, lo, hi⟩, hr⟩ : ∃ r, rowAt i.op = r := ⟨_, rfl⟩
  cases hd : d <;> cases ho : (i.op == 35)
  · exact rwrites_00 i lv w hl hll kn d a b t l k lo hi (by rw [hr, hd]) hd ho
  · exact rwrites_01 i lv w hl hll kn d a b t l k lo hi (by rw [hr, hd]) hd ho
  · exact rwrites_10 i lv w hl hll kn d a b t l k lo hi (by rw [hr, hd]) hd ho
  · exact rwrites_11 i lv w hl hll kn d a b t l k lo hi (by rw [hr, hd]) hd ho
end Go.Proofs.YtnniohimbmnapaaDoor
