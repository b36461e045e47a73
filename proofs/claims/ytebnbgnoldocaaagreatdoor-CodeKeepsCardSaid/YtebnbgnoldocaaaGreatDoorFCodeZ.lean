/- Layer 8: code.Reads, Writes, Goes. -/
import Derived.Test.YtebnbgnoldocaaaGreatDoorFDoesZ
namespace Go.Proofs.YtebnbgnoldocaaaGreatDoor
open Go.ChangeShapes Go.WideShapes Go.RowKit
set_option linter.unusedVariables false
set_option linter.unusedSimpArgs false
theorem infoInt : (Tryz.prog.info? 3).map (fun i => (i.zero, i.size, i.bytes)) = some (some (.int .i64 0), 1, 8) := by kernel_rfl
abbrev OI (w : World) (B : Nat) (v : Value) (ds : List Int) : Prop := OW .i64 3 w B v ds
def insV (i : InsD) (lv : Value) : Value := .agg #[.int .i64 i.op, .int .i64 i.d, .int .i64 i.a, .int .i64 i.b, .int .i64 i.t, .int .i64 i.k, lv]
theorem does_at {op fl : Int} {b : Bool} (w : World) (hU : Us w) (h : doesB op fl = b) : Calls Tryz.prog 10 #[.int .i64 op, .int .i64 fl] w fun e w' => e = .returned (.bool b) ∧ w = w' := by
  rw [← h]; exact does_any op fl w hU
theorem own_conv {w : World} {B n m : Nat} {T : TypeId} {v : Value} {xs ys : List Value} (h : w.ownsRow B T 1 v n xs) (hn : n = m) (hx : xs = ys) : w.ownsRow B T 1 v m ys := by subst hn; subst hx; exact h
theorem own_low1 {w : World} {B n : Nat} {T : TypeId} {v : Value} {xs : List Value} (h : w.ownsRow (B + 1) T 1 v n xs) : w.ownsRow B T 1 v n xs := by
  refine ⟨h.1, ?_⟩
  rcases h.2 with h2 | ⟨g2, cap, cur2, h3, h4, r1, r2⟩
  · exact .inl h2
  · exact .inr ⟨g2, cap, cur2, h3, by omega, r1, r2⟩
theorem own_keep {w w' : World} {B n : Nat} {T : TypeId} {v : Value} {xs : List Value} (h : w.ownsRow B T 1 v n xs) (hk : Below w.heap.size w w') : w'.ownsRow B T 1 v n xs := by
  refine ⟨h.1, ?_⟩
  rcases h.2 with h2 | ⟨g2, cap, cur2, h3, h4, r1, r2⟩
  · exact .inl h2
  · exact .inr ⟨g2, cap, cur2, h3, h4, (hk.block _ (Array.getElem?_eq_some_iff.1 r1).1).trans r1, r2⟩
theorem ones_int (l : List Int) : ∀ u ∈ l.map (Value.int .i64), u.oneCell' = true := fun u hu => by
  obtain ⟨x, _, rfl⟩ := List.mem_map.1 hu
  rfl
theorem addO (b off j : Nat) : (⟨b, off, none⟩ : Addr).add j = ⟨b, off + j, none⟩ := by cases j <;> simp [Addr.add]
theorem Ri.src {w : World} {u : Value} {l : List Int} (h : Ri w u l) : Src w u l.length (l.map (Value.int .i64)) := by
  refine ⟨by simp, ?_⟩
  rcases h with ⟨p, rfl, rfl⟩ | ⟨b, off, c, rfl, h1, h2, h3⟩
  · cases p with
    | none => exact .inl ⟨rfl, rfl⟩
    | some a => exact .inr ⟨a, 0, rfl, fun j u hu => by simp at hu⟩
  · refine .inr ⟨⟨b, off, none⟩, c, rfl, fun j u hu => ?_⟩
    have hj : j < l.length := by have := (List.getElem?_eq_some_iff.1 hu).1; simpa using this
    rw [List.getElem?_map, List.getElem?_eq_getElem hj] at hu
    simp only [Option.map_some, Option.some.injEq] at hu
    rw [addO, ← hu]
    have := h3 j hj
    rwa [List.getD_eq_getElem?_getD, List.getElem?_eq_getElem hj] at this
structure Box7 (w : World) (g : Nat) (i : InsD) (lv : Value) : Prop where
  c0 : w.cell? ⟨g, 0, none⟩ = some (.int .i64 i.op)
  c1 : w.cell? ⟨g, 1, none⟩ = some (.int .i64 i.d)
  c2 : w.cell? ⟨g, 2, none⟩ = some (.int .i64 i.a)
  c3 : w.cell? ⟨g, 3, none⟩ = some (.int .i64 i.b)
  c4 : w.cell? ⟨g, 4, none⟩ = some (.int .i64 i.t)
  c5 : w.cell? ⟨g, 5, none⟩ = some (.int .i64 i.k)
  c6 : w.cell? ⟨g, 6, none⟩ = some lv
theorem cell_new {w : World} {cs : Array Value} {T : TypeId} {k : Nat} {v : Value} (h : cs[k]? = some v) : (w.alloc (.cells cs T)).cell? ⟨w.heap.size, k, none⟩ = some v := by
  unfold World.cell?
  rw [heap_alloc_new]
  exact h
theorem Box7.new (w : World) (i : InsD) (lv : Value) (T : TypeId) : Box7 (w.alloc (.cells #[.int .i64 i.op, .int .i64 i.d, .int .i64 i.a, .int .i64 i.b, .int .i64 i.t, .int .i64 i.k, lv] T)) w.heap.size i lv :=
  ⟨cell_new rfl, cell_new rfl, cell_new rfl, cell_new rfl, cell_new rfl, cell_new rfl, cell_new rfl⟩
theorem Box7.keep {w w' : World} {g B : Nat} {i : InsD} {lv : Value} (h : Box7 w g i lv) (hb : Below B w w') (hg : g < B) : Box7 w' g i lv :=
  ⟨(hb.cell (p := ⟨g, 0, none⟩) hg).trans h.c0, (hb.cell (p := ⟨g, 1, none⟩) hg).trans h.c1, (hb.cell (p := ⟨g, 2, none⟩) hg).trans h.c2, (hb.cell (p := ⟨g, 3, none⟩) hg).trans h.c3, (hb.cell (p := ⟨g, 4, none⟩) hg).trans h.c4, (hb.cell (p := ⟨g, 5, none⟩) hg).trans h.c5, (hb.cell (p := ⟨g, 6, none⟩) hg).trans h.c6⟩
/-- What a list of numbers that a call makes anew is: nil if it is empty. -/
def LPost (W : World) (l : List Int) (e : Ending) (w' : World) : Prop := ∃ u, e = .returned u ∧ OI w' W.heap.size u l ∧ Below W.heap.size W w'
set_option maxRecDepth 100000 in
set_option maxHeartbeats 1000000 in
theorem reads_000 (i : InsD) (lv : Value) (w : World) (hU : Us w) (hl : Ri w lv i.l) (hll : i.l.length ≤ 17592186043904) (h0 : doesB i.op 2 = false) (h1 : doesB i.op 4 = false) (h2 : doesB i.op 8 = false) :
    Calls Tryz.prog 5 #[insV i lv] w (LPost w (readsD i)) := by
  have HD := Lib.hid (show readsD i = [] from by simp [readsD, h0, h1, h2])
  have HU := Lib.hid hU
  have HL := Lib.hid hl
  obtain ⟨p, c, hlv, hx1, hx2, hx3⟩ := ri_form hl
  clear hU hl hx1 hx3
  subst hlv
  have H0 := Lib.hid h0
  have H1 := Lib.hid h1
  have H2 := Lib.hid h2
  clear h0 h1 h2
  unfold insV
  go_enter Tryz.func5, Tryz.ntmps5
  go_wp2_with (first
    | (go_at_call 10; (with_reducible refine (does_at (fl := 2) _ (HU.out.keep (by ((repeat' (first | with_reducible assumption | with_reducible exact Below.refl _ _ | with_reducible refine Below.drew ?_ | with_reducible refine Below.alloc ?_ (by first | omega | (simp; omega) | (simp; done) | fail) _ | with_reducible refine Below.setCell ?_ (by first | omega | (simp; omega) | (simp; done) | fail) _ | fail)); (first | done | fail)))) H0.out).mono ?_); rintro e w9 ⟨rfl, rfl⟩)
    | (go_at_call 10; (with_reducible refine (does_at (fl := 4) _ (HU.out.keep (by ((repeat' (first | with_reducible assumption | with_reducible exact Below.refl _ _ | with_reducible refine Below.drew ?_ | with_reducible refine Below.alloc ?_ (by first | omega | (simp; omega) | (simp; done) | fail) _ | with_reducible refine Below.setCell ?_ (by first | omega | (simp; omega) | (simp; done) | fail) _ | fail)); (first | done | fail)))) H1.out).mono ?_); rintro e w9 ⟨rfl, rfl⟩)
    | (go_at_call 10; (with_reducible refine (does_at (fl := 8) _ (HU.out.keep (by ((repeat' (first | with_reducible assumption | with_reducible exact Below.refl _ _ | with_reducible refine Below.drew ?_ | with_reducible refine Below.alloc ?_ (by first | omega | (simp; omega) | (simp; done) | fail) _ | with_reducible refine Below.setCell ?_ (by first | omega | (simp; omega) | (simp; done) | fail) _ | fail)); (first | done | fail)))) H2.out).mono ?_); rintro e w9 ⟨rfl, rfl⟩))
  go_ret
  exact ⟨_, rfl, by rw [HD.out]; exact OW.nil _ _, by ((repeat' (first | with_reducible assumption | with_reducible exact Below.refl _ _ | with_reducible refine Below.drew ?_ | with_reducible refine Below.alloc ?_ (by first | omega | (simp; omega) | (simp; done) | fail) _ | with_reducible refine Below.setCell ?_ (by first | omega | (simp; omega) | (simp; done) | fail) _ | fail)); (first | done | fail))⟩
set_option maxRecDepth 100000 in
set_option maxHeartbeats 1000000 in
theorem reads_100 (i : InsD) (lv : Value) (w : World) (hU : Us w) (hl : Ri w lv i.l) (hll : i.l.length ≤ 17592186043904) (h0 : doesB i.op 2 = true) (h1 : doesB i.op 4 = false) (h2 : doesB i.op 8 = false) :
    Calls Tryz.prog 5 #[insV i lv] w (LPost w (readsD i)) := by
  have HD := Lib.hid (show readsD i = [i.a] from by simp [readsD, h0, h1, h2])
  have HU := Lib.hid hU
  have HL := Lib.hid hl
  obtain ⟨p, c, hlv, hx1, hx2, hx3⟩ := ri_form hl
  clear hU hl hx1 hx3
  subst hlv
  have H0 := Lib.hid h0
  have H1 := Lib.hid h1
  have H2 := Lib.hid h2
  clear h0 h1 h2
  unfold insV
  go_enter Tryz.func5, Tryz.ntmps5
  go_wp2_with (first
    | (go_at_call 10; (with_reducible refine (does_at (fl := 2) _ (HU.out.keep (by ((repeat' (first | with_reducible assumption | with_reducible exact Below.refl _ _ | with_reducible refine Below.drew ?_ | with_reducible refine Below.alloc ?_ (by first | omega | (simp; omega) | (simp; done) | fail) _ | with_reducible refine Below.setCell ?_ (by first | omega | (simp; omega) | (simp; done) | fail) _ | fail)); (first | done | fail)))) H0.out).mono ?_); rintro e w9 ⟨rfl, rfl⟩)
    | (go_at_call 10; (with_reducible refine (does_at (fl := 4) _ (HU.out.keep (by ((repeat' (first | with_reducible assumption | with_reducible exact Below.refl _ _ | with_reducible refine Below.drew ?_ | with_reducible refine Below.alloc ?_ (by first | omega | (simp; omega) | (simp; done) | fail) _ | with_reducible refine Below.setCell ?_ (by first | omega | (simp; omega) | (simp; done) | fail) _ | fail)); (first | done | fail)))) H1.out).mono ?_); rintro e w9 ⟨rfl, rfl⟩)
    | (go_at_call 10; (with_reducible refine (does_at (fl := 8) _ (HU.out.keep (by ((repeat' (first | with_reducible assumption | with_reducible exact Below.refl _ _ | with_reducible refine Below.drew ?_ | with_reducible refine Below.alloc ?_ (by first | omega | (simp; omega) | (simp; done) | fail) _ | with_reducible refine Below.setCell ?_ (by first | omega | (simp; omega) | (simp; done) | fail) _ | fail)); (first | done | fail)))) H2.out).mono ?_); rintro e w9 ⟨rfl, rfl⟩)
    | (at_builtin; refine wpList_app rfl (.tmp 7) (.tmp 10) rfl Tryz.underlying22 infoInt rfl rfl (v := .slice none 0 0) (base := w.heap.size + 1) (n := 0) (m := 1) (xs := []) (news := [.int .i64 i.a]) (World.ownsRow_nil _ _ _ _) rfl (by exact src_top (by first | rfl | (simp; done))) (ones_int [i.a]) (by unfold maxLen; omega) (by omega) (by first | omega | (simp; omega) | (simp; done)) ?_; intro v0 w0 hap; have hy0 : Below (w.heap.size + 1) (w.alloc (Obj.cells #[Value.int .i64 i.op, Value.int .i64 i.d, Value.int .i64 i.a, Value.int .i64 i.b, Value.int .i64 i.t, Value.int .i64 i.k, Value.slice p i.l.length c] 24)) w0 := Below.trans (by ((repeat' (first | with_reducible assumption | with_reducible exact Below.refl _ _ | with_reducible refine Below.drew ?_ | with_reducible refine Below.alloc ?_ (by first | omega | (simp; omega) | (simp; done) | fail) _ | with_reducible refine Below.setCell ?_ (by first | omega | (simp; omega) | (simp; done) | fail) _ | fail)); (first | done | fail)) : Below (w.heap.size + 1) (w.alloc (Obj.cells #[Value.int .i64 i.op, Value.int .i64 i.d, Value.int .i64 i.a, Value.int .i64 i.b, Value.int .i64 i.t, Value.int .i64 i.k, Value.slice p i.l.length c] 24)) _) (hap.below (by first | omega | (simp; omega) | (simp; done)) (fun g hg => (by simp [Value.ownBlock] at hg))); have hb0 : Below w.heap.size w w0 := Below.trans ((Below.refl w.heap.size w).alloc (Nat.le_refl _) _) (hy0.mono (Nat.le_succ _)); have hs0 := hy0.size; rw [World.size_alloc] at hs0; obtain ⟨_, _, _, _, _, _, _⟩ := (Box7.new w i (.slice p i.l.length c) 24).keep hy0 (Nat.lt_succ_self _); have HP0 := Lib.hid hap; clear hap))
  go_ret
  exact ⟨_, rfl, by rw [HD.out]; exact own_conv (own_low1 (own_keep HP0.out.own (by ((repeat' (first | with_reducible assumption | with_reducible exact Below.refl _ _ | with_reducible refine Below.drew ?_ | with_reducible refine Below.alloc ?_ (by first | omega | (simp; omega) | (simp; done) | fail) _ | with_reducible refine Below.setCell ?_ (by first | omega | (simp; omega) | (simp; done) | fail) _ | fail)); (first | done | fail))))) (by first | (simp; done) | (simp; omega)) (by simp), by ((repeat' (first | with_reducible assumption | with_reducible exact Below.refl _ _ | with_reducible refine Below.drew ?_ | with_reducible refine Below.alloc ?_ (by first | omega | (simp; omega) | (simp; done) | fail) _ | with_reducible refine Below.setCell ?_ (by first | omega | (simp; omega) | (simp; done) | fail) _ | fail)); (first | done | fail))⟩
set_option maxRecDepth 100000 in
set_option maxHeartbeats 1000000 in
theorem reads_010 (i : InsD) (lv : Value) (w : World) (hU : Us w) (hl : Ri w lv i.l) (hll : i.l.length ≤ 17592186043904) (h0 : doesB i.op 2 = false) (h1 : doesB i.op 4 = true) (h2 : doesB i.op 8 = false) :
    Calls Tryz.prog 5 #[insV i lv] w (LPost w (readsD i)) := by
  have HD := Lib.hid (show readsD i = [i.b] from by simp [readsD, h0, h1, h2])
  have HU := Lib.hid hU
  have HL := Lib.hid hl
  obtain ⟨p, c, hlv, hx1, hx2, hx3⟩ := ri_form hl
  clear hU hl hx1 hx3
  subst hlv
  have H0 := Lib.hid h0
  have H1 := Lib.hid h1
  have H2 := Lib.hid h2
  clear h0 h1 h2
  unfold insV
  go_enter Tryz.func5, Tryz.ntmps5
  go_wp2_with (first
    | (go_at_call 10; (with_reducible refine (does_at (fl := 2) _ (HU.out.keep (by ((repeat' (first | with_reducible assumption | with_reducible exact Below.refl _ _ | with_reducible refine Below.drew ?_ | with_reducible refine Below.alloc ?_ (by first | omega | (simp; omega) | (simp; done) | fail) _ | with_reducible refine Below.setCell ?_ (by first | omega | (simp; omega) | (simp; done) | fail) _ | fail)); (first | done | fail)))) H0.out).mono ?_); rintro e w9 ⟨rfl, rfl⟩)
    | (go_at_call 10; (with_reducible refine (does_at (fl := 4) _ (HU.out.keep (by ((repeat' (first | with_reducible assumption | with_reducible exact Below.refl _ _ | with_reducible refine Below.drew ?_ | with_reducible refine Below.alloc ?_ (by first | omega | (simp; omega) | (simp; done) | fail) _ | with_reducible refine Below.setCell ?_ (by first | omega | (simp; omega) | (simp; done) | fail) _ | fail)); (first | done | fail)))) H1.out).mono ?_); rintro e w9 ⟨rfl, rfl⟩)
    | (go_at_call 10; (with_reducible refine (does_at (fl := 8) _ (HU.out.keep (by ((repeat' (first | with_reducible assumption | with_reducible exact Below.refl _ _ | with_reducible refine Below.drew ?_ | with_reducible refine Below.alloc ?_ (by first | omega | (simp; omega) | (simp; done) | fail) _ | with_reducible refine Below.setCell ?_ (by first | omega | (simp; omega) | (simp; done) | fail) _ | fail)); (first | done | fail)))) H2.out).mono ?_); rintro e w9 ⟨rfl, rfl⟩)
    | (at_builtin; refine wpList_app rfl (.tmp 15) (.tmp 18) rfl Tryz.underlying22 infoInt rfl rfl (v := .slice none 0 0) (base := w.heap.size + 1) (n := 0) (m := 1) (xs := []) (news := [.int .i64 i.b]) (World.ownsRow_nil _ _ _ _) rfl (by exact src_top (by first | rfl | (simp; done))) (ones_int [i.b]) (by unfold maxLen; omega) (by omega) (by first | omega | (simp; omega) | (simp; done)) ?_; intro v1 w1 hap; have hy1 : Below (w.heap.size + 1) (w.alloc (Obj.cells #[Value.int .i64 i.op, Value.int .i64 i.d, Value.int .i64 i.a, Value.int .i64 i.b, Value.int .i64 i.t, Value.int .i64 i.k, Value.slice p i.l.length c] 24)) w1 := Below.trans (by ((repeat' (first | with_reducible assumption | with_reducible exact Below.refl _ _ | with_reducible refine Below.drew ?_ | with_reducible refine Below.alloc ?_ (by first | omega | (simp; omega) | (simp; done) | fail) _ | with_reducible refine Below.setCell ?_ (by first | omega | (simp; omega) | (simp; done) | fail) _ | fail)); (first | done | fail)) : Below (w.heap.size + 1) (w.alloc (Obj.cells #[Value.int .i64 i.op, Value.int .i64 i.d, Value.int .i64 i.a, Value.int .i64 i.b, Value.int .i64 i.t, Value.int .i64 i.k, Value.slice p i.l.length c] 24)) _) (hap.below (by first | omega | (simp; omega) | (simp; done)) (fun g hg => (by simp [Value.ownBlock] at hg))); have hb1 : Below w.heap.size w w1 := Below.trans ((Below.refl w.heap.size w).alloc (Nat.le_refl _) _) (hy1.mono (Nat.le_succ _)); have hs1 := hy1.size; rw [World.size_alloc] at hs1; obtain ⟨_, _, _, _, _, _, _⟩ := (Box7.new w i (.slice p i.l.length c) 24).keep hy1 (Nat.lt_succ_self _); have HP1 := Lib.hid hap; clear hap))
  go_ret
  exact ⟨_, rfl, by rw [HD.out]; exact own_conv (own_low1 (own_keep HP1.out.own (by ((repeat' (first | with_reducible assumption | with_reducible exact Below.refl _ _ | with_reducible refine Below.drew ?_ | with_reducible refine Below.alloc ?_ (by first | omega | (simp; omega) | (simp; done) | fail) _ | with_reducible refine Below.setCell ?_ (by first | omega | (simp; omega) | (simp; done) | fail) _ | fail)); (first | done | fail))))) (by first | (simp; done) | (simp; omega)) (by simp), by ((repeat' (first | with_reducible assumption | with_reducible exact Below.refl _ _ | with_reducible refine Below.drew ?_ | with_reducible refine Below.alloc ?_ (by first | omega | (simp; omega) | (simp; done) | fail) _ | with_reducible refine Below.setCell ?_ (by first | omega | (simp; omega) | (simp; done) | fail) _ | fail)); (first | done | fail))⟩
set_option maxRecDepth 100000 in
set_option maxHeartbeats 1000000 in
theorem reads_110 (i : InsD) (lv : Value) (w : World) (hU : Us w) (hl : Ri w lv i.l) (hll : i.l.length ≤ 17592186043904) (h0 : doesB i.op 2 = true) (h1 : doesB i.op 4 = true) (h2 : doesB i.op 8 = false) :
    Calls Tryz.prog 5 #[insV i lv] w (LPost w (readsD i)) := by
  have HD := Lib.hid (show readsD i = [i.a] ++ [i.b] from by simp [readsD, h0, h1, h2])
  have HU := Lib.hid hU
  have HL := Lib.hid hl
  obtain ⟨p, c, hlv, hx1, hx2, hx3⟩ := ri_form hl
  clear hU hl hx1 hx3
  subst hlv
  have H0 := Lib.hid h0
  have H1 := Lib.hid h1
  have H2 := Lib.hid h2
  clear h0 h1 h2
  unfold insV
  go_enter Tryz.func5, Tryz.ntmps5
  go_wp2_with (first
    | (go_at_call 10; (with_reducible refine (does_at (fl := 2) _ (HU.out.keep (by ((repeat' (first | with_reducible assumption | with_reducible exact Below.refl _ _ | with_reducible refine Below.drew ?_ | with_reducible refine Below.alloc ?_ (by first | omega | (simp; omega) | (simp; done) | fail) _ | with_reducible refine Below.setCell ?_ (by first | omega | (simp; omega) | (simp; done) | fail) _ | fail)); (first | done | fail)))) H0.out).mono ?_); rintro e w9 ⟨rfl, rfl⟩)
    | (go_at_call 10; (with_reducible refine (does_at (fl := 4) _ (HU.out.keep (by ((repeat' (first | with_reducible assumption | with_reducible exact Below.refl _ _ | with_reducible refine Below.drew ?_ | with_reducible refine Below.alloc ?_ (by first | omega | (simp; omega) | (simp; done) | fail) _ | with_reducible refine Below.setCell ?_ (by first | omega | (simp; omega) | (simp; done) | fail) _ | fail)); (first | done | fail)))) H1.out).mono ?_); rintro e w9 ⟨rfl, rfl⟩)
    | (go_at_call 10; (with_reducible refine (does_at (fl := 8) _ (HU.out.keep (by ((repeat' (first | with_reducible assumption | with_reducible exact Below.refl _ _ | with_reducible refine Below.drew ?_ | with_reducible refine Below.alloc ?_ (by first | omega | (simp; omega) | (simp; done) | fail) _ | with_reducible refine Below.setCell ?_ (by first | omega | (simp; omega) | (simp; done) | fail) _ | fail)); (first | done | fail)))) H2.out).mono ?_); rintro e w9 ⟨rfl, rfl⟩)
    | (at_builtin; refine wpList_app rfl (.tmp 7) (.tmp 10) rfl Tryz.underlying22 infoInt rfl rfl (v := .slice none 0 0) (base := w.heap.size + 1) (n := 0) (m := 1) (xs := []) (news := [.int .i64 i.a]) (World.ownsRow_nil _ _ _ _) rfl (by exact src_top (by first | rfl | (simp; done))) (ones_int [i.a]) (by unfold maxLen; omega) (by omega) (by first | omega | (simp; omega) | (simp; done)) ?_; intro v0 w0 hap; have hy0 : Below (w.heap.size + 1) (w.alloc (Obj.cells #[Value.int .i64 i.op, Value.int .i64 i.d, Value.int .i64 i.a, Value.int .i64 i.b, Value.int .i64 i.t, Value.int .i64 i.k, Value.slice p i.l.length c] 24)) w0 := Below.trans (by ((repeat' (first | with_reducible assumption | with_reducible exact Below.refl _ _ | with_reducible refine Below.drew ?_ | with_reducible refine Below.alloc ?_ (by first | omega | (simp; omega) | (simp; done) | fail) _ | with_reducible refine Below.setCell ?_ (by first | omega | (simp; omega) | (simp; done) | fail) _ | fail)); (first | done | fail)) : Below (w.heap.size + 1) (w.alloc (Obj.cells #[Value.int .i64 i.op, Value.int .i64 i.d, Value.int .i64 i.a, Value.int .i64 i.b, Value.int .i64 i.t, Value.int .i64 i.k, Value.slice p i.l.length c] 24)) _) (hap.below (by first | omega | (simp; omega) | (simp; done)) (fun g hg => (by simp [Value.ownBlock] at hg))); have hb0 : Below w.heap.size w w0 := Below.trans ((Below.refl w.heap.size w).alloc (Nat.le_refl _) _) (hy0.mono (Nat.le_succ _)); have hs0 := hy0.size; rw [World.size_alloc] at hs0; obtain ⟨_, _, _, _, _, _, _⟩ := (Box7.new w i (.slice p i.l.length c) 24).keep hy0 (Nat.lt_succ_self _); have HP0 := Lib.hid hap; clear hap)
    | (at_builtin; refine wpList_app rfl (.tmp 15) (.tmp 18) rfl Tryz.underlying22 infoInt rfl rfl (v := v0) (base := w.heap.size + 1) (n := (0 + 1)) (m := 1) (xs := ([] ++ [.int .i64 i.a])) (news := [.int .i64 i.b]) (own_keep HP0.out.own (by ((repeat' (first | with_reducible assumption | with_reducible exact Below.refl _ _ | with_reducible refine Below.drew ?_ | with_reducible refine Below.alloc ?_ (by first | omega | (simp; omega) | (simp; done) | fail) _ | with_reducible refine Below.setCell ?_ (by first | omega | (simp; omega) | (simp; done) | fail) _ | fail)); (first | done | fail)))) rfl (by exact src_top (by first | rfl | (simp; done))) (ones_int [i.b]) (by unfold maxLen; omega) (by omega) (by first | omega | (simp; omega) | (simp; done)) ?_; intro v1 w1 hap; have hy1 : Below (w.heap.size + 1) (w.alloc (Obj.cells #[Value.int .i64 i.op, Value.int .i64 i.d, Value.int .i64 i.a, Value.int .i64 i.b, Value.int .i64 i.t, Value.int .i64 i.k, Value.slice p i.l.length c] 24)) w1 := Below.trans (by ((repeat' (first | with_reducible assumption | with_reducible exact Below.refl _ _ | with_reducible refine Below.drew ?_ | with_reducible refine Below.alloc ?_ (by first | omega | (simp; omega) | (simp; done) | fail) _ | with_reducible refine Below.setCell ?_ (by first | omega | (simp; omega) | (simp; done) | fail) _ | fail)); (first | done | fail)) : Below (w.heap.size + 1) (w.alloc (Obj.cells #[Value.int .i64 i.op, Value.int .i64 i.d, Value.int .i64 i.a, Value.int .i64 i.b, Value.int .i64 i.t, Value.int .i64 i.k, Value.slice p i.l.length c] 24)) _) (hap.below (by first | omega | (simp; omega) | (simp; done)) (fun g hg => (HP0.out.own.lt g hg).1)); have hb1 : Below w.heap.size w w1 := Below.trans ((Below.refl w.heap.size w).alloc (Nat.le_refl _) _) (hy1.mono (Nat.le_succ _)); have hs1 := hy1.size; rw [World.size_alloc] at hs1; obtain ⟨_, _, _, _, _, _, _⟩ := (Box7.new w i (.slice p i.l.length c) 24).keep hy1 (Nat.lt_succ_self _); have HP1 := Lib.hid hap; clear hap))
  go_ret
  exact ⟨_, rfl, by rw [HD.out]; exact own_conv (own_low1 (own_keep HP1.out.own (by ((repeat' (first | with_reducible assumption | with_reducible exact Below.refl _ _ | with_reducible refine Below.drew ?_ | with_reducible refine Below.alloc ?_ (by first | omega | (simp; omega) | (simp; done) | fail) _ | with_reducible refine Below.setCell ?_ (by first | omega | (simp; omega) | (simp; done) | fail) _ | fail)); (first | done | fail))))) (by first | (simp; done) | (simp; omega)) (by simp), by ((repeat' (first | with_reducible assumption | with_reducible exact Below.refl _ _ | with_reducible refine Below.drew ?_ | with_reducible refine Below.alloc ?_ (by first | omega | (simp; omega) | (simp; done) | fail) _ | with_reducible refine Below.setCell ?_ (by first | omega | (simp; omega) | (simp; done) | fail) _ | fail)); (first | done | fail))⟩
set_option maxRecDepth 100000 in
set_option maxHeartbeats 1000000 in
theorem reads_001 (i : InsD) (lv : Value) (w : World) (hU : Us w) (hl : Ri w lv i.l) (hll : i.l.length ≤ 17592186043904) (h0 : doesB i.op 2 = false) (h1 : doesB i.op 4 = false) (h2 : doesB i.op 8 = true) :
    Calls Tryz.prog 5 #[insV i lv] w (LPost w (readsD i)) := by
  have HD := Lib.hid (show readsD i = i.l from by simp [readsD, h0, h1, h2])
  have HU := Lib.hid hU
  have HL := Lib.hid hl
  obtain ⟨p, c, hlv, hx1, hx2, hx3⟩ := ri_form hl
  clear hU hl hx1 hx3
  subst hlv
  have H0 := Lib.hid h0
  have H1 := Lib.hid h1
  have H2 := Lib.hid h2
  clear h0 h1 h2
  unfold insV
  go_enter Tryz.func5, Tryz.ntmps5
  go_wp2_with (first
    | (go_at_call 10; (with_reducible refine (does_at (fl := 2) _ (HU.out.keep (by ((repeat' (first | with_reducible assumption | with_reducible exact Below.refl _ _ | with_reducible refine Below.drew ?_ | with_reducible refine Below.alloc ?_ (by first | omega | (simp; omega) | (simp; done) | fail) _ | with_reducible refine Below.setCell ?_ (by first | omega | (simp; omega) | (simp; done) | fail) _ | fail)); (first | done | fail)))) H0.out).mono ?_); rintro e w9 ⟨rfl, rfl⟩)
    | (go_at_call 10; (with_reducible refine (does_at (fl := 4) _ (HU.out.keep (by ((repeat' (first | with_reducible assumption | with_reducible exact Below.refl _ _ | with_reducible refine Below.drew ?_ | with_reducible refine Below.alloc ?_ (by first | omega | (simp; omega) | (simp; done) | fail) _ | with_reducible refine Below.setCell ?_ (by first | omega | (simp; omega) | (simp; done) | fail) _ | fail)); (first | done | fail)))) H1.out).mono ?_); rintro e w9 ⟨rfl, rfl⟩)
    | (go_at_call 10; (with_reducible refine (does_at (fl := 8) _ (HU.out.keep (by ((repeat' (first | with_reducible assumption | with_reducible exact Below.refl _ _ | with_reducible refine Below.drew ?_ | with_reducible refine Below.alloc ?_ (by first | omega | (simp; omega) | (simp; done) | fail) _ | with_reducible refine Below.setCell ?_ (by first | omega | (simp; omega) | (simp; done) | fail) _ | fail)); (first | done | fail)))) H2.out).mono ?_); rintro e w9 ⟨rfl, rfl⟩)
    | (at_builtin; refine wpList_app rfl (.tmp 23) (.tmp 25) rfl Tryz.underlying22 infoInt rfl rfl (v := .slice none 0 0) (base := w.heap.size + 1) (n := 0) (m := i.l.length) (xs := []) (news := (i.l.map (Value.int .i64))) (World.ownsRow_nil _ _ _ _) rfl ((HL.out.keep (by ((repeat' (first | with_reducible assumption | with_reducible exact Below.refl _ _ | with_reducible refine Below.drew ?_ | with_reducible refine Below.alloc ?_ (by first | omega | (simp; omega) | (simp; done) | fail) _ | with_reducible refine Below.setCell ?_ (by first | omega | (simp; omega) | (simp; done) | fail) _ | fail)); (first | done | fail)))).src) (ones_int i.l) (by unfold maxLen; omega) (by omega) (by first | omega | (simp; omega) | (simp; done)) ?_; intro v2 w2 hap; have hy2 : Below (w.heap.size + 1) (w.alloc (Obj.cells #[Value.int .i64 i.op, Value.int .i64 i.d, Value.int .i64 i.a, Value.int .i64 i.b, Value.int .i64 i.t, Value.int .i64 i.k, Value.slice p i.l.length c] 24)) w2 := Below.trans (by ((repeat' (first | with_reducible assumption | with_reducible exact Below.refl _ _ | with_reducible refine Below.drew ?_ | with_reducible refine Below.alloc ?_ (by first | omega | (simp; omega) | (simp; done) | fail) _ | with_reducible refine Below.setCell ?_ (by first | omega | (simp; omega) | (simp; done) | fail) _ | fail)); (first | done | fail)) : Below (w.heap.size + 1) (w.alloc (Obj.cells #[Value.int .i64 i.op, Value.int .i64 i.d, Value.int .i64 i.a, Value.int .i64 i.b, Value.int .i64 i.t, Value.int .i64 i.k, Value.slice p i.l.length c] 24)) _) (hap.below (by first | omega | (simp; omega) | (simp; done)) (fun g hg => (by simp [Value.ownBlock] at hg))); have hb2 : Below w.heap.size w w2 := Below.trans ((Below.refl w.heap.size w).alloc (Nat.le_refl _) _) (hy2.mono (Nat.le_succ _)); have hs2 := hy2.size; rw [World.size_alloc] at hs2; obtain ⟨_, _, _, _, _, _, _⟩ := (Box7.new w i (.slice p i.l.length c) 24).keep hy2 (Nat.lt_succ_self _); have HP2 := Lib.hid hap; clear hap))
  go_ret
  exact ⟨_, rfl, by rw [HD.out]; exact own_conv (own_low1 (own_keep HP2.out.own (by ((repeat' (first | with_reducible assumption | with_reducible exact Below.refl _ _ | with_reducible refine Below.drew ?_ | with_reducible refine Below.alloc ?_ (by first | omega | (simp; omega) | (simp; done) | fail) _ | with_reducible refine Below.setCell ?_ (by first | omega | (simp; omega) | (simp; done) | fail) _ | fail)); (first | done | fail))))) (by first | (simp; done) | (simp; omega)) (by simp), by ((repeat' (first | with_reducible assumption | with_reducible exact Below.refl _ _ | with_reducible refine Below.drew ?_ | with_reducible refine Below.alloc ?_ (by first | omega | (simp; omega) | (simp; done) | fail) _ | with_reducible refine Below.setCell ?_ (by first | omega | (simp; omega) | (simp; done) | fail) _ | fail)); (first | done | fail))⟩
set_option maxRecDepth 100000 in
set_option maxHeartbeats 1000000 in
theorem reads_101 (i : InsD) (lv : Value) (w : World) (hU : Us w) (hl : Ri w lv i.l) (hll : i.l.length ≤ 17592186043904) (h0 : doesB i.op 2 = true) (h1 : doesB i.op 4 = false) (h2 : doesB i.op 8 = true) :
    Calls Tryz.prog 5 #[insV i lv] w (LPost w (readsD i)) := by
  have HD := Lib.hid (show readsD i = [i.a] ++ i.l from by simp [readsD, h0, h1, h2])
  have HU := Lib.hid hU
  have HL := Lib.hid hl
  obtain ⟨p, c, hlv, hx1, hx2, hx3⟩ := ri_form hl
  clear hU hl hx1 hx3
  subst hlv
  have H0 := Lib.hid h0
  have H1 := Lib.hid h1
  have H2 := Lib.hid h2
  clear h0 h1 h2
  unfold insV
  go_enter Tryz.func5, Tryz.ntmps5
  go_wp2_with (first
    | (go_at_call 10; (with_reducible refine (does_at (fl := 2) _ (HU.out.keep (by ((repeat' (first | with_reducible assumption | with_reducible exact Below.refl _ _ | with_reducible refine Below.drew ?_ | with_reducible refine Below.alloc ?_ (by first | omega | (simp; omega) | (simp; done) | fail) _ | with_reducible refine Below.setCell ?_ (by first | omega | (simp; omega) | (simp; done) | fail) _ | fail)); (first | done | fail)))) H0.out).mono ?_); rintro e w9 ⟨rfl, rfl⟩)
    | (go_at_call 10; (with_reducible refine (does_at (fl := 4) _ (HU.out.keep (by ((repeat' (first | with_reducible assumption | with_reducible exact Below.refl _ _ | with_reducible refine Below.drew ?_ | with_reducible refine Below.alloc ?_ (by first | omega | (simp; omega) | (simp; done) | fail) _ | with_reducible refine Below.setCell ?_ (by first | omega | (simp; omega) | (simp; done) | fail) _ | fail)); (first | done | fail)))) H1.out).mono ?_); rintro e w9 ⟨rfl, rfl⟩)
    | (go_at_call 10; (with_reducible refine (does_at (fl := 8) _ (HU.out.keep (by ((repeat' (first | with_reducible assumption | with_reducible exact Below.refl _ _ | with_reducible refine Below.drew ?_ | with_reducible refine Below.alloc ?_ (by first | omega | (simp; omega) | (simp; done) | fail) _ | with_reducible refine Below.setCell ?_ (by first | omega | (simp; omega) | (simp; done) | fail) _ | fail)); (first | done | fail)))) H2.out).mono ?_); rintro e w9 ⟨rfl, rfl⟩)
    | (at_builtin; refine wpList_app rfl (.tmp 7) (.tmp 10) rfl Tryz.underlying22 infoInt rfl rfl (v := .slice none 0 0) (base := w.heap.size + 1) (n := 0) (m := 1) (xs := []) (news := [.int .i64 i.a]) (World.ownsRow_nil _ _ _ _) rfl (by exact src_top (by first | rfl | (simp; done))) (ones_int [i.a]) (by unfold maxLen; omega) (by omega) (by first | omega | (simp; omega) | (simp; done)) ?_; intro v0 w0 hap; have hy0 : Below (w.heap.size + 1) (w.alloc (Obj.cells #[Value.int .i64 i.op, Value.int .i64 i.d, Value.int .i64 i.a, Value.int .i64 i.b, Value.int .i64 i.t, Value.int .i64 i.k, Value.slice p i.l.length c] 24)) w0 := Below.trans (by ((repeat' (first | with_reducible assumption | with_reducible exact Below.refl _ _ | with_reducible refine Below.drew ?_ | with_reducible refine Below.alloc ?_ (by first | omega | (simp; omega) | (simp; done) | fail) _ | with_reducible refine Below.setCell ?_ (by first | omega | (simp; omega) | (simp; done) | fail) _ | fail)); (first | done | fail)) : Below (w.heap.size + 1) (w.alloc (Obj.cells #[Value.int .i64 i.op, Value.int .i64 i.d, Value.int .i64 i.a, Value.int .i64 i.b, Value.int .i64 i.t, Value.int .i64 i.k, Value.slice p i.l.length c] 24)) _) (hap.below (by first | omega | (simp; omega) | (simp; done)) (fun g hg => (by simp [Value.ownBlock] at hg))); have hb0 : Below w.heap.size w w0 := Below.trans ((Below.refl w.heap.size w).alloc (Nat.le_refl _) _) (hy0.mono (Nat.le_succ _)); have hs0 := hy0.size; rw [World.size_alloc] at hs0; obtain ⟨_, _, _, _, _, _, _⟩ := (Box7.new w i (.slice p i.l.length c) 24).keep hy0 (Nat.lt_succ_self _); have HP0 := Lib.hid hap; clear hap)
    | (at_builtin; refine wpList_app rfl (.tmp 23) (.tmp 25) rfl Tryz.underlying22 infoInt rfl rfl (v := v0) (base := w.heap.size + 1) (n := (0 + 1)) (m := i.l.length) (xs := ([] ++ [.int .i64 i.a])) (news := (i.l.map (Value.int .i64))) (own_keep HP0.out.own (by ((repeat' (first | with_reducible assumption | with_reducible exact Below.refl _ _ | with_reducible refine Below.drew ?_ | with_reducible refine Below.alloc ?_ (by first | omega | (simp; omega) | (simp; done) | fail) _ | with_reducible refine Below.setCell ?_ (by first | omega | (simp; omega) | (simp; done) | fail) _ | fail)); (first | done | fail)))) rfl ((HL.out.keep (by ((repeat' (first | with_reducible assumption | with_reducible exact Below.refl _ _ | with_reducible refine Below.drew ?_ | with_reducible refine Below.alloc ?_ (by first | omega | (simp; omega) | (simp; done) | fail) _ | with_reducible refine Below.setCell ?_ (by first | omega | (simp; omega) | (simp; done) | fail) _ | fail)); (first | done | fail)))).src) (ones_int i.l) (by unfold maxLen; omega) (by omega) (by first | omega | (simp; omega) | (simp; done)) ?_; intro v2 w2 hap; have hy2 : Below (w.heap.size + 1) (w.alloc (Obj.cells #[Value.int .i64 i.op, Value.int .i64 i.d, Value.int .i64 i.a, Value.int .i64 i.b, Value.int .i64 i.t, Value.int .i64 i.k, Value.slice p i.l.length c] 24)) w2 := Below.trans (by ((repeat' (first | with_reducible assumption | with_reducible exact Below.refl _ _ | with_reducible refine Below.drew ?_ | with_reducible refine Below.alloc ?_ (by first | omega | (simp; omega) | (simp; done) | fail) _ | with_reducible refine Below.setCell ?_ (by first | omega | (simp; omega) | (simp; done) | fail) _ | fail)); (first | done | fail)) : Below (w.heap.size + 1) (w.alloc (Obj.cells #[Value.int .i64 i.op, Value.int .i64 i.d, Value.int .i64 i.a, Value.int .i64 i.b, Value.int .i64 i.t, Value.int .i64 i.k, Value.slice p i.l.length c] 24)) _) (hap.below (by first | omega | (simp; omega) | (simp; done)) (fun g hg => (HP0.out.own.lt g hg).1)); have hb2 : Below w.heap.size w w2 := Below.trans ((Below.refl w.heap.size w).alloc (Nat.le_refl _) _) (hy2.mono (Nat.le_succ _)); have hs2 := hy2.size; rw [World.size_alloc] at hs2; obtain ⟨_, _, _, _, _, _, _⟩ := (Box7.new w i (.slice p i.l.length c) 24).keep hy2 (Nat.lt_succ_self _); have HP2 := Lib.hid hap; clear hap))
  go_ret
  exact ⟨_, rfl, by rw [HD.out]; exact own_conv (own_low1 (own_keep HP2.out.own (by ((repeat' (first | with_reducible assumption | with_reducible exact Below.refl _ _ | with_reducible refine Below.drew ?_ | with_reducible refine Below.alloc ?_ (by first | omega | (simp; omega) | (simp; done) | fail) _ | with_reducible refine Below.setCell ?_ (by first | omega | (simp; omega) | (simp; done) | fail) _ | fail)); (first | done | fail))))) (by first | (simp; done) | (simp; omega)) (by simp), by ((repeat' (first | with_reducible assumption | with_reducible exact Below.refl _ _ | with_reducible refine Below.drew ?_ | with_reducible refine Below.alloc ?_ (by first | omega | (simp; omega) | (simp; done) | fail) _ | with_reducible refine Below.setCell ?_ (by first | omega | (simp; omega) | (simp; done) | fail) _ | fail)); (first | done | fail))⟩
set_option maxRecDepth 100000 in
set_option maxHeartbeats 1000000 in
theorem reads_011 (i : InsD) (lv : Value) (w : World) (hU : Us w) (hl : Ri w lv i.l) (hll : i.l.length ≤ 17592186043904) (h0 : doesB i.op 2 = false) (h1 : doesB i.op 4 = true) (h2 : doesB i.op 8 = true) :
    Calls Tryz.prog 5 #[insV i lv] w (LPost w (readsD i)) := by
  have HD := Lib.hid (show readsD i = [i.b] ++ i.l from by simp [readsD, h0, h1, h2])
  have HU := Lib.hid hU
  have HL := Lib.hid hl
  obtain ⟨p, c, hlv, hx1, hx2, hx3⟩ := ri_form hl
  clear hU hl hx1 hx3
  subst hlv
  have H0 := Lib.hid h0
  have H1 := Lib.hid h1
  have H2 := Lib.hid h2
  clear h0 h1 h2
  unfold insV
  go_enter Tryz.func5, Tryz.ntmps5
  go_wp2_with (first
    | (go_at_call 10; (with_reducible refine (does_at (fl := 2) _ (HU.out.keep (by ((repeat' (first | with_reducible assumption | with_reducible exact Below.refl _ _ | with_reducible refine Below.drew ?_ | with_reducible refine Below.alloc ?_ (by first | omega | (simp; omega) | (simp; done) | fail) _ | with_reducible refine Below.setCell ?_ (by first | omega | (simp; omega) | (simp; done) | fail) _ | fail)); (first | done | fail)))) H0.out).mono ?_); rintro e w9 ⟨rfl, rfl⟩)
    | (go_at_call 10; (with_reducible refine (does_at (fl := 4) _ (HU.out.keep (by ((repeat' (first | with_reducible assumption | with_reducible exact Below.refl _ _ | with_reducible refine Below.drew ?_ | with_reducible refine Below.alloc ?_ (by first | omega | (simp; omega) | (simp; done) | fail) _ | with_reducible refine Below.setCell ?_ (by first | omega | (simp; omega) | (simp; done) | fail) _ | fail)); (first | done | fail)))) H1.out).mono ?_); rintro e w9 ⟨rfl, rfl⟩)
    | (go_at_call 10; (with_reducible refine (does_at (fl := 8) _ (HU.out.keep (by ((repeat' (first | with_reducible assumption | with_reducible exact Below.refl _ _ | with_reducible refine Below.drew ?_ | with_reducible refine Below.alloc ?_ (by first | omega | (simp; omega) | (simp; done) | fail) _ | with_reducible refine Below.setCell ?_ (by first | omega | (simp; omega) | (simp; done) | fail) _ | fail)); (first | done | fail)))) H2.out).mono ?_); rintro e w9 ⟨rfl, rfl⟩)
    | (at_builtin; refine wpList_app rfl (.tmp 15) (.tmp 18) rfl Tryz.underlying22 infoInt rfl rfl (v := .slice none 0 0) (base := w.heap.size + 1) (n := 0) (m := 1) (xs := []) (news := [.int .i64 i.b]) (World.ownsRow_nil _ _ _ _) rfl (by exact src_top (by first | rfl | (simp; done))) (ones_int [i.b]) (by unfold maxLen; omega) (by omega) (by first | omega | (simp; omega) | (simp; done)) ?_; intro v1 w1 hap; have hy1 : Below (w.heap.size + 1) (w.alloc (Obj.cells #[Value.int .i64 i.op, Value.int .i64 i.d, Value.int .i64 i.a, Value.int .i64 i.b, Value.int .i64 i.t, Value.int .i64 i.k, Value.slice p i.l.length c] 24)) w1 := Below.trans (by ((repeat' (first | with_reducible assumption | with_reducible exact Below.refl _ _ | with_reducible refine Below.drew ?_ | with_reducible refine Below.alloc ?_ (by first | omega | (simp; omega) | (simp; done) | fail) _ | with_reducible refine Below.setCell ?_ (by first | omega | (simp; omega) | (simp; done) | fail) _ | fail)); (first | done | fail)) : Below (w.heap.size + 1) (w.alloc (Obj.cells #[Value.int .i64 i.op, Value.int .i64 i.d, Value.int .i64 i.a, Value.int .i64 i.b, Value.int .i64 i.t, Value.int .i64 i.k, Value.slice p i.l.length c] 24)) _) (hap.below (by first | omega | (simp; omega) | (simp; done)) (fun g hg => (by simp [Value.ownBlock] at hg))); have hb1 : Below w.heap.size w w1 := Below.trans ((Below.refl w.heap.size w).alloc (Nat.le_refl _) _) (hy1.mono (Nat.le_succ _)); have hs1 := hy1.size; rw [World.size_alloc] at hs1; obtain ⟨_, _, _, _, _, _, _⟩ := (Box7.new w i (.slice p i.l.length c) 24).keep hy1 (Nat.lt_succ_self _); have HP1 := Lib.hid hap; clear hap)
    | (at_builtin; refine wpList_app rfl (.tmp 23) (.tmp 25) rfl Tryz.underlying22 infoInt rfl rfl (v := v1) (base := w.heap.size + 1) (n := (0 + 1)) (m := i.l.length) (xs := ([] ++ [.int .i64 i.b])) (news := (i.l.map (Value.int .i64))) (own_keep HP1.out.own (by ((repeat' (first | with_reducible assumption | with_reducible exact Below.refl _ _ | with_reducible refine Below.drew ?_ | with_reducible refine Below.alloc ?_ (by first | omega | (simp; omega) | (simp; done) | fail) _ | with_reducible refine Below.setCell ?_ (by first | omega | (simp; omega) | (simp; done) | fail) _ | fail)); (first | done | fail)))) rfl ((HL.out.keep (by ((repeat' (first | with_reducible assumption | with_reducible exact Below.refl _ _ | with_reducible refine Below.drew ?_ | with_reducible refine Below.alloc ?_ (by first | omega | (simp; omega) | (simp; done) | fail) _ | with_reducible refine Below.setCell ?_ (by first | omega | (simp; omega) | (simp; done) | fail) _ | fail)); (first | done | fail)))).src) (ones_int i.l) (by unfold maxLen; omega) (by omega) (by first | omega | (simp; omega) | (simp; done)) ?_; intro v2 w2 hap; have hy2 : Below (w.heap.size + 1) (w.alloc (Obj.cells #[Value.int .i64 i.op, Value.int .i64 i.d, Value.int .i64 i.a, Value.int .i64 i.b, Value.int .i64 i.t, Value.int .i64 i.k, Value.slice p i.l.length c] 24)) w2 := Below.trans (by ((repeat' (first | with_reducible assumption | with_reducible exact Below.refl _ _ | with_reducible refine Below.drew ?_ | with_reducible refine Below.alloc ?_ (by first | omega | (simp; omega) | (simp; done) | fail) _ | with_reducible refine Below.setCell ?_ (by first | omega | (simp; omega) | (simp; done) | fail) _ | fail)); (first | done | fail)) : Below (w.heap.size + 1) (w.alloc (Obj.cells #[Value.int .i64 i.op, Value.int .i64 i.d, Value.int .i64 i.a, Value.int .i64 i.b, Value.int .i64 i.t, Value.int .i64 i.k, Value.slice p i.l.length c] 24)) _) (hap.below (by first | omega | (simp; omega) | (simp; done)) (fun g hg => (HP1.out.own.lt g hg).1)); have hb2 : Below w.heap.size w w2 := Below.trans ((Below.refl w.heap.size w).alloc (Nat.le_refl _) _) (hy2.mono (Nat.le_succ _)); have hs2 := hy2.size; rw [World.size_alloc] at hs2; obtain ⟨_, _, _, _, _, _, _⟩ := (Box7.new w i (.slice p i.l.length c) 24).keep hy2 (Nat.lt_succ_self _); have HP2 := Lib.hid hap; clear hap))
  go_ret
  exact ⟨_, rfl, by rw [HD.out]; exact own_conv (own_low1 (own_keep HP2.out.own (by ((repeat' (first | with_reducible assumption | with_reducible exact Below.refl _ _ | with_reducible refine Below.drew ?_ | with_reducible refine Below.alloc ?_ (by first | omega | (simp; omega) | (simp; done) | fail) _ | with_reducible refine Below.setCell ?_ (by first | omega | (simp; omega) | (simp; done) | fail) _ | fail)); (first | done | fail))))) (by first | (simp; done) | (simp; omega)) (by simp), by ((repeat' (first | with_reducible assumption | with_reducible exact Below.refl _ _ | with_reducible refine Below.drew ?_ | with_reducible refine Below.alloc ?_ (by first | omega | (simp; omega) | (simp; done) | fail) _ | with_reducible refine Below.setCell ?_ (by first | omega | (simp; omega) | (simp; done) | fail) _ | fail)); (first | done | fail))⟩
set_option maxRecDepth 100000 in
set_option maxHeartbeats 1000000 in
theorem reads_111 (i : InsD) (lv : Value) (w : World) (hU : Us w) (hl : Ri w lv i.l) (hll : i.l.length ≤ 17592186043904) (h0 : doesB i.op 2 = true) (h1 : doesB i.op 4 = true) (h2 : doesB i.op 8 = true) :
    Calls Tryz.prog 5 #[insV i lv] w (LPost w (readsD i)) := by
  have HD := Lib.hid (show readsD i = [i.a] ++ [i.b] ++ i.l from by simp [readsD, h0, h1, h2])
  have HU := Lib.hid hU
  have HL := Lib.hid hl
  obtain ⟨p, c, hlv, hx1, hx2, hx3⟩ := ri_form hl
  clear hU hl hx1 hx3
  subst hlv
  have H0 := Lib.hid h0
  have H1 := Lib.hid h1
  have H2 := Lib.hid h2
  clear h0 h1 h2
  unfold insV
  go_enter Tryz.func5, Tryz.ntmps5
  go_wp2_with (first
    | (go_at_call 10; (with_reducible refine (does_at (fl := 2) _ (HU.out.keep (by ((repeat' (first | with_reducible assumption | with_reducible exact Below.refl _ _ | with_reducible refine Below.drew ?_ | with_reducible refine Below.alloc ?_ (by first | omega | (simp; omega) | (simp; done) | fail) _ | with_reducible refine Below.setCell ?_ (by first | omega | (simp; omega) | (simp; done) | fail) _ | fail)); (first | done | fail)))) H0.out).mono ?_); rintro e w9 ⟨rfl, rfl⟩)
    | (go_at_call 10; (with_reducible refine (does_at (fl := 4) _ (HU.out.keep (by ((repeat' (first | with_reducible assumption | with_reducible exact Below.refl _ _ | with_reducible refine Below.drew ?_ | with_reducible refine Below.alloc ?_ (by first | omega | (simp; omega) | (simp; done) | fail) _ | with_reducible refine Below.setCell ?_ (by first | omega | (simp; omega) | (simp; done) | fail) _ | fail)); (first | done | fail)))) H1.out).mono ?_); rintro e w9 ⟨rfl, rfl⟩)
    | (go_at_call 10; (with_reducible refine (does_at (fl := 8) _ (HU.out.keep (by ((repeat' (first | with_reducible assumption | with_reducible exact Below.refl _ _ | with_reducible refine Below.drew ?_ | with_reducible refine Below.alloc ?_ (by first | omega | (simp; omega) | (simp; done) | fail) _ | with_reducible refine Below.setCell ?_ (by first | omega | (simp; omega) | (simp; done) | fail) _ | fail)); (first | done | fail)))) H2.out).mono ?_); rintro e w9 ⟨rfl, rfl⟩)
    | (at_builtin; refine wpList_app rfl (.tmp 7) (.tmp 10) rfl Tryz.underlying22 infoInt rfl rfl (v := .slice none 0 0) (base := w.heap.size + 1) (n := 0) (m := 1) (xs := []) (news := [.int .i64 i.a]) (World.ownsRow_nil _ _ _ _) rfl (by exact src_top (by first | rfl | (simp; done))) (ones_int [i.a]) (by unfold maxLen; omega) (by omega) (by first | omega | (simp; omega) | (simp; done)) ?_; intro v0 w0 hap; have hy0 : Below (w.heap.size + 1) (w.alloc (Obj.cells #[Value.int .i64 i.op, Value.int .i64 i.d, Value.int .i64 i.a, Value.int .i64 i.b, Value.int .i64 i.t, Value.int .i64 i.k, Value.slice p i.l.length c] 24)) w0 := Below.trans (by ((repeat' (first | with_reducible assumption | with_reducible exact Below.refl _ _ | with_reducible refine Below.drew ?_ | with_reducible refine Below.alloc ?_ (by first | omega | (simp; omega) | (simp; done) | fail) _ | with_reducible refine Below.setCell ?_ (by first | omega | (simp; omega) | (simp; done) | fail) _ | fail)); (first | done | fail)) : Below (w.heap.size + 1) (w.alloc (Obj.cells #[Value.int .i64 i.op, Value.int .i64 i.d, Value.int .i64 i.a, Value.int .i64 i.b, Value.int .i64 i.t, Value.int .i64 i.k, Value.slice p i.l.length c] 24)) _) (hap.below (by first | omega | (simp; omega) | (simp; done)) (fun g hg => (by simp [Value.ownBlock] at hg))); have hb0 : Below w.heap.size w w0 := Below.trans ((Below.refl w.heap.size w).alloc (Nat.le_refl _) _) (hy0.mono (Nat.le_succ _)); have hs0 := hy0.size; rw [World.size_alloc] at hs0; obtain ⟨_, _, _, _, _, _, _⟩ := (Box7.new w i (.slice p i.l.length c) 24).keep hy0 (Nat.lt_succ_self _); have HP0 := Lib.hid hap; clear hap)
    | (at_builtin; refine wpList_app rfl (.tmp 15) (.tmp 18) rfl Tryz.underlying22 infoInt rfl rfl (v := v0) (base := w.heap.size + 1) (n := (0 + 1)) (m := 1) (xs := ([] ++ [.int .i64 i.a])) (news := [.int .i64 i.b]) (own_keep HP0.out.own (by ((repeat' (first | with_reducible assumption | with_reducible exact Below.refl _ _ | with_reducible refine Below.drew ?_ | with_reducible refine Below.alloc ?_ (by first | omega | (simp; omega) | (simp; done) | fail) _ | with_reducible refine Below.setCell ?_ (by first | omega | (simp; omega) | (simp; done) | fail) _ | fail)); (first | done | fail)))) rfl (by exact src_top (by first | rfl | (simp; done))) (ones_int [i.b]) (by unfold maxLen; omega) (by omega) (by first | omega | (simp; omega) | (simp; done)) ?_; intro v1 w1 hap; have hy1 : Below (w.heap.size + 1) (w.alloc (Obj.cells #[Value.int .i64 i.op, Value.int .i64 i.d, Value.int .i64 i.a, Value.int .i64 i.b, Value.int .i64 i.t, Value.int .i64 i.k, Value.slice p i.l.length c] 24)) w1 := Below.trans (by ((repeat' (first | with_reducible assumption | with_reducible exact Below.refl _ _ | with_reducible refine Below.drew ?_ | with_reducible refine Below.alloc ?_ (by first | omega | (simp; omega) | (simp; done) | fail) _ | with_reducible refine Below.setCell ?_ (by first | omega | (simp; omega) | (simp; done) | fail) _ | fail)); (first | done | fail)) : Below (w.heap.size + 1) (w.alloc (Obj.cells #[Value.int .i64 i.op, Value.int .i64 i.d, Value.int .i64 i.a, Value.int .i64 i.b, Value.int .i64 i.t, Value.int .i64 i.k, Value.slice p i.l.length c] 24)) _) (hap.below (by first | omega | (simp; omega) | (simp; done)) (fun g hg => (HP0.out.own.lt g hg).1)); have hb1 : Below w.heap.size w w1 := Below.trans ((Below.refl w.heap.size w).alloc (Nat.le_refl _) _) (hy1.mono (Nat.le_succ _)); have hs1 := hy1.size; rw [World.size_alloc] at hs1; obtain ⟨_, _, _, _, _, _, _⟩ := (Box7.new w i (.slice p i.l.length c) 24).keep hy1 (Nat.lt_succ_self _); have HP1 := Lib.hid hap; clear hap)
    | (at_builtin; refine wpList_app rfl (.tmp 23) (.tmp 25) rfl Tryz.underlying22 infoInt rfl rfl (v := v1) (base := w.heap.size + 1) (n := ((0 + 1) + 1)) (m := i.l.length) (xs := (([] ++ [.int .i64 i.a]) ++ [.int .i64 i.b])) (news := (i.l.map (Value.int .i64))) (own_keep HP1.out.own (by ((repeat' (first | with_reducible assumption | with_reducible exact Below.refl _ _ | with_reducible refine Below.drew ?_ | with_reducible refine Below.alloc ?_ (by first | omega | (simp; omega) | (simp; done) | fail) _ | with_reducible refine Below.setCell ?_ (by first | omega | (simp; omega) | (simp; done) | fail) _ | fail)); (first | done | fail)))) rfl ((HL.out.keep (by ((repeat' (first | with_reducible assumption | with_reducible exact Below.refl _ _ | with_reducible refine Below.drew ?_ | with_reducible refine Below.alloc ?_ (by first | omega | (simp; omega) | (simp; done) | fail) _ | with_reducible refine Below.setCell ?_ (by first | omega | (simp; omega) | (simp; done) | fail) _ | fail)); (first | done | fail)))).src) (ones_int i.l) (by unfold maxLen; omega) (by omega) (by first | omega | (simp; omega) | (simp; done)) ?_; intro v2 w2 hap; have hy2 : Below (w.heap.size + 1) (w.alloc (Obj.cells #[Value.int .i64 i.op, Value.int .i64 i.d, Value.int .i64 i.a, Value.int .i64 i.b, Value.int .i64 i.t, Value.int .i64 i.k, Value.slice p i.l.length c] 24)) w2 := Below.trans (by ((repeat' (first | with_reducible assumption | with_reducible exact Below.refl _ _ | with_reducible refine Below.drew ?_ | with_reducible refine Below.alloc ?_ (by first | omega | (simp; omega) | (simp; done) | fail) _ | with_reducible refine Below.setCell ?_ (by first | omega | (simp; omega) | (simp; done) | fail) _ | fail)); (first | done | fail)) : Below (w.heap.size + 1) (w.alloc (Obj.cells #[Value.int .i64 i.op, Value.int .i64 i.d, Value.int .i64 i.a, Value.int .i64 i.b, Value.int .i64 i.t, Value.int .i64 i.k, Value.slice p i.l.length c] 24)) _) (hap.below (by first | omega | (simp; omega) | (simp; done)) (fun g hg => (HP1.out.own.lt g hg).1)); have hb2 : Below w.heap.size w w2 := Below.trans ((Below.refl w.heap.size w).alloc (Nat.le_refl _) _) (hy2.mono (Nat.le_succ _)); have hs2 := hy2.size; rw [World.size_alloc] at hs2; obtain ⟨_, _, _, _, _, _, _⟩ := (Box7.new w i (.slice p i.l.length c) 24).keep hy2 (Nat.lt_succ_self _); have HP2 := Lib.hid hap; clear hap))
  go_ret
  exact ⟨_, rfl, by rw [HD.out]; exact own_conv (own_low1 (own_keep HP2.out.own (by ((repeat' (first | with_reducible assumption | with_reducible exact Below.refl _ _ | with_reducible refine Below.drew ?_ | with_reducible refine Below.alloc ?_ (by first | omega | (simp; omega) | (simp; done) | fail) _ | with_reducible refine Below.setCell ?_ (by first | omega | (simp; omega) | (simp; done) | fail) _ | fail)); (first | done | fail))))) (by first | (simp; done) | (simp; omega)) (by simp), by ((repeat' (first | with_reducible assumption | with_reducible exact Below.refl _ _ | with_reducible refine Below.drew ?_ | with_reducible refine Below.alloc ?_ (by first | omega | (simp; omega) | (simp; done) | fail) _ | with_reducible refine Below.setCell ?_ (by first | omega | (simp; omega) | (simp; done) | fail) _ | fail)); (first | done | fail))⟩
theorem reads_any (i : InsD) (lv : Value) (w : World) (hU : Us w) (hl : Ri w lv i.l) (hll : i.l.length ≤ 17592186043904) : Calls Tryz.prog 5 #[insV i lv] w (LPost w (readsD i)) := by
  cases h0 : doesB i.op 2 with
  | false =>
    cases h1 : doesB i.op 4 with
    | false =>
      cases h2 : doesB i.op 8 with
      | false =>
        exact reads_000 i lv  w hU hl hll h0 h1 h2
      | true =>
        exact reads_001 i lv  w hU hl hll h0 h1 h2
    | true =>
      cases h2 : doesB i.op 8 with
      | false =>
        exact reads_010 i lv  w hU hl hll h0 h1 h2
      | true =>
        exact reads_011 i lv  w hU hl hll h0 h1 h2
  | true =>
    cases h1 : doesB i.op 4 with
    | false =>
      cases h2 : doesB i.op 8 with
      | false =>
        exact reads_100 i lv  w hU hl hll h0 h1 h2
      | true =>
        exact reads_101 i lv  w hU hl hll h0 h1 h2
    | true =>
      cases h2 : doesB i.op 8 with
      | false =>
        exact reads_110 i lv  w hU hl hll h0 h1 h2
      | true =>
        exact reads_111 i lv  w hU hl hll h0 h1 h2
set_option maxRecDepth 100000 in
set_option maxHeartbeats 1000000 in
theorem writes_00 (i : InsD) (lv : Value) (w : World) (hU : Us w) (hl : Ri w lv i.l) (hll : i.l.length ≤ 17592186043904) (h0 : doesB i.op 1 = false) (h1 : doesB i.op 16 = false) :
    Calls Tryz.prog 6 #[insV i lv] w (LPost w (writesD i)) := by
  have HD := Lib.hid (show writesD i = [] from by simp [writesD, h0, h1])
  have HU := Lib.hid hU
  have HL := Lib.hid hl
  obtain ⟨p, c, hlv, hx1, hx2, hx3⟩ := ri_form hl
  clear hU hl hx1 hx3
  subst hlv
  have H0 := Lib.hid h0
  have H1 := Lib.hid h1
  clear h0 h1
  unfold insV
  go_enter Tryz.func6, Tryz.ntmps6
  go_wp2_with (first
    | (go_at_call 10; (with_reducible refine (does_at (fl := 1) _ (HU.out.keep (by ((repeat' (first | with_reducible assumption | with_reducible exact Below.refl _ _ | with_reducible refine Below.drew ?_ | with_reducible refine Below.alloc ?_ (by first | omega | (simp; omega) | (simp; done) | fail) _ | with_reducible refine Below.setCell ?_ (by first | omega | (simp; omega) | (simp; done) | fail) _ | fail)); (first | done | fail)))) H0.out).mono ?_); rintro e w9 ⟨rfl, rfl⟩)
    | (go_at_call 10; (with_reducible refine (does_at (fl := 16) _ (HU.out.keep (by ((repeat' (first | with_reducible assumption | with_reducible exact Below.refl _ _ | with_reducible refine Below.drew ?_ | with_reducible refine Below.alloc ?_ (by first | omega | (simp; omega) | (simp; done) | fail) _ | with_reducible refine Below.setCell ?_ (by first | omega | (simp; omega) | (simp; done) | fail) _ | fail)); (first | done | fail)))) H1.out).mono ?_); rintro e w9 ⟨rfl, rfl⟩))
  go_ret
  exact ⟨_, rfl, by rw [HD.out]; exact OW.nil _ _, by ((repeat' (first | with_reducible assumption | with_reducible exact Below.refl _ _ | with_reducible refine Below.drew ?_ | with_reducible refine Below.alloc ?_ (by first | omega | (simp; omega) | (simp; done) | fail) _ | with_reducible refine Below.setCell ?_ (by first | omega | (simp; omega) | (simp; done) | fail) _ | fail)); (first | done | fail))⟩
set_option maxRecDepth 100000 in
set_option maxHeartbeats 1000000 in
theorem writes_10 (i : InsD) (lv : Value) (w : World) (hU : Us w) (hl : Ri w lv i.l) (hll : i.l.length ≤ 17592186043904) (h0 : doesB i.op 1 = true) (h1 : doesB i.op 16 = false) :
    Calls Tryz.prog 6 #[insV i lv] w (LPost w (writesD i)) := by
  have HD := Lib.hid (show writesD i = [i.d] from by simp [writesD, h0, h1])
  have HU := Lib.hid hU
  have HL := Lib.hid hl
  obtain ⟨p, c, hlv, hx1, hx2, hx3⟩ := ri_form hl
  clear hU hl hx1 hx3
  subst hlv
  have H0 := Lib.hid h0
  have H1 := Lib.hid h1
  clear h0 h1
  unfold insV
  go_enter Tryz.func6, Tryz.ntmps6
  go_wp2_with (first
    | (go_at_call 10; (with_reducible refine (does_at (fl := 1) _ (HU.out.keep (by ((repeat' (first | with_reducible assumption | with_reducible exact Below.refl _ _ | with_reducible refine Below.drew ?_ | with_reducible refine Below.alloc ?_ (by first | omega | (simp; omega) | (simp; done) | fail) _ | with_reducible refine Below.setCell ?_ (by first | omega | (simp; omega) | (simp; done) | fail) _ | fail)); (first | done | fail)))) H0.out).mono ?_); rintro e w9 ⟨rfl, rfl⟩)
    | (go_at_call 10; (with_reducible refine (does_at (fl := 16) _ (HU.out.keep (by ((repeat' (first | with_reducible assumption | with_reducible exact Below.refl _ _ | with_reducible refine Below.drew ?_ | with_reducible refine Below.alloc ?_ (by first | omega | (simp; omega) | (simp; done) | fail) _ | with_reducible refine Below.setCell ?_ (by first | omega | (simp; omega) | (simp; done) | fail) _ | fail)); (first | done | fail)))) H1.out).mono ?_); rintro e w9 ⟨rfl, rfl⟩)
    | (at_builtin; refine wpList_app rfl (.tmp 7) (.tmp 10) rfl Tryz.underlying22 infoInt rfl rfl (v := .slice none 0 0) (base := w.heap.size + 1) (n := 0) (m := 1) (xs := []) (news := [.int .i64 i.d]) (World.ownsRow_nil _ _ _ _) rfl (by exact src_top (by first | rfl | (simp; done))) (ones_int [i.d]) (by unfold maxLen; omega) (by omega) (by first | omega | (simp; omega) | (simp; done)) ?_; intro v0 w0 hap; have hy0 : Below (w.heap.size + 1) (w.alloc (Obj.cells #[Value.int .i64 i.op, Value.int .i64 i.d, Value.int .i64 i.a, Value.int .i64 i.b, Value.int .i64 i.t, Value.int .i64 i.k, Value.slice p i.l.length c] 24)) w0 := Below.trans (by ((repeat' (first | with_reducible assumption | with_reducible exact Below.refl _ _ | with_reducible refine Below.drew ?_ | with_reducible refine Below.alloc ?_ (by first | omega | (simp; omega) | (simp; done) | fail) _ | with_reducible refine Below.setCell ?_ (by first | omega | (simp; omega) | (simp; done) | fail) _ | fail)); (first | done | fail)) : Below (w.heap.size + 1) (w.alloc (Obj.cells #[Value.int .i64 i.op, Value.int .i64 i.d, Value.int .i64 i.a, Value.int .i64 i.b, Value.int .i64 i.t, Value.int .i64 i.k, Value.slice p i.l.length c] 24)) _) (hap.below (by first | omega | (simp; omega) | (simp; done)) (fun g hg => (by simp [Value.ownBlock] at hg))); have hb0 : Below w.heap.size w w0 := Below.trans ((Below.refl w.heap.size w).alloc (Nat.le_refl _) _) (hy0.mono (Nat.le_succ _)); have hs0 := hy0.size; rw [World.size_alloc] at hs0; obtain ⟨_, _, _, _, _, _, _⟩ := (Box7.new w i (.slice p i.l.length c) 24).keep hy0 (Nat.lt_succ_self _); have HP0 := Lib.hid hap; clear hap))
  go_ret
  exact ⟨_, rfl, by rw [HD.out]; exact own_conv (own_low1 (own_keep HP0.out.own (by ((repeat' (first | with_reducible assumption | with_reducible exact Below.refl _ _ | with_reducible refine Below.drew ?_ | with_reducible refine Below.alloc ?_ (by first | omega | (simp; omega) | (simp; done) | fail) _ | with_reducible refine Below.setCell ?_ (by first | omega | (simp; omega) | (simp; done) | fail) _ | fail)); (first | done | fail))))) (by first | (simp; done) | (simp; omega)) (by simp), by ((repeat' (first | with_reducible assumption | with_reducible exact Below.refl _ _ | with_reducible refine Below.drew ?_ | with_reducible refine Below.alloc ?_ (by first | omega | (simp; omega) | (simp; done) | fail) _ | with_reducible refine Below.setCell ?_ (by first | omega | (simp; omega) | (simp; done) | fail) _ | fail)); (first | done | fail))⟩
set_option maxRecDepth 100000 in
set_option maxHeartbeats 1000000 in
theorem writes_01 (i : InsD) (lv : Value) (w : World) (hU : Us w) (hl : Ri w lv i.l) (hll : i.l.length ≤ 17592186043904) (h0 : doesB i.op 1 = false) (h1 : doesB i.op 16 = true) :
    Calls Tryz.prog 6 #[insV i lv] w (LPost w (writesD i)) := by
  have HD := Lib.hid (show writesD i = i.l from by simp [writesD, h0, h1])
  have HU := Lib.hid hU
  have HL := Lib.hid hl
  obtain ⟨p, c, hlv, hx1, hx2, hx3⟩ := ri_form hl
  clear hU hl hx1 hx3
  subst hlv
  have H0 := Lib.hid h0
  have H1 := Lib.hid h1
  clear h0 h1
  unfold insV
  go_enter Tryz.func6, Tryz.ntmps6
  go_wp2_with (first
    | (go_at_call 10; (with_reducible refine (does_at (fl := 1) _ (HU.out.keep (by ((repeat' (first | with_reducible assumption | with_reducible exact Below.refl _ _ | with_reducible refine Below.drew ?_ | with_reducible refine Below.alloc ?_ (by first | omega | (simp; omega) | (simp; done) | fail) _ | with_reducible refine Below.setCell ?_ (by first | omega | (simp; omega) | (simp; done) | fail) _ | fail)); (first | done | fail)))) H0.out).mono ?_); rintro e w9 ⟨rfl, rfl⟩)
    | (go_at_call 10; (with_reducible refine (does_at (fl := 16) _ (HU.out.keep (by ((repeat' (first | with_reducible assumption | with_reducible exact Below.refl _ _ | with_reducible refine Below.drew ?_ | with_reducible refine Below.alloc ?_ (by first | omega | (simp; omega) | (simp; done) | fail) _ | with_reducible refine Below.setCell ?_ (by first | omega | (simp; omega) | (simp; done) | fail) _ | fail)); (first | done | fail)))) H1.out).mono ?_); rintro e w9 ⟨rfl, rfl⟩)
    | (at_builtin; refine wpList_app rfl (.tmp 15) (.tmp 17) rfl Tryz.underlying22 infoInt rfl rfl (v := .slice none 0 0) (base := w.heap.size + 1) (n := 0) (m := i.l.length) (xs := []) (news := (i.l.map (Value.int .i64))) (World.ownsRow_nil _ _ _ _) rfl ((HL.out.keep (by ((repeat' (first | with_reducible assumption | with_reducible exact Below.refl _ _ | with_reducible refine Below.drew ?_ | with_reducible refine Below.alloc ?_ (by first | omega | (simp; omega) | (simp; done) | fail) _ | with_reducible refine Below.setCell ?_ (by first | omega | (simp; omega) | (simp; done) | fail) _ | fail)); (first | done | fail)))).src) (ones_int i.l) (by unfold maxLen; omega) (by omega) (by first | omega | (simp; omega) | (simp; done)) ?_; intro v1 w1 hap; have hy1 : Below (w.heap.size + 1) (w.alloc (Obj.cells #[Value.int .i64 i.op, Value.int .i64 i.d, Value.int .i64 i.a, Value.int .i64 i.b, Value.int .i64 i.t, Value.int .i64 i.k, Value.slice p i.l.length c] 24)) w1 := Below.trans (by ((repeat' (first | with_reducible assumption | with_reducible exact Below.refl _ _ | with_reducible refine Below.drew ?_ | with_reducible refine Below.alloc ?_ (by first | omega | (simp; omega) | (simp; done) | fail) _ | with_reducible refine Below.setCell ?_ (by first | omega | (simp; omega) | (simp; done) | fail) _ | fail)); (first | done | fail)) : Below (w.heap.size + 1) (w.alloc (Obj.cells #[Value.int .i64 i.op, Value.int .i64 i.d, Value.int .i64 i.a, Value.int .i64 i.b, Value.int .i64 i.t, Value.int .i64 i.k, Value.slice p i.l.length c] 24)) _) (hap.below (by first | omega | (simp; omega) | (simp; done)) (fun g hg => (by simp [Value.ownBlock] at hg))); have hb1 : Below w.heap.size w w1 := Below.trans ((Below.refl w.heap.size w).alloc (Nat.le_refl _) _) (hy1.mono (Nat.le_succ _)); have hs1 := hy1.size; rw [World.size_alloc] at hs1; obtain ⟨_, _, _, _, _, _, _⟩ := (Box7.new w i (.slice p i.l.length c) 24).keep hy1 (Nat.lt_succ_self _); have HP1 := Lib.hid hap; clear hap))
  go_ret
  exact ⟨_, rfl, by rw [HD.out]; exact own_conv (own_low1 (own_keep HP1.out.own (by ((repeat' (first | with_reducible assumption | with_reducible exact Below.refl _ _ | with_reducible refine Below.drew ?_ | with_reducible refine Below.alloc ?_ (by first | omega | (simp; omega) | (simp; done) | fail) _ | with_reducible refine Below.setCell ?_ (by first | omega | (simp; omega) | (simp; done) | fail) _ | fail)); (first | done | fail))))) (by first | (simp; done) | (simp; omega)) (by simp), by ((repeat' (first | with_reducible assumption | with_reducible exact Below.refl _ _ | with_reducible refine Below.drew ?_ | with_reducible refine Below.alloc ?_ (by first | omega | (simp; omega) | (simp; done) | fail) _ | with_reducible refine Below.setCell ?_ (by first | omega | (simp; omega) | (simp; done) | fail) _ | fail)); (first | done | fail))⟩
set_option maxRecDepth 100000 in
set_option maxHeartbeats 1000000 in
theorem writes_11 (i : InsD) (lv : Value) (w : World) (hU : Us w) (hl : Ri w lv i.l) (hll : i.l.length ≤ 17592186043904) (h0 : doesB i.op 1 = true) (h1 : doesB i.op 16 = true) :
    Calls Tryz.prog 6 #[insV i lv] w (LPost w (writesD i)) := by
  have HD := Lib.hid (show writesD i = [i.d] ++ i.l from by simp [writesD, h0, h1])
  have HU := Lib.hid hU
  have HL := Lib.hid hl
  obtain ⟨p, c, hlv, hx1, hx2, hx3⟩ := ri_form hl
  clear hU hl hx1 hx3
  subst hlv
  have H0 := Lib.hid h0
  have H1 := Lib.hid h1
  clear h0 h1
  unfold insV
  go_enter Tryz.func6, Tryz.ntmps6
  go_wp2_with (first
    | (go_at_call 10; (with_reducible refine (does_at (fl := 1) _ (HU.out.keep (by ((repeat' (first | with_reducible assumption | with_reducible exact Below.refl _ _ | with_reducible refine Below.drew ?_ | with_reducible refine Below.alloc ?_ (by first | omega | (simp; omega) | (simp; done) | fail) _ | with_reducible refine Below.setCell ?_ (by first | omega | (simp; omega) | (simp; done) | fail) _ | fail)); (first | done | fail)))) H0.out).mono ?_); rintro e w9 ⟨rfl, rfl⟩)
    | (go_at_call 10; (with_reducible refine (does_at (fl := 16) _ (HU.out.keep (by ((repeat' (first | with_reducible assumption | with_reducible exact Below.refl _ _ | with_reducible refine Below.drew ?_ | with_reducible refine Below.alloc ?_ (by first | omega | (simp; omega) | (simp; done) | fail) _ | with_reducible refine Below.setCell ?_ (by first | omega | (simp; omega) | (simp; done) | fail) _ | fail)); (first | done | fail)))) H1.out).mono ?_); rintro e w9 ⟨rfl, rfl⟩)
    | (at_builtin; refine wpList_app rfl (.tmp 7) (.tmp 10) rfl Tryz.underlying22 infoInt rfl rfl (v := .slice none 0 0) (base := w.heap.size + 1) (n := 0) (m := 1) (xs := []) (news := [.int .i64 i.d]) (World.ownsRow_nil _ _ _ _) rfl (by exact src_top (by first | rfl | (simp; done))) (ones_int [i.d]) (by unfold maxLen; omega) (by omega) (by first | omega | (simp; omega) | (simp; done)) ?_; intro v0 w0 hap; have hy0 : Below (w.heap.size + 1) (w.alloc (Obj.cells #[Value.int .i64 i.op, Value.int .i64 i.d, Value.int .i64 i.a, Value.int .i64 i.b, Value.int .i64 i.t, Value.int .i64 i.k, Value.slice p i.l.length c] 24)) w0 := Below.trans (by ((repeat' (first | with_reducible assumption | with_reducible exact Below.refl _ _ | with_reducible refine Below.drew ?_ | with_reducible refine Below.alloc ?_ (by first | omega | (simp; omega) | (simp; done) | fail) _ | with_reducible refine Below.setCell ?_ (by first | omega | (simp; omega) | (simp; done) | fail) _ | fail)); (first | done | fail)) : Below (w.heap.size + 1) (w.alloc (Obj.cells #[Value.int .i64 i.op, Value.int .i64 i.d, Value.int .i64 i.a, Value.int .i64 i.b, Value.int .i64 i.t, Value.int .i64 i.k, Value.slice p i.l.length c] 24)) _) (hap.below (by first | omega | (simp; omega) | (simp; done)) (fun g hg => (by simp [Value.ownBlock] at hg))); have hb0 : Below w.heap.size w w0 := Below.trans ((Below.refl w.heap.size w).alloc (Nat.le_refl _) _) (hy0.mono (Nat.le_succ _)); have hs0 := hy0.size; rw [World.size_alloc] at hs0; obtain ⟨_, _, _, _, _, _, _⟩ := (Box7.new w i (.slice p i.l.length c) 24).keep hy0 (Nat.lt_succ_self _); have HP0 := Lib.hid hap; clear hap)
    | (at_builtin; refine wpList_app rfl (.tmp 15) (.tmp 17) rfl Tryz.underlying22 infoInt rfl rfl (v := v0) (base := w.heap.size + 1) (n := (0 + 1)) (m := i.l.length) (xs := ([] ++ [.int .i64 i.d])) (news := (i.l.map (Value.int .i64))) (own_keep HP0.out.own (by ((repeat' (first | with_reducible assumption | with_reducible exact Below.refl _ _ | with_reducible refine Below.drew ?_ | with_reducible refine Below.alloc ?_ (by first | omega | (simp; omega) | (simp; done) | fail) _ | with_reducible refine Below.setCell ?_ (by first | omega | (simp; omega) | (simp; done) | fail) _ | fail)); (first | done | fail)))) rfl ((HL.out.keep (by ((repeat' (first | with_reducible assumption | with_reducible exact Below.refl _ _ | with_reducible refine Below.drew ?_ | with_reducible refine Below.alloc ?_ (by first | omega | (simp; omega) | (simp; done) | fail) _ | with_reducible refine Below.setCell ?_ (by first | omega | (simp; omega) | (simp; done) | fail) _ | fail)); (first | done | fail)))).src) (ones_int i.l) (by unfold maxLen; omega) (by omega) (by first | omega | (simp; omega) | (simp; done)) ?_; intro v1 w1 hap; have hy1 : Below (w.heap.size + 1) (w.alloc (Obj.cells #[Value.int .i64 i.op, Value.int .i64 i.d, Value.int .i64 i.a, Value.int .i64 i.b, Value.int .i64 i.t, Value.int .i64 i.k, Value.slice p i.l.length c] 24)) w1 := Below.trans (by ((repeat' (first | with_reducible assumption | with_reducible exact Below.refl _ _ | with_reducible refine Below.drew ?_ | with_reducible refine Below.alloc ?_ (by first | omega | (simp; omega) | (simp; done) | fail) _ | with_reducible refine Below.setCell ?_ (by first | omega | (simp; omega) | (simp; done) | fail) _ | fail)); (first | done | fail)) : Below (w.heap.size + 1) (w.alloc (Obj.cells #[Value.int .i64 i.op, Value.int .i64 i.d, Value.int .i64 i.a, Value.int .i64 i.b, Value.int .i64 i.t, Value.int .i64 i.k, Value.slice p i.l.length c] 24)) _) (hap.below (by first | omega | (simp; omega) | (simp; done)) (fun g hg => (HP0.out.own.lt g hg).1)); have hb1 : Below w.heap.size w w1 := Below.trans ((Below.refl w.heap.size w).alloc (Nat.le_refl _) _) (hy1.mono (Nat.le_succ _)); have hs1 := hy1.size; rw [World.size_alloc] at hs1; obtain ⟨_, _, _, _, _, _, _⟩ := (Box7.new w i (.slice p i.l.length c) 24).keep hy1 (Nat.lt_succ_self _); have HP1 := Lib.hid hap; clear hap))
  go_ret
  exact ⟨_, rfl, by rw [HD.out]; exact own_conv (own_low1 (own_keep HP1.out.own (by ((repeat' (first | with_reducible assumption | with_reducible exact Below.refl _ _ | with_reducible refine Below.drew ?_ | with_reducible refine Below.alloc ?_ (by first | omega | (simp; omega) | (simp; done) | fail) _ | with_reducible refine Below.setCell ?_ (by first | omega | (simp; omega) | (simp; done) | fail) _ | fail)); (first | done | fail))))) (by first | (simp; done) | (simp; omega)) (by simp), by ((repeat' (first | with_reducible assumption | with_reducible exact Below.refl _ _ | with_reducible refine Below.drew ?_ | with_reducible refine Below.alloc ?_ (by first | omega | (simp; omega) | (simp; done) | fail) _ | with_reducible refine Below.setCell ?_ (by first | omega | (simp; omega) | (simp; done) | fail) _ | fail)); (first | done | fail))⟩
theorem writes_any (i : InsD) (lv : Value) (w : World) (hU : Us w) (hl : Ri w lv i.l) (hll : i.l.length ≤ 17592186043904) : Calls Tryz.prog 6 #[insV i lv] w (LPost w (writesD i)) := by
  cases h0 : doesB i.op 1 with
  | false =>
    cases h1 : doesB i.op 16 with
    | false =>
      exact writes_00 i lv  w hU hl hll h0 h1
    | true =>
      exact writes_01 i lv  w hU hl hll h0 h1
  | true =>
    cases h1 : doesB i.op 16 with
    | false =>
      exact writes_10 i lv  w hU hl hll h0 h1
    | true =>
      exact writes_11 i lv  w hU hl hll h0 h1
set_option maxRecDepth 100000 in
set_option maxHeartbeats 1000000 in
theorem goesL_00 (i : InsD) (lv : Value) (x : Int) (hx0 : -9223372036854775808 ≤ x) (hx1 : x ≤ 9223372036854775807) (hlt : x < 9223372036854775807) (w : World) (hU : Us w) (hl : Ri w lv i.l) (hll : i.l.length ≤ 17592186043904) (h0 : doesB i.op 128 = false) (h1 : doesB i.op 32 = false) :
    Calls Tryz.prog 7 #[insV i lv, .int .i64 x] w (LPost w (goesD i x)) := by
  have HD := Lib.hid (show goesD i x = [x + 1] from by simp [goesD, nextI, hlt, h0, h1])
  have HU := Lib.hid hU
  have HL := Lib.hid hl
  obtain ⟨p, c, hlv, hx1, hx2, hx3⟩ := ri_form hl
  clear hU hl hx1 hx3
  subst hlv
  have H0 := Lib.hid h0
  have H1 := Lib.hid h1
  clear h0 h1
  unfold insV
  go_enter Tryz.func7, Tryz.ntmps7
  go_wp2_with (first
    | (go_at_call 10; (with_reducible refine (does_at (fl := 128) _ (HU.out.keep (by ((repeat' (first | with_reducible assumption | with_reducible exact Below.refl _ _ | with_reducible refine Below.drew ?_ | with_reducible refine Below.alloc ?_ (by first | omega | (simp; omega) | (simp; done) | fail) _ | with_reducible refine Below.setCell ?_ (by first | omega | (simp; omega) | (simp; done) | fail) _ | fail)); (first | done | fail)))) H0.out).mono ?_); rintro e w9 ⟨rfl, rfl⟩)
    | (go_at_call 10; (with_reducible refine (does_at (fl := 32) _ (HU.out.keep (by ((repeat' (first | with_reducible assumption | with_reducible exact Below.refl _ _ | with_reducible refine Below.drew ?_ | with_reducible refine Below.alloc ?_ (by first | omega | (simp; omega) | (simp; done) | fail) _ | with_reducible refine Below.setCell ?_ (by first | omega | (simp; omega) | (simp; done) | fail) _ | fail)); (first | done | fail)))) H1.out).mono ?_); rintro e w9 ⟨rfl, rfl⟩)
    | (at_builtin; refine wpList_app rfl (.tmp 14) (.tmp 16) rfl Tryz.underlying22 infoInt rfl rfl (v := .slice none 0 0) (base := w.heap.size + 1) (n := 0) (m := 1) (xs := []) (news := [.int .i64 (x + 1)]) (World.ownsRow_nil _ _ _ _) rfl (by exact src_top (by first | rfl | (simp; done))) (ones_int [(x + 1)]) (by unfold maxLen; omega) (by omega) (by first | omega | (simp; omega) | (simp; done)) ?_; intro v0 w0 hap; have hy0 : Below (w.heap.size + 1) (w.alloc (Obj.cells #[Value.int .i64 i.op, Value.int .i64 i.d, Value.int .i64 i.a, Value.int .i64 i.b, Value.int .i64 i.t, Value.int .i64 i.k, Value.slice p i.l.length c] 24)) w0 := Below.trans (by ((repeat' (first | with_reducible assumption | with_reducible exact Below.refl _ _ | with_reducible refine Below.drew ?_ | with_reducible refine Below.alloc ?_ (by first | omega | (simp; omega) | (simp; done) | fail) _ | with_reducible refine Below.setCell ?_ (by first | omega | (simp; omega) | (simp; done) | fail) _ | fail)); (first | done | fail)) : Below (w.heap.size + 1) (w.alloc (Obj.cells #[Value.int .i64 i.op, Value.int .i64 i.d, Value.int .i64 i.a, Value.int .i64 i.b, Value.int .i64 i.t, Value.int .i64 i.k, Value.slice p i.l.length c] 24)) _) (hap.below (by first | omega | (simp; omega) | (simp; done)) (fun g hg => (by simp [Value.ownBlock] at hg))); have hb0 : Below w.heap.size w w0 := Below.trans ((Below.refl w.heap.size w).alloc (Nat.le_refl _) _) (hy0.mono (Nat.le_succ _)); have hs0 := hy0.size; rw [World.size_alloc] at hs0; obtain ⟨_, _, _, _, _, _, _⟩ := (Box7.new w i (.slice p i.l.length c) 24).keep hy0 (Nat.lt_succ_self _); have HP0 := Lib.hid hap; clear hap))
  go_ret
  exact ⟨_, rfl, by rw [HD.out]; exact own_conv (own_low1 (own_keep HP0.out.own (by ((repeat' (first | with_reducible assumption | with_reducible exact Below.refl _ _ | with_reducible refine Below.drew ?_ | with_reducible refine Below.alloc ?_ (by first | omega | (simp; omega) | (simp; done) | fail) _ | with_reducible refine Below.setCell ?_ (by first | omega | (simp; omega) | (simp; done) | fail) _ | fail)); (first | done | fail))))) (by first | (simp; done) | (simp; omega)) (by simp), by ((repeat' (first | with_reducible assumption | with_reducible exact Below.refl _ _ | with_reducible refine Below.drew ?_ | with_reducible refine Below.alloc ?_ (by first | omega | (simp; omega) | (simp; done) | fail) _ | with_reducible refine Below.setCell ?_ (by first | omega | (simp; omega) | (simp; done) | fail) _ | fail)); (first | done | fail))⟩
set_option maxRecDepth 100000 in
set_option maxHeartbeats 1000000 in
theorem goesL_10 (i : InsD) (lv : Value) (x : Int) (hx0 : -9223372036854775808 ≤ x) (hx1 : x ≤ 9223372036854775807) (hlt : x < 9223372036854775807) (w : World) (hU : Us w) (hl : Ri w lv i.l) (hll : i.l.length ≤ 17592186043904) (h0 : doesB i.op 128 = true) (h1 : doesB i.op 32 = false) :
    Calls Tryz.prog 7 #[insV i lv, .int .i64 x] w (LPost w (goesD i x)) := by
  have HD := Lib.hid (show goesD i x = [] from by simp [goesD, nextI, hlt, h0, h1])
  have HU := Lib.hid hU
  have HL := Lib.hid hl
  obtain ⟨p, c, hlv, hx1, hx2, hx3⟩ := ri_form hl
  clear hU hl hx1 hx3
  subst hlv
  have H0 := Lib.hid h0
  have H1 := Lib.hid h1
  clear h0 h1
  unfold insV
  go_enter Tryz.func7, Tryz.ntmps7
  go_wp2_with (first
    | (go_at_call 10; (with_reducible refine (does_at (fl := 128) _ (HU.out.keep (by ((repeat' (first | with_reducible assumption | with_reducible exact Below.refl _ _ | with_reducible refine Below.drew ?_ | with_reducible refine Below.alloc ?_ (by first | omega | (simp; omega) | (simp; done) | fail) _ | with_reducible refine Below.setCell ?_ (by first | omega | (simp; omega) | (simp; done) | fail) _ | fail)); (first | done | fail)))) H0.out).mono ?_); rintro e w9 ⟨rfl, rfl⟩)
    | (go_at_call 10; (with_reducible refine (does_at (fl := 32) _ (HU.out.keep (by ((repeat' (first | with_reducible assumption | with_reducible exact Below.refl _ _ | with_reducible refine Below.drew ?_ | with_reducible refine Below.alloc ?_ (by first | omega | (simp; omega) | (simp; done) | fail) _ | with_reducible refine Below.setCell ?_ (by first | omega | (simp; omega) | (simp; done) | fail) _ | fail)); (first | done | fail)))) H1.out).mono ?_); rintro e w9 ⟨rfl, rfl⟩))
  go_ret
  exact ⟨_, rfl, by rw [HD.out]; exact OW.nil _ _, by ((repeat' (first | with_reducible assumption | with_reducible exact Below.refl _ _ | with_reducible refine Below.drew ?_ | with_reducible refine Below.alloc ?_ (by first | omega | (simp; omega) | (simp; done) | fail) _ | with_reducible refine Below.setCell ?_ (by first | omega | (simp; omega) | (simp; done) | fail) _ | fail)); (first | done | fail))⟩
set_option maxRecDepth 100000 in
set_option maxHeartbeats 1000000 in
theorem goesL_01 (i : InsD) (lv : Value) (x : Int) (hx0 : -9223372036854775808 ≤ x) (hx1 : x ≤ 9223372036854775807) (hlt : x < 9223372036854775807) (w : World) (hU : Us w) (hl : Ri w lv i.l) (hll : i.l.length ≤ 17592186043904) (h0 : doesB i.op 128 = false) (h1 : doesB i.op 32 = true) :
    Calls Tryz.prog 7 #[insV i lv, .int .i64 x] w (LPost w (goesD i x)) := by
  have HD := Lib.hid (show goesD i x = [x + 1] ++ [i.t] from by simp [goesD, nextI, hlt, h0, h1])
  have HU := Lib.hid hU
  have HL := Lib.hid hl
  obtain ⟨p, c, hlv, hx1, hx2, hx3⟩ := ri_form hl
  clear hU hl hx1 hx3
  subst hlv
  have H0 := Lib.hid h0
  have H1 := Lib.hid h1
  clear h0 h1
  unfold insV
  go_enter Tryz.func7, Tryz.ntmps7
  go_wp2_with (first
    | (go_at_call 10; (with_reducible refine (does_at (fl := 128) _ (HU.out.keep (by ((repeat' (first | with_reducible assumption | with_reducible exact Below.refl _ _ | with_reducible refine Below.drew ?_ | with_reducible refine Below.alloc ?_ (by first | omega | (simp; omega) | (simp; done) | fail) _ | with_reducible refine Below.setCell ?_ (by first | omega | (simp; omega) | (simp; done) | fail) _ | fail)); (first | done | fail)))) H0.out).mono ?_); rintro e w9 ⟨rfl, rfl⟩)
    | (go_at_call 10; (with_reducible refine (does_at (fl := 32) _ (HU.out.keep (by ((repeat' (first | with_reducible assumption | with_reducible exact Below.refl _ _ | with_reducible refine Below.drew ?_ | with_reducible refine Below.alloc ?_ (by first | omega | (simp; omega) | (simp; done) | fail) _ | with_reducible refine Below.setCell ?_ (by first | omega | (simp; omega) | (simp; done) | fail) _ | fail)); (first | done | fail)))) H1.out).mono ?_); rintro e w9 ⟨rfl, rfl⟩)
    | (at_builtin; refine wpList_app rfl (.tmp 14) (.tmp 16) rfl Tryz.underlying22 infoInt rfl rfl (v := .slice none 0 0) (base := w.heap.size + 1) (n := 0) (m := 1) (xs := []) (news := [.int .i64 (x + 1)]) (World.ownsRow_nil _ _ _ _) rfl (by exact src_top (by first | rfl | (simp; done))) (ones_int [(x + 1)]) (by unfold maxLen; omega) (by omega) (by first | omega | (simp; omega) | (simp; done)) ?_; intro v0 w0 hap; have hy0 : Below (w.heap.size + 1) (w.alloc (Obj.cells #[Value.int .i64 i.op, Value.int .i64 i.d, Value.int .i64 i.a, Value.int .i64 i.b, Value.int .i64 i.t, Value.int .i64 i.k, Value.slice p i.l.length c] 24)) w0 := Below.trans (by ((repeat' (first | with_reducible assumption | with_reducible exact Below.refl _ _ | with_reducible refine Below.drew ?_ | with_reducible refine Below.alloc ?_ (by first | omega | (simp; omega) | (simp; done) | fail) _ | with_reducible refine Below.setCell ?_ (by first | omega | (simp; omega) | (simp; done) | fail) _ | fail)); (first | done | fail)) : Below (w.heap.size + 1) (w.alloc (Obj.cells #[Value.int .i64 i.op, Value.int .i64 i.d, Value.int .i64 i.a, Value.int .i64 i.b, Value.int .i64 i.t, Value.int .i64 i.k, Value.slice p i.l.length c] 24)) _) (hap.below (by first | omega | (simp; omega) | (simp; done)) (fun g hg => (by simp [Value.ownBlock] at hg))); have hb0 : Below w.heap.size w w0 := Below.trans ((Below.refl w.heap.size w).alloc (Nat.le_refl _) _) (hy0.mono (Nat.le_succ _)); have hs0 := hy0.size; rw [World.size_alloc] at hs0; obtain ⟨_, _, _, _, _, _, _⟩ := (Box7.new w i (.slice p i.l.length c) 24).keep hy0 (Nat.lt_succ_self _); have HP0 := Lib.hid hap; clear hap)
    | (at_builtin; refine wpList_app rfl (.tmp 21) (.tmp 24) rfl Tryz.underlying22 infoInt rfl rfl (v := v0) (base := w.heap.size + 1) (n := (0 + 1)) (m := 1) (xs := ([] ++ [.int .i64 (x + 1)])) (news := [.int .i64 i.t]) (own_keep HP0.out.own (by ((repeat' (first | with_reducible assumption | with_reducible exact Below.refl _ _ | with_reducible refine Below.drew ?_ | with_reducible refine Below.alloc ?_ (by first | omega | (simp; omega) | (simp; done) | fail) _ | with_reducible refine Below.setCell ?_ (by first | omega | (simp; omega) | (simp; done) | fail) _ | fail)); (first | done | fail)))) rfl (by exact src_top (by first | rfl | (simp; done))) (ones_int [i.t]) (by unfold maxLen; omega) (by omega) (by first | omega | (simp; omega) | (simp; done)) ?_; intro v1 w1 hap; have hy1 : Below (w.heap.size + 1) (w.alloc (Obj.cells #[Value.int .i64 i.op, Value.int .i64 i.d, Value.int .i64 i.a, Value.int .i64 i.b, Value.int .i64 i.t, Value.int .i64 i.k, Value.slice p i.l.length c] 24)) w1 := Below.trans (by ((repeat' (first | with_reducible assumption | with_reducible exact Below.refl _ _ | with_reducible refine Below.drew ?_ | with_reducible refine Below.alloc ?_ (by first | omega | (simp; omega) | (simp; done) | fail) _ | with_reducible refine Below.setCell ?_ (by first | omega | (simp; omega) | (simp; done) | fail) _ | fail)); (first | done | fail)) : Below (w.heap.size + 1) (w.alloc (Obj.cells #[Value.int .i64 i.op, Value.int .i64 i.d, Value.int .i64 i.a, Value.int .i64 i.b, Value.int .i64 i.t, Value.int .i64 i.k, Value.slice p i.l.length c] 24)) _) (hap.below (by first | omega | (simp; omega) | (simp; done)) (fun g hg => (HP0.out.own.lt g hg).1)); have hb1 : Below w.heap.size w w1 := Below.trans ((Below.refl w.heap.size w).alloc (Nat.le_refl _) _) (hy1.mono (Nat.le_succ _)); have hs1 := hy1.size; rw [World.size_alloc] at hs1; obtain ⟨_, _, _, _, _, _, _⟩ := (Box7.new w i (.slice p i.l.length c) 24).keep hy1 (Nat.lt_succ_self _); have HP1 := Lib.hid hap; clear hap))
  go_ret
  exact ⟨_, rfl, by rw [HD.out]; exact own_conv (own_low1 (own_keep HP1.out.own (by ((repeat' (first | with_reducible assumption | with_reducible exact Below.refl _ _ | with_reducible refine Below.drew ?_ | with_reducible refine Below.alloc ?_ (by first | omega | (simp; omega) | (simp; done) | fail) _ | with_reducible refine Below.setCell ?_ (by first | omega | (simp; omega) | (simp; done) | fail) _ | fail)); (first | done | fail))))) (by first | (simp; done) | (simp; omega)) (by simp), by ((repeat' (first | with_reducible assumption | with_reducible exact Below.refl _ _ | with_reducible refine Below.drew ?_ | with_reducible refine Below.alloc ?_ (by first | omega | (simp; omega) | (simp; done) | fail) _ | with_reducible refine Below.setCell ?_ (by first | omega | (simp; omega) | (simp; done) | fail) _ | fail)); (first | done | fail))⟩
set_option maxRecDepth 100000 in
set_option maxHeartbeats 1000000 in
theorem goesL_11 (i : InsD) (lv : Value) (x : Int) (hx0 : -9223372036854775808 ≤ x) (hx1 : x ≤ 9223372036854775807) (hlt : x < 9223372036854775807) (w : World) (hU : Us w) (hl : Ri w lv i.l) (hll : i.l.length ≤ 17592186043904) (h0 : doesB i.op 128 = true) (h1 : doesB i.op 32 = true) :
    Calls Tryz.prog 7 #[insV i lv, .int .i64 x] w (LPost w (goesD i x)) := by
  have HD := Lib.hid (show goesD i x = [i.t] from by simp [goesD, nextI, hlt, h0, h1])
  have HU := Lib.hid hU
  have HL := Lib.hid hl
  obtain ⟨p, c, hlv, hx1, hx2, hx3⟩ := ri_form hl
  clear hU hl hx1 hx3
  subst hlv
  have H0 := Lib.hid h0
  have H1 := Lib.hid h1
  clear h0 h1
  unfold insV
  go_enter Tryz.func7, Tryz.ntmps7
  go_wp2_with (first
    | (go_at_call 10; (with_reducible refine (does_at (fl := 128) _ (HU.out.keep (by ((repeat' (first | with_reducible assumption | with_reducible exact Below.refl _ _ | with_reducible refine Below.drew ?_ | with_reducible refine Below.alloc ?_ (by first | omega | (simp; omega) | (simp; done) | fail) _ | with_reducible refine Below.setCell ?_ (by first | omega | (simp; omega) | (simp; done) | fail) _ | fail)); (first | done | fail)))) H0.out).mono ?_); rintro e w9 ⟨rfl, rfl⟩)
    | (go_at_call 10; (with_reducible refine (does_at (fl := 32) _ (HU.out.keep (by ((repeat' (first | with_reducible assumption | with_reducible exact Below.refl _ _ | with_reducible refine Below.drew ?_ | with_reducible refine Below.alloc ?_ (by first | omega | (simp; omega) | (simp; done) | fail) _ | with_reducible refine Below.setCell ?_ (by first | omega | (simp; omega) | (simp; done) | fail) _ | fail)); (first | done | fail)))) H1.out).mono ?_); rintro e w9 ⟨rfl, rfl⟩)
    | (at_builtin; refine wpList_app rfl (.tmp 21) (.tmp 24) rfl Tryz.underlying22 infoInt rfl rfl (v := .slice none 0 0) (base := w.heap.size + 1) (n := 0) (m := 1) (xs := []) (news := [.int .i64 i.t]) (World.ownsRow_nil _ _ _ _) rfl (by exact src_top (by first | rfl | (simp; done))) (ones_int [i.t]) (by unfold maxLen; omega) (by omega) (by first | omega | (simp; omega) | (simp; done)) ?_; intro v1 w1 hap; have hy1 : Below (w.heap.size + 1) (w.alloc (Obj.cells #[Value.int .i64 i.op, Value.int .i64 i.d, Value.int .i64 i.a, Value.int .i64 i.b, Value.int .i64 i.t, Value.int .i64 i.k, Value.slice p i.l.length c] 24)) w1 := Below.trans (by ((repeat' (first | with_reducible assumption | with_reducible exact Below.refl _ _ | with_reducible refine Below.drew ?_ | with_reducible refine Below.alloc ?_ (by first | omega | (simp; omega) | (simp; done) | fail) _ | with_reducible refine Below.setCell ?_ (by first | omega | (simp; omega) | (simp; done) | fail) _ | fail)); (first | done | fail)) : Below (w.heap.size + 1) (w.alloc (Obj.cells #[Value.int .i64 i.op, Value.int .i64 i.d, Value.int .i64 i.a, Value.int .i64 i.b, Value.int .i64 i.t, Value.int .i64 i.k, Value.slice p i.l.length c] 24)) _) (hap.below (by first | omega | (simp; omega) | (simp; done)) (fun g hg => (by simp [Value.ownBlock] at hg))); have hb1 : Below w.heap.size w w1 := Below.trans ((Below.refl w.heap.size w).alloc (Nat.le_refl _) _) (hy1.mono (Nat.le_succ _)); have hs1 := hy1.size; rw [World.size_alloc] at hs1; obtain ⟨_, _, _, _, _, _, _⟩ := (Box7.new w i (.slice p i.l.length c) 24).keep hy1 (Nat.lt_succ_self _); have HP1 := Lib.hid hap; clear hap))
  go_ret
  exact ⟨_, rfl, by rw [HD.out]; exact own_conv (own_low1 (own_keep HP1.out.own (by ((repeat' (first | with_reducible assumption | with_reducible exact Below.refl _ _ | with_reducible refine Below.drew ?_ | with_reducible refine Below.alloc ?_ (by first | omega | (simp; omega) | (simp; done) | fail) _ | with_reducible refine Below.setCell ?_ (by first | omega | (simp; omega) | (simp; done) | fail) _ | fail)); (first | done | fail))))) (by first | (simp; done) | (simp; omega)) (by simp), by ((repeat' (first | with_reducible assumption | with_reducible exact Below.refl _ _ | with_reducible refine Below.drew ?_ | with_reducible refine Below.alloc ?_ (by first | omega | (simp; omega) | (simp; done) | fail) _ | with_reducible refine Below.setCell ?_ (by first | omega | (simp; omega) | (simp; done) | fail) _ | fail)); (first | done | fail))⟩
set_option maxRecDepth 100000 in
set_option maxHeartbeats 1000000 in
theorem goesM_00 (i : InsD) (lv : Value) (x : Int) (hx0 : -9223372036854775808 ≤ x) (hx1 : x ≤ 9223372036854775807) (hlt : ¬ x < 9223372036854775807) (w : World) (hU : Us w) (hl : Ri w lv i.l) (hll : i.l.length ≤ 17592186043904) (h0 : doesB i.op 128 = false) (h1 : doesB i.op 32 = false) :
    Calls Tryz.prog 7 #[insV i lv, .int .i64 x] w (LPost w (goesD i x)) := by
  have HD := Lib.hid (show goesD i x = [x] from by simp [goesD, nextI, hlt, h0, h1])
  have HU := Lib.hid hU
  have HL := Lib.hid hl
  obtain ⟨p, c, hlv, hx1, hx2, hx3⟩ := ri_form hl
  clear hU hl hx1 hx3
  subst hlv
  have H0 := Lib.hid h0
  have H1 := Lib.hid h1
  clear h0 h1
  unfold insV
  go_enter Tryz.func7, Tryz.ntmps7
  go_wp2_with (first
    | (go_at_call 10; (with_reducible refine (does_at (fl := 128) _ (HU.out.keep (by ((repeat' (first | with_reducible assumption | with_reducible exact Below.refl _ _ | with_reducible refine Below.drew ?_ | with_reducible refine Below.alloc ?_ (by first | omega | (simp; omega) | (simp; done) | fail) _ | with_reducible refine Below.setCell ?_ (by first | omega | (simp; omega) | (simp; done) | fail) _ | fail)); (first | done | fail)))) H0.out).mono ?_); rintro e w9 ⟨rfl, rfl⟩)
    | (go_at_call 10; (with_reducible refine (does_at (fl := 32) _ (HU.out.keep (by ((repeat' (first | with_reducible assumption | with_reducible exact Below.refl _ _ | with_reducible refine Below.drew ?_ | with_reducible refine Below.alloc ?_ (by first | omega | (simp; omega) | (simp; done) | fail) _ | with_reducible refine Below.setCell ?_ (by first | omega | (simp; omega) | (simp; done) | fail) _ | fail)); (first | done | fail)))) H1.out).mono ?_); rintro e w9 ⟨rfl, rfl⟩)
    | (at_builtin; refine wpList_app rfl (.tmp 14) (.tmp 16) rfl Tryz.underlying22 infoInt rfl rfl (v := .slice none 0 0) (base := w.heap.size + 1) (n := 0) (m := 1) (xs := []) (news := [.int .i64 x]) (World.ownsRow_nil _ _ _ _) rfl (by exact src_top (by first | rfl | (simp; done))) (ones_int [x]) (by unfold maxLen; omega) (by omega) (by first | omega | (simp; omega) | (simp; done)) ?_; intro v0 w0 hap; have hy0 : Below (w.heap.size + 1) (w.alloc (Obj.cells #[Value.int .i64 i.op, Value.int .i64 i.d, Value.int .i64 i.a, Value.int .i64 i.b, Value.int .i64 i.t, Value.int .i64 i.k, Value.slice p i.l.length c] 24)) w0 := Below.trans (by ((repeat' (first | with_reducible assumption | with_reducible exact Below.refl _ _ | with_reducible refine Below.drew ?_ | with_reducible refine Below.alloc ?_ (by first | omega | (simp; omega) | (simp; done) | fail) _ | with_reducible refine Below.setCell ?_ (by first | omega | (simp; omega) | (simp; done) | fail) _ | fail)); (first | done | fail)) : Below (w.heap.size + 1) (w.alloc (Obj.cells #[Value.int .i64 i.op, Value.int .i64 i.d, Value.int .i64 i.a, Value.int .i64 i.b, Value.int .i64 i.t, Value.int .i64 i.k, Value.slice p i.l.length c] 24)) _) (hap.below (by first | omega | (simp; omega) | (simp; done)) (fun g hg => (by simp [Value.ownBlock] at hg))); have hb0 : Below w.heap.size w w0 := Below.trans ((Below.refl w.heap.size w).alloc (Nat.le_refl _) _) (hy0.mono (Nat.le_succ _)); have hs0 := hy0.size; rw [World.size_alloc] at hs0; obtain ⟨_, _, _, _, _, _, _⟩ := (Box7.new w i (.slice p i.l.length c) 24).keep hy0 (Nat.lt_succ_self _); have HP0 := Lib.hid hap; clear hap))
  go_ret
  exact ⟨_, rfl, by rw [HD.out]; exact own_conv (own_low1 (own_keep HP0.out.own (by ((repeat' (first | with_reducible assumption | with_reducible exact Below.refl _ _ | with_reducible refine Below.drew ?_ | with_reducible refine Below.alloc ?_ (by first | omega | (simp; omega) | (simp; done) | fail) _ | with_reducible refine Below.setCell ?_ (by first | omega | (simp; omega) | (simp; done) | fail) _ | fail)); (first | done | fail))))) (by first | (simp; done) | (simp; omega)) (by simp), by ((repeat' (first | with_reducible assumption | with_reducible exact Below.refl _ _ | with_reducible refine Below.drew ?_ | with_reducible refine Below.alloc ?_ (by first | omega | (simp; omega) | (simp; done) | fail) _ | with_reducible refine Below.setCell ?_ (by first | omega | (simp; omega) | (simp; done) | fail) _ | fail)); (first | done | fail))⟩
set_option maxRecDepth 100000 in
set_option maxHeartbeats 1000000 in
theorem goesM_10 (i : InsD) (lv : Value) (x : Int) (hx0 : -9223372036854775808 ≤ x) (hx1 : x ≤ 9223372036854775807) (hlt : ¬ x < 9223372036854775807) (w : World) (hU : Us w) (hl : Ri w lv i.l) (hll : i.l.length ≤ 17592186043904) (h0 : doesB i.op 128 = true) (h1 : doesB i.op 32 = false) :
    Calls Tryz.prog 7 #[insV i lv, .int .i64 x] w (LPost w (goesD i x)) := by
  have HD := Lib.hid (show goesD i x = [] from by simp [goesD, nextI, hlt, h0, h1])
  have HU := Lib.hid hU
  have HL := Lib.hid hl
  obtain ⟨p, c, hlv, hx1, hx2, hx3⟩ := ri_form hl
  clear hU hl hx1 hx3
  subst hlv
  have H0 := Lib.hid h0
  have H1 := Lib.hid h1
  clear h0 h1
  unfold insV
  go_enter Tryz.func7, Tryz.ntmps7
  go_wp2_with (first
    | (go_at_call 10; (with_reducible refine (does_at (fl := 128) _ (HU.out.keep (by ((repeat' (first | with_reducible assumption | with_reducible exact Below.refl _ _ | with_reducible refine Below.drew ?_ | with_reducible refine Below.alloc ?_ (by first | omega | (simp; omega) | (simp; done) | fail) _ | with_reducible refine Below.setCell ?_ (by first | omega | (simp; omega) | (simp; done) | fail) _ | fail)); (first | done | fail)))) H0.out).mono ?_); rintro e w9 ⟨rfl, rfl⟩)
    | (go_at_call 10; (with_reducible refine (does_at (fl := 32) _ (HU.out.keep (by ((repeat' (first | with_reducible assumption | with_reducible exact Below.refl _ _ | with_reducible refine Below.drew ?_ | with_reducible refine Below.alloc ?_ (by first | omega | (simp; omega) | (simp; done) | fail) _ | with_reducible refine Below.setCell ?_ (by first | omega | (simp; omega) | (simp; done) | fail) _ | fail)); (first | done | fail)))) H1.out).mono ?_); rintro e w9 ⟨rfl, rfl⟩))
  go_ret
  exact ⟨_, rfl, by rw [HD.out]; exact OW.nil _ _, by ((repeat' (first | with_reducible assumption | with_reducible exact Below.refl _ _ | with_reducible refine Below.drew ?_ | with_reducible refine Below.alloc ?_ (by first | omega | (simp; omega) | (simp; done) | fail) _ | with_reducible refine Below.setCell ?_ (by first | omega | (simp; omega) | (simp; done) | fail) _ | fail)); (first | done | fail))⟩
set_option maxRecDepth 100000 in
set_option maxHeartbeats 1000000 in
theorem goesM_01 (i : InsD) (lv : Value) (x : Int) (hx0 : -9223372036854775808 ≤ x) (hx1 : x ≤ 9223372036854775807) (hlt : ¬ x < 9223372036854775807) (w : World) (hU : Us w) (hl : Ri w lv i.l) (hll : i.l.length ≤ 17592186043904) (h0 : doesB i.op 128 = false) (h1 : doesB i.op 32 = true) :
    Calls Tryz.prog 7 #[insV i lv, .int .i64 x] w (LPost w (goesD i x)) := by
  have HD := Lib.hid (show goesD i x = [x] ++ [i.t] from by simp [goesD, nextI, hlt, h0, h1])
  have HU := Lib.hid hU
  have HL := Lib.hid hl
  obtain ⟨p, c, hlv, hx1, hx2, hx3⟩ := ri_form hl
  clear hU hl hx1 hx3
  subst hlv
  have H0 := Lib.hid h0
  have H1 := Lib.hid h1
  clear h0 h1
  unfold insV
  go_enter Tryz.func7, Tryz.ntmps7
  go_wp2_with (first
    | (go_at_call 10; (with_reducible refine (does_at (fl := 128) _ (HU.out.keep (by ((repeat' (first | with_reducible assumption | with_reducible exact Below.refl _ _ | with_reducible refine Below.drew ?_ | with_reducible refine Below.alloc ?_ (by first | omega | (simp; omega) | (simp; done) | fail) _ | with_reducible refine Below.setCell ?_ (by first | omega | (simp; omega) | (simp; done) | fail) _ | fail)); (first | done | fail)))) H0.out).mono ?_); rintro e w9 ⟨rfl, rfl⟩)
    | (go_at_call 10; (with_reducible refine (does_at (fl := 32) _ (HU.out.keep (by ((repeat' (first | with_reducible assumption | with_reducible exact Below.refl _ _ | with_reducible refine Below.drew ?_ | with_reducible refine Below.alloc ?_ (by first | omega | (simp; omega) | (simp; done) | fail) _ | with_reducible refine Below.setCell ?_ (by first | omega | (simp; omega) | (simp; done) | fail) _ | fail)); (first | done | fail)))) H1.out).mono ?_); rintro e w9 ⟨rfl, rfl⟩)
    | (at_builtin; refine wpList_app rfl (.tmp 14) (.tmp 16) rfl Tryz.underlying22 infoInt rfl rfl (v := .slice none 0 0) (base := w.heap.size + 1) (n := 0) (m := 1) (xs := []) (news := [.int .i64 x]) (World.ownsRow_nil _ _ _ _) rfl (by exact src_top (by first | rfl | (simp; done))) (ones_int [x]) (by unfold maxLen; omega) (by omega) (by first | omega | (simp; omega) | (simp; done)) ?_; intro v0 w0 hap; have hy0 : Below (w.heap.size + 1) (w.alloc (Obj.cells #[Value.int .i64 i.op, Value.int .i64 i.d, Value.int .i64 i.a, Value.int .i64 i.b, Value.int .i64 i.t, Value.int .i64 i.k, Value.slice p i.l.length c] 24)) w0 := Below.trans (by ((repeat' (first | with_reducible assumption | with_reducible exact Below.refl _ _ | with_reducible refine Below.drew ?_ | with_reducible refine Below.alloc ?_ (by first | omega | (simp; omega) | (simp; done) | fail) _ | with_reducible refine Below.setCell ?_ (by first | omega | (simp; omega) | (simp; done) | fail) _ | fail)); (first | done | fail)) : Below (w.heap.size + 1) (w.alloc (Obj.cells #[Value.int .i64 i.op, Value.int .i64 i.d, Value.int .i64 i.a, Value.int .i64 i.b, Value.int .i64 i.t, Value.int .i64 i.k, Value.slice p i.l.length c] 24)) _) (hap.below (by first | omega | (simp; omega) | (simp; done)) (fun g hg => (by simp [Value.ownBlock] at hg))); have hb0 : Below w.heap.size w w0 := Below.trans ((Below.refl w.heap.size w).alloc (Nat.le_refl _) _) (hy0.mono (Nat.le_succ _)); have hs0 := hy0.size; rw [World.size_alloc] at hs0; obtain ⟨_, _, _, _, _, _, _⟩ := (Box7.new w i (.slice p i.l.length c) 24).keep hy0 (Nat.lt_succ_self _); have HP0 := Lib.hid hap; clear hap)
    | (at_builtin; refine wpList_app rfl (.tmp 21) (.tmp 24) rfl Tryz.underlying22 infoInt rfl rfl (v := v0) (base := w.heap.size + 1) (n := (0 + 1)) (m := 1) (xs := ([] ++ [.int .i64 x])) (news := [.int .i64 i.t]) (own_keep HP0.out.own (by ((repeat' (first | with_reducible assumption | with_reducible exact Below.refl _ _ | with_reducible refine Below.drew ?_ | with_reducible refine Below.alloc ?_ (by first | omega | (simp; omega) | (simp; done) | fail) _ | with_reducible refine Below.setCell ?_ (by first | omega | (simp; omega) | (simp; done) | fail) _ | fail)); (first | done | fail)))) rfl (by exact src_top (by first | rfl | (simp; done))) (ones_int [i.t]) (by unfold maxLen; omega) (by omega) (by first | omega | (simp; omega) | (simp; done)) ?_; intro v1 w1 hap; have hy1 : Below (w.heap.size + 1) (w.alloc (Obj.cells #[Value.int .i64 i.op, Value.int .i64 i.d, Value.int .i64 i.a, Value.int .i64 i.b, Value.int .i64 i.t, Value.int .i64 i.k, Value.slice p i.l.length c] 24)) w1 := Below.trans (by ((repeat' (first | with_reducible assumption | with_reducible exact Below.refl _ _ | with_reducible refine Below.drew ?_ | with_reducible refine Below.alloc ?_ (by first | omega | (simp; omega) | (simp; done) | fail) _ | with_reducible refine Below.setCell ?_ (by first | omega | (simp; omega) | (simp; done) | fail) _ | fail)); (first | done | fail)) : Below (w.heap.size + 1) (w.alloc (Obj.cells #[Value.int .i64 i.op, Value.int .i64 i.d, Value.int .i64 i.a, Value.int .i64 i.b, Value.int .i64 i.t, Value.int .i64 i.k, Value.slice p i.l.length c] 24)) _) (hap.below (by first | omega | (simp; omega) | (simp; done)) (fun g hg => (HP0.out.own.lt g hg).1)); have hb1 : Below w.heap.size w w1 := Below.trans ((Below.refl w.heap.size w).alloc (Nat.le_refl _) _) (hy1.mono (Nat.le_succ _)); have hs1 := hy1.size; rw [World.size_alloc] at hs1; obtain ⟨_, _, _, _, _, _, _⟩ := (Box7.new w i (.slice p i.l.length c) 24).keep hy1 (Nat.lt_succ_self _); have HP1 := Lib.hid hap; clear hap))
  go_ret
  exact ⟨_, rfl, by rw [HD.out]; exact own_conv (own_low1 (own_keep HP1.out.own (by ((repeat' (first | with_reducible assumption | with_reducible exact Below.refl _ _ | with_reducible refine Below.drew ?_ | with_reducible refine Below.alloc ?_ (by first | omega | (simp; omega) | (simp; done) | fail) _ | with_reducible refine Below.setCell ?_ (by first | omega | (simp; omega) | (simp; done) | fail) _ | fail)); (first | done | fail))))) (by first | (simp; done) | (simp; omega)) (by simp), by ((repeat' (first | with_reducible assumption | with_reducible exact Below.refl _ _ | with_reducible refine Below.drew ?_ | with_reducible refine Below.alloc ?_ (by first | omega | (simp; omega) | (simp; done) | fail) _ | with_reducible refine Below.setCell ?_ (by first | omega | (simp; omega) | (simp; done) | fail) _ | fail)); (first | done | fail))⟩
set_option maxRecDepth 100000 in
set_option maxHeartbeats 1000000 in
theorem goesM_11 (i : InsD) (lv : Value) (x : Int) (hx0 : -9223372036854775808 ≤ x) (hx1 : x ≤ 9223372036854775807) (hlt : ¬ x < 9223372036854775807) (w : World) (hU : Us w) (hl : Ri w lv i.l) (hll : i.l.length ≤ 17592186043904) (h0 : doesB i.op 128 = true) (h1 : doesB i.op 32 = true) :
    Calls Tryz.prog 7 #[insV i lv, .int .i64 x] w (LPost w (goesD i x)) := by
  have HD := Lib.hid (show goesD i x = [i.t] from by simp [goesD, nextI, hlt, h0, h1])
  have HU := Lib.hid hU
  have HL := Lib.hid hl
  obtain ⟨p, c, hlv, hx1, hx2, hx3⟩ := ri_form hl
  clear hU hl hx1 hx3
  subst hlv
  have H0 := Lib.hid h0
  have H1 := Lib.hid h1
  clear h0 h1
  unfold insV
  go_enter Tryz.func7, Tryz.ntmps7
  go_wp2_with (first
    | (go_at_call 10; (with_reducible refine (does_at (fl := 128) _ (HU.out.keep (by ((repeat' (first | with_reducible assumption | with_reducible exact Below.refl _ _ | with_reducible refine Below.drew ?_ | with_reducible refine Below.alloc ?_ (by first | omega | (simp; omega) | (simp; done) | fail) _ | with_reducible refine Below.setCell ?_ (by first | omega | (simp; omega) | (simp; done) | fail) _ | fail)); (first | done | fail)))) H0.out).mono ?_); rintro e w9 ⟨rfl, rfl⟩)
    | (go_at_call 10; (with_reducible refine (does_at (fl := 32) _ (HU.out.keep (by ((repeat' (first | with_reducible assumption | with_reducible exact Below.refl _ _ | with_reducible refine Below.drew ?_ | with_reducible refine Below.alloc ?_ (by first | omega | (simp; omega) | (simp; done) | fail) _ | with_reducible refine Below.setCell ?_ (by first | omega | (simp; omega) | (simp; done) | fail) _ | fail)); (first | done | fail)))) H1.out).mono ?_); rintro e w9 ⟨rfl, rfl⟩)
    | (at_builtin; refine wpList_app rfl (.tmp 21) (.tmp 24) rfl Tryz.underlying22 infoInt rfl rfl (v := .slice none 0 0) (base := w.heap.size + 1) (n := 0) (m := 1) (xs := []) (news := [.int .i64 i.t]) (World.ownsRow_nil _ _ _ _) rfl (by exact src_top (by first | rfl | (simp; done))) (ones_int [i.t]) (by unfold maxLen; omega) (by omega) (by first | omega | (simp; omega) | (simp; done)) ?_; intro v1 w1 hap; have hy1 : Below (w.heap.size + 1) (w.alloc (Obj.cells #[Value.int .i64 i.op, Value.int .i64 i.d, Value.int .i64 i.a, Value.int .i64 i.b, Value.int .i64 i.t, Value.int .i64 i.k, Value.slice p i.l.length c] 24)) w1 := Below.trans (by ((repeat' (first | with_reducible assumption | with_reducible exact Below.refl _ _ | with_reducible refine Below.drew ?_ | with_reducible refine Below.alloc ?_ (by first | omega | (simp; omega) | (simp; done) | fail) _ | with_reducible refine Below.setCell ?_ (by first | omega | (simp; omega) | (simp; done) | fail) _ | fail)); (first | done | fail)) : Below (w.heap.size + 1) (w.alloc (Obj.cells #[Value.int .i64 i.op, Value.int .i64 i.d, Value.int .i64 i.a, Value.int .i64 i.b, Value.int .i64 i.t, Value.int .i64 i.k, Value.slice p i.l.length c] 24)) _) (hap.below (by first | omega | (simp; omega) | (simp; done)) (fun g hg => (by simp [Value.ownBlock] at hg))); have hb1 : Below w.heap.size w w1 := Below.trans ((Below.refl w.heap.size w).alloc (Nat.le_refl _) _) (hy1.mono (Nat.le_succ _)); have hs1 := hy1.size; rw [World.size_alloc] at hs1; obtain ⟨_, _, _, _, _, _, _⟩ := (Box7.new w i (.slice p i.l.length c) 24).keep hy1 (Nat.lt_succ_self _); have HP1 := Lib.hid hap; clear hap))
  go_ret
  exact ⟨_, rfl, by rw [HD.out]; exact own_conv (own_low1 (own_keep HP1.out.own (by ((repeat' (first | with_reducible assumption | with_reducible exact Below.refl _ _ | with_reducible refine Below.drew ?_ | with_reducible refine Below.alloc ?_ (by first | omega | (simp; omega) | (simp; done) | fail) _ | with_reducible refine Below.setCell ?_ (by first | omega | (simp; omega) | (simp; done) | fail) _ | fail)); (first | done | fail))))) (by first | (simp; done) | (simp; omega)) (by simp), by ((repeat' (first | with_reducible assumption | with_reducible exact Below.refl _ _ | with_reducible refine Below.drew ?_ | with_reducible refine Below.alloc ?_ (by first | omega | (simp; omega) | (simp; done) | fail) _ | with_reducible refine Below.setCell ?_ (by first | omega | (simp; omega) | (simp; done) | fail) _ | fail)); (first | done | fail))⟩
theorem goes_any (i : InsD) (lv : Value) (x : Int) (hx0 : -9223372036854775808 ≤ x) (hx1 : x ≤ 9223372036854775807) (w : World) (hU : Us w) (hl : Ri w lv i.l) (hll : i.l.length ≤ 17592186043904) : Calls Tryz.prog 7 #[insV i lv, .int .i64 x] w (LPost w (goesD i x)) := by
  by_cases hlt : x < 9223372036854775807
  · cases h0 : doesB i.op 128 with
    | false => cases h1 : doesB i.op 32 with
      | false => exact goesL_00 i lv x hx0 hx1 hlt w hU hl hll h0 h1
      | true => exact goesL_01 i lv x hx0 hx1 hlt w hU hl hll h0 h1
    | true => cases h1 : doesB i.op 32 with
      | false => exact goesL_10 i lv x hx0 hx1 hlt w hU hl hll h0 h1
      | true => exact goesL_11 i lv x hx0 hx1 hlt w hU hl hll h0 h1
  · cases h0 : doesB i.op 128 with
    | false => cases h1 : doesB i.op 32 with
      | false => exact goesM_00 i lv x hx0 hx1 hlt w hU hl hll h0 h1
      | true => exact goesM_01 i lv x hx0 hx1 hlt w hU hl hll h0 h1
    | true => cases h1 : doesB i.op 32 with
      | false => exact goesM_10 i lv x hx0 hx1 hlt w hU hl hll h0 h1
      | true => exact goesM_11 i lv x hx0 hx1 hlt w hU hl hll h0 h1
end Go.Proofs.YtebnbgnoldocaaaGreatDoor
